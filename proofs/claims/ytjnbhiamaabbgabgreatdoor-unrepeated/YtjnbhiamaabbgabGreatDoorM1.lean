import Derived.Test.YtjnbhiamaabbgabGreatDoorM0
import Derived.Conc.WgGenN3
import Derived.Conc.TokenWalk
import Derived.Conc.FxGenLone
import Derived.Conc.CompanyDraw
set_option linter.all false
set_option maxRecDepth 100000
set_option maxHeartbeats 8000000
namespace Go.Proofs.YtjnbhiamaabbgabGreatDoor
open Bool renaming false->bK,true->bL
open Go renaming Goroutine->aS,MapEntry->aK,Oper->aD,Program->aV,execOp->bG,results->aN,stepG->aZ,undef->bJ,unwind->aI
open Go.Conc renaming Deaf_other->aG,stepG_region_end->bB,stepG_seq->aO
open Go.Frame renaming enter->bF
open Go.GStep renaming after->bA
open Go.Instr renaming findKey->aT
open Go.MemAct renaming ofEvent->aU,touch?->aR
open Go.MemOp renaming ofEvents->bD
open Go.Proofs.Tryz renaming prog->bM
open Go.Region renaming wanted->aX
open Go.Region.linearise renaming go->aC
open Go.Result renaming andThen->aY
open Go.World renaming cell?->aQ,setCell->aF
open Go.stepG renaming apply->bH,exec->bI
open Option renaming none->bN,some->bO
open _root_.Array renaming replicate->aW
open _root_.Ne renaming symm->aL
namespace A
open Go Go.Conc
section
variable [pn:Pn]
section
variable {R:Ending→Zy→Prop} {f:FuncId} {args:Za} {rest:List Nat} {c:Code} {ops:Array aD} {g:Zg} {id:Nat} {tp:Nat→Question→Nat} {d:Nat} {t:Nat→Question→Nat}
section
variable {P:aV} {F:Array Func} {dm:Frame} {G':aS->World->Prop} {w w':World} {b:Frame} {a:Act} {k:List Item} {cs:List Frame}
def RX.kI(h:RX P g w G'):RX P g (A.re w tp d) G':=RX.re (tp:=w.tape) (d:=w.drawn)<|by rw[vK,KX];exact h
def kE(w w':Zy):Prop:=∃t d,w'=re w t d
def kE.rx(h:kE w w')(k:RX P g w G'):RX P g w' G':=by obtain⟨t,d,rfl⟩:=h;exact k.kI
theorem RX.ctl(K:J0 P F){g g':Zg}(f:¬Mc P g.frame.fn)(e:∀v,aZ (wf P F) bL g v= .go g' v)(l:g'.callers.length=g.callers.length)(hd:g'.dying=bN)(i:g'.status= .running)(h:RX P g' w G'):RX P g w G':=
 (RX.one K f (G:=fun c w1=>c=g'/\kE w w1) fun X _ t d=>⟨⟨g',A.re w t d,⟨#[],e _,hd,i⟩,rfl,t,d,rfl⟩,fun k m j a b=>by
  rw[e]at a;cases a;omega⟩).trans fun c w1 ⟨a,b⟩=>by subst a;exact b.rx h
def RX.value(K:J0 P F){i:Nat}{op:aD}{val:Zv}(l:¬Mc P b.fn)(ho:ops[i]?=bO op)(hw:aX op (yielded ops a.tmps)=bL)(hk:b.kind≠ .early)
  (f:∀t d,∃t' d',(bG a.eval op).run (wf P F) (A.re w t d)= .ok (.value val) (A.re w' t' d'))(m:RX P (Z0 (b.at (a.put op.dst val) (.inRegion ops rest::k)) cs) w' G'):
  RX P (Z0 (b.at a (.inRegion ops (i::rest)::k)) cs) w G':=
 (RX.one K l (G:=fun h w1=>h=Z0 (b.at (a.put op.dst val) (.inRegion ops rest::k)) cs/\kE w' w1) fun X _ t d=>by
  obtain⟨t',d',f⟩:=f t d;have j:=stepG_value (main:=bL) (k:=k) (cs:=cs) (rest:=rest) ho hw hk f;exact⟨⟨_,_,⟨_,j,rfl,rfl⟩,rfl,t',d',rfl⟩,fun o p n c e=>by
   have g:aZ (wf P F) bL (Z0 (b.at a (.inRegion ops (i::rest)::k)) cs) (A.re w t d)=_:=j;rw[g]at c;cases c;have:cs.length=cs.length+1:=e;omega⟩).trans fun h w1 ⟨c,e⟩=>by subst c;exact e.rx m
def RX.skip(K:J0 P F){i:Nat}{op:aD}(l:¬Mc P b.fn)(ho:ops[i]?=bO op)(hw:aX op (yielded ops a.tmps)=bL)(hk:b.kind≠ .early)
  (f:∀t d,∃t' d',(bG a.eval op).run (wf P F) (A.re w t d)= .ok .skip (A.re w' t' d'))(m:RX P (Z0 (b.at (a.put op.dst bJ) (.inRegion ops rest::k)) cs) w' G'):
  RX P (Z0 (b.at a (.inRegion ops (i::rest)::k)) cs) w G':=
 (RX.one K l (G:=fun h w1=>h=Z0 (b.at (a.put op.dst bJ) (.inRegion ops rest::k)) cs/\kE w' w1) fun X _ t d=>by
  obtain⟨t',d',f⟩:=f t d;have j:=stepG_none (main:=bL) (k:=k) (cs:=cs) (rest:=rest) ho hw hk f;exact⟨⟨_,_,⟨_,j,rfl,rfl⟩,rfl,t',d',rfl⟩,fun o p n c e=>by
   have g:aZ (wf P F) bL (Z0 (b.at a (.inRegion ops (i::rest)::k)) cs) (A.re w t d)=_:=j;rw[g]at c;cases c;have:cs.length=cs.length+1:=e;omega⟩).trans fun h w1 ⟨c,e⟩=>by subst c;exact e.rx m
def UJ(c0:Zf)(cs:List Zf):Ending->Zg->Prop
 | .returned v,g=>g=Z0 (c0.finish v) cs
 | .panicked ch,g=>g=Z0 (c0.raise ch) cs
 | .outgrown,_=>False
def CC(P:Zp)(f:FuncId)(args:Za)(w:Zy)(R:Ending->Zy->Prop):Prop:=
 ∀c0 cs,RX P (Z0 (bF P f args .normal) (c0::cs)) w fun g' w'=>∃e,R e w'/\UJ c0 cs e g'
def CC.mono{R c:Ending->Zy->Prop}(h:CC P f args w R)(k:∀e w',R e w'->c e w'):CC P f args w c:=fun d g=>(h d g).mono fun i w' ⟨e,a,b⟩=>⟨e,k _ _ a,b⟩
def CC.kI(h:CC P f args w R):CC P f args (re w tp d) R:=fun a b=>(h a b).kI
def kE.cc(h:kE w w')(k:CC P f args w R):CC P f args w' R:=by obtain⟨t,d,rfl⟩:=h;exact k.kI
def CC.jL(K:J0 P F)(g:gN P dm)(n:Ys P F f)(j:¬Mc P f)(m:∃fn,P.funcs[f]?=bO fn)(i:∀e w t d,R e (re w t d)->R e w)(c:∀w',¬R .outgrown w')
  (h:∀t d,Calls (wf P F) f args (re w t d) R):CC P f args w R:=fun p q=>by
 refine(CX.jL K g n j (fun _ _=>c) h _).trans ?_;rintro x w' ⟨e,s,⟨t,d,y,r,a⟩,rfl,b,k⟩;have a:=i _ _ _ _ a;cases e with
 |outgrown=>exact(c _ a).elim
 |returned v=>
  refine(RX.ret K (by rw[b];exact j) k).trans ?_;rintro l o ⟨t,d,rfl,rfl⟩;exact(RX.refl ⟨_,a,rfl⟩).kI
 |panicked ch=>
  refine(RX.raise k<|by rw[b];exact m).trans ?_;rintro l o ⟨rfl,rfl⟩;exact .refl ⟨_,a,rfl⟩
def RX.call(K:J0 P F){i:Nat}{op:aD}(p:¬Mc P b.fn)(ho:ops[i]?=bO op)(hw:aX op (yielded ops a.tmps)=bL)(hk:b.kind≠ .early)
  (x:∀v,(bG a.eval op).run (wf P F) v= .ok (.enter f args) v)(o:Ys P F f)(q:CC P f args w R)
  (s:∀v w',R (.returned v) w'->RX P (Z0 (b.at (a.put op.dst v) (.inRegion ops rest::k)) cs) w' G')
  (r:∀ch w',R (.panicked ch) w'->RX P (Z0 {b.at a (.inRegion ops (i::rest)::k)with mode:= .panicking ch} cs) w' G'):
  RX P (Z0 (b.at a (.inRegion ops (i::rest)::k)) cs) w G':=by
 refine(RX.one K p (G:=fun m w1=>m=Z0 (bF P f args .normal) (b.at a (.inRegion ops (i::rest)::k)::cs)/\kE w w1) fun X _ t d=>?_).trans fun m w1 ⟨c,l⟩=>?_;have h:=stepG_enter (main:=bL) (k:=k) (cs:=cs) (rest:=rest) ho hw hk<|x<|A.re w t d;rw[zdt o.1]at h;have j:aZ (wf P F) bL (Z0 (b.at a (.inRegion ops (i::rest)::k)) cs) (A.re w t d)=_:=h;exact⟨⟨_,_,⟨_,h,rfl,rfl⟩,rfl,t,d,rfl⟩,fun B C y c l _=>by
  rw[j]at c;cases c;exact o⟩
 subst c;refine(l.cc q _ _).trans ?_;rintro z w' ⟨e,n,g⟩;cases e with
 |outgrown=>exact g.elim
 |returned v=>cases g;rw[IB,ho];exact s _ _ n
 |panicked ch=>cases g;rw[Frame.raise_at];exact r _ _ n
def hot:List Item->Prop
 | .code (.refuse _)::_=>False
 |_=>True
def sV(b:Zf)(k:List Item)(cs:List Zf):Exit->Act->Zg->Prop
 | .normal,a,g=>hot k/\g=Z0 (b.at a k) cs
 | .exit id,a,g=>∃k',exitTo id k=bO k'/\hot k'/\g=Z0 (b.at a k') cs
 | .ret,a,g=>a.defers=[]/\∃todo,g=Z0 {b.at a todo with mode:= .returning} cs
 | .panic ch,a,g=>a.defers=[]/\∃todo,g=Z0 {b.at a todo with mode:= .panicking ch} cs
 |_,_,_=>False
def MR(k:List Item):Exit->Act->Prop
 | .normal,_=>hot k
 | .exit id,_=>∃k',exitTo id k=bO k'/\hot k'
 | .ret,a=>a.defers=[]
 | .panic _,a=>a.defers=[]
 |_,_=>False
def sV.alive(m:gN P dm){e:Exit}(h:sV b k cs e a g):¬sW P g:=by
 have d:∀{k:List Item},hot k->¬sW P (Z0 (b.at a k) cs):=by
  rintro k hk ⟨_,⟨_,s,j,e⟩|hd⟩;have e:k= .code (.refuse s)::j:=e;subst e;exact hk;have e:k=[.code<|.refuse ""]:=hd.1;subst e;exact hk
 cases e with
 |normal=>obtain⟨hk,rfl⟩:=h;exact d hk
 |exit id=>obtain⟨j,_,hk,rfl⟩:=h;exact d hk
 |goto l=>exact h.elim
 |ret=>
  obtain⟨hd,f,rfl⟩:=h;rintro⟨_,⟨i,_⟩|c⟩;cases i;have:a.defers=[⟨.fn (.method "") #[],#[]⟩]:=c.2.1;rw[hd]at this;cases this
 |panic ch=>
  obtain⟨hd,f,rfl⟩:=h;rintro⟨_,⟨i,_⟩|c⟩;cases i;have:a.defers=[⟨.fn (.method "") #[],#[]⟩]:=c.2.1;rw[hd]at this;cases this
 |outgrown=>exact h.elim
def sV.callers{e:Exit}(h:sV b k cs e a g):g.callers=cs:=by
 cases e with
 |normal=>obtain⟨_,rfl⟩:=h;rfl
 |exit id=>obtain⟨d,_,_,rfl⟩:=h;rfl
 |goto l=>exact h.elim
 |ret=>obtain⟨_,c,rfl⟩:=h;rfl
 |panic ch=>obtain⟨_,c,rfl⟩:=h;rfl
 |outgrown=>exact h.elim
def sV.with{e:Exit}{cs':List Zf}(h:sV b k cs e a g):sV b k cs' e a {g with callers:=cs'}:=by
 cases e with
 |normal=>obtain⟨d,rfl⟩:=h;exact⟨d,rfl⟩
 |exit id=>obtain⟨i,d,f,rfl⟩:=h;exact⟨i,d,f,rfl⟩
 |goto l=>exact h.elim
 |ret=>obtain⟨d,c,rfl⟩:=h;exact⟨d,c,rfl⟩
 |panic ch=>obtain⟨d,c,rfl⟩:=h;exact⟨d,c,rfl⟩
 |outgrown=>exact h.elim
def RX.wp(K:J0 P F)(p:gN P dm){Post:Exit->Act->Zy->Prop}(x:¬Mc P b.fn)(hk:b.kind= .normal)(q:∀e a w t d,Post e a (A.re w t d)↔Post e a w)(r:∀e a w,Post e a w->MR k e a)
  (h:∀t d,c.wp (wf P F) Post a<|A.re w t d)(y:∀e a' w' g',Post e a' w'->sV b k cs e a' g'->RX P g' w' G'):RX P (Z0 (b.at a (.code c::k)) cs) w G':=by
 refine(RX.lift (fr:=b.at a (.code c::k)) (cs:=cs) (w:=w) (dm:=dm) K p (End:=fun g' w'=>∃e a',Post e a' w'/\sV b k [dm] e a' g') (fun g' w' t d=>?_) ?_ x hk ?_).trans ?_;exact⟨fun⟨e,a',m,i⟩=>⟨e,a',(q ..).1 m,i⟩,fun⟨e,a',m,i⟩=>⟨e,a',(q ..).2 m,i⟩⟩;rintro g' w' ⟨e,a',_,i⟩;exact i.alive p;intro t d;obtain⟨e,a',w',j,f⟩:=h t d b k [dm];have n:=r _ _ _ j;cases e with
 |normal=>exact⟨_,_,w',f,.normal,a',j,n,rfl⟩
 |exit id=>obtain⟨v,m,i⟩:=n;exact⟨_,_,w',f v m,.exit id,a',j,v,m,i,rfl⟩
 |goto l=>exact n.elim
 |ret=>obtain⟨g,s⟩:=f;exact⟨_,_,w',s,.ret,a',j,n,g,rfl⟩
 |panic ch=>obtain⟨g,s⟩:=f;exact⟨_,_,w',s,.panic ch,a',j,n,g,rfl⟩
 |outgrown=>exact n.elim
 rintro z w' ⟨g',l,⟨e,a',j,f⟩,o,rfl⟩;have:l=[]:=by
  rw[f.callers]at o;have:=congrArg List.length o;simp only[zj,jd]at this;exact xa<|by omega
 subst this;exact y e a' w' _ j f.with
def RX.leave(K:J0 P F){fn:Func}{todo:List Item}{c:Zf}{v:Zv}(k:¬Mc P b.fn)(hk:b.kind= .normal)(hd:a.defers=[])(l:(wf P F).funcs[b.fn]?=bO fn)
  (i:∀t d,∃t' d',(aN fn a.tmps).run (wf P F) (A.re w t d)= .ok v (A.re w t' d'))(m:RX P (Z0 (c.finish v) cs) w G'):RX P (Z0 {b.at a todo with mode:= .returning} (c::cs)) w G':=by
 refine(RX.one K k (G:=fun j w1=>j=Z0 (c.finish v) cs/\kE w w1) fun X _ t d=>?_).trans fun j w1 ⟨e,g⟩=>by subst e;exact g.rx m
 obtain⟨t',d',i⟩:=i t d;have f:∃h,aZ (wf P F) bL (Z0 {b.at a todo with mode:= .returning} (c::cs)) (A.re w t d)= .go (Z0 (c.finish v) cs) (A.re w t' d') h:=by
  simp only[aZ,Z0,aI,doReturn,Frame.at,hk,hd,l,zg,i];exact⟨_,rfl⟩
 obtain⟨h,f⟩:=f;exact⟨⟨_,_,⟨_,f,rfl,rfl⟩,rfl,t',d',rfl⟩,fun n o h e g=>by
  rw[f]at e;cases e;have:cs.length=cs.length+1+1:=g;omega⟩
def RX.throw{todo:List Item}{c:Zf}{ch:List PanicEntry}(hd:a.defers=[])(d:∃fn,P.funcs[b.fn]?=bO fn)(i:RX P (Z0 (c.raise ch) cs) w G'):RX P (Z0 {b.at a todo with mode:= .panicking ch} (c::cs)) w G':=by
 obtain⟨fn,d⟩:=d;refine(RX.move (es:=#[]) (g':=Z0 (c.raise ch) cs) (fun v=>?_) (fun e=>⟨(e.2 c<|by simp[Z0]).raise _,fun x f=>e.2 x<|by simp[Z0]at f⊢;exact .inr f⟩) rfl rfl<|by simp).trans fun j w1 ⟨g,h⟩=>by subst g h;exact i
 simp[aZ,Z0,aI,Frame.catches,Frame.at,hd,d]
end
section
variable {P:aV} {F:Array Func} {dm:Frame} {w:World} {a:Act} {Q:Exit->Act->World->Prop} {fn:FuncId}
def Xn(P:Zp)(fn:FuncId)(c:Code)(Q:Exit->Act->Zy->Prop)(a:Act)(w:Zy):Prop:=
 ∀(b:Zf) (k:List Item) (cs:List Zf) (G':Zg->Zy->Prop),b.fn=fn->b.kind= .normal->(∀e a' w',Q e a' w'->MR k e a')->
  (∀e a' w' g',Q e a' w'->sV b k cs e a' g'->RX P g' w' G')->RX P (Z0 (b.at a (.code c::k)) cs) w G'
def Xn.kI(h:Xn P fn c Q a w):Xn P fn c Q a<|re w t d:=fun b k f e g i j l=>(h b k f e g i j l).kI
def Xn.zU:Xn P fn c Q a (re w t d)↔Xn P fn c Q a w:=⟨fun h=>by have:=h.kI (t:=w.tape) (d:=w.drawn);rwa[vK,KX]at this,fun h=>h.kI⟩
def Xn.of_wp(K:J0 P F)(f:gN P dm)(n:¬Mc P fn)(g:∀e a w t d,Q e a (re w t d)↔Q e a w)(h:∀t d,c.wp (wf P F) Q a<|re w t d):Xn P fn c Q a w:=fun b k p o i j l m=>
 RX.wp K f (by rw[i];exact n) j g l h m
def dV(K:Act->Zy->Prop)(Q:Exit->Act->Zy->Prop):Exit->Act->Zy->Prop
 | .normal,a,w=>K a w
 |e,a,w=>Q e a w
def Xn.seq(K:J0 P F){x y:Code}(r:¬Mc P fn)(hy:hot [.code y])(h:Xn P fn x (dV (fun a' w'=>Xn P fn y Q a' w') Q) a w):Xn P fn (.seq x y) Q a w:=fun b k i p n q f g=>by
 refine RX.ctl K (g':=Z0 (b.at a (.code x:: .code y::k)) i) (by show¬Mc P b.fn;rw[n];exact r) (fun v=>?_) rfl rfl rfl ?_;simp[aZ,Z0,Frame.at,bI];have hk:hot (.code y::k):=by
  unfold hot at hy⊢;split<;>first|trivial|(rename_i e;cases e;exact hy)
 refine h b (.code y::k) i p n q (fun e a' w' d=>?_) fun e a' w' g' d c=>?_;cases e with
 |normal=>exact hk
 |exit id=>obtain⟨o,j,m⟩:=f _ _ _ d;exact⟨o,j,m⟩
 |goto l=>exact f _ _ _ d
 |ret=>exact f _ _ _ d
 |panic ch=>exact f _ _ _ d
 |outgrown=>exact f _ _ _ d
 cases e with
 |normal=>
  obtain⟨_,rfl⟩:=c;exact d b k i p n q f g
 |exit id=>obtain⟨o,j,m,rfl⟩:=c;exact g _ a' w' _ d ⟨o,j,m,rfl⟩
 |goto l=>exact c.elim
 |ret=>exact g .ret a' w' _ d c
 |panic ch=>exact g _ a' w' _ d c
 |outgrown=>exact c.elim
def Xn.cond(K:J0 P F){o:Operand}{x y:Code}(l:¬Mc P fn){t:Bool}(ho:a.eval o= .bool t)(h:Xn P fn (if t then x else y) Q a w):Xn P fn (.cond o x y) Q a w:=fun b k d f e g i j=>by
 refine RX.ctl K (g':=Z0 (b.at a (.code (if t then x else y)::k)) d) (by show¬Mc P b.fn;rw[e];exact l) (fun v=>?_) rfl rfl rfl<|h b k d f e g i j;have c:(b.at a (.code (.cond o x y)::k)).eval o= .bool t:=ho;simp only[aZ,Z0,Frame.at,bI]at c⊢;rw[c]
def gY(P:Zp)(fn:FuncId)(ops:Array aD)(Q:Exit->Act->Zy->Prop)(rest:List Nat)(a:Act)(w:Zy):Prop:=
 ∀(b:Zf) (k:List Item) (cs:List Zf) (G':Zg->Zy->Prop),b.fn=fn->b.kind= .normal->(∀e a' w',Q e a' w'->MR k e a')->
  (∀e a' w' g',Q e a' w'->sV b k cs e a' g'->RX P g' w' G')->RX P (Z0 (b.at a (.inRegion ops rest::k)) cs) w G'
variable {ops:Array aD} {rest:List Nat} {i:Nat} {op:aD} {w':World}
def Xn.region(K:J0 P F)(j:¬Mc P fn)(h:gY P fn ops Q (List.range ops.size) a w):Xn P fn (.region id ops bK) Q a w:=fun b k c e d f g i=>by
 refine RX.ctl K (g':=Z0 (b.at a (.inRegion ops (List.range ops.size)::k)) c) (by show¬Mc P b.fn;rw[d];exact j) (fun v=>?_) rfl rfl rfl<|h b k c e d f g i;simp[aZ,Z0,Frame.at,bI]
def gY.nil(K:J0 P F)(g:¬Mc P fn)(h:Q .normal a w):gY P fn ops Q [] a w:=fun b k c i d j e f=>by
 refine RX.ctl K (g':=Z0 (b.at a k) c) (by show¬Mc P b.fn;rw[d];exact g) (fun v=>?_) rfl rfl rfl<|f .normal a w _ h ⟨e _ _ _ h,rfl⟩;simp[aZ,Z0,Frame.at,bI]
def gY.value(K:J0 P F){val:Zv}(m:¬Mc P fn)(ho:ops[i]?=bO op)(hw:aX op (yielded ops a.tmps)=bL)
  (n:∀t d,∃t' d',(bG a.eval op).run (wf P F) (re w t d)= .ok (.value val) (re w' t' d'))(h:gY P fn ops Q rest (a.put op.dst val) w'):gY P fn ops Q (i::rest) a w:=fun b k g f c e j l=>
 RX.value K (by rw[c];exact m) ho hw (by rw[e];simp) n (h b k g f c e j l)
def gY.skip(K:J0 P F)(m:¬Mc P fn)(ho:ops[i]?=bO op)(hw:aX op (yielded ops a.tmps)=bL)
  (n:∀t d,∃t' d',(bG a.eval op).run (wf P F) (re w t d)= .ok .skip (re w' t' d'))(h:gY P fn ops Q rest (a.put op.dst bJ) w'):gY P fn ops Q (i::rest) a w:=fun b k g f c e j l=>
 RX.skip K (by rw[c];exact m) ho hw (by rw[e];simp) n (h b k g f c e j l)
def gY.call(K:J0 P F)(m:¬Mc P fn)(hd:a.defers=[])(ho:ops[i]?=bO op)(hw:aX op (yielded ops a.tmps)=bL)
  (r:∀v,(bG a.eval op).run (wf P F) v= .ok (.enter f args) v)(q:Ys P F f)(n:CC P f args w R)
  (p:∀v w',R (.returned v) w'->gY P fn ops Q rest (a.put op.dst v) w')(o:∀ch w',R (.panicked ch) w'->Q (.panic ch) a w'):gY P fn ops Q (i::rest) a w:=fun b k j h d e l g=>
 RX.call K (by rw[d];exact m) ho hw (by rw[e];simp) r q n (fun v w' c=>p v w' c b k j h d e l g) (fun ch w' c=>g (.panic ch) a w' _ (o ch w' c) ⟨hd,_,rfl⟩)
def Xn.block(K:J0 P F){x:Code}(r:¬Mc P fn)(h:Xn P fn x (fun e a' w'=>match e with
  | .exit j=>if j=id then Q .normal a' w' else Q (.exit j) a' w'
  |e=>Q e a' w') a w):Xn P fn (.block id x) Q a w:=fun b k o s p t i m=>by
 refine RX.ctl K (g':=Z0 (b.at a (.code x:: .inBlock id::k)) o) (by show¬Mc P b.fn;rw[p];exact r) (fun v=>?_) rfl rfl rfl ?_;simp[aZ,Z0,Frame.at,bI];refine h b (.inBlock id::k) o s p t (fun e a' w' d=>?_) fun e a' w' g' d c=>?_;cases e with
 |normal=>trivial
 |exit j=>
  dsimp only at d;by_cases f:j=id;rw[aA f]at d;exact⟨k,by simp[exitTo,f],i _ _ _ d⟩;rw[aB f]at d;obtain⟨q,g,n⟩:=i _ _ _ d;exact⟨q,by simp only[exitTo];rw[aB<|by simpa using fun e=>f e.symm];exact g,n⟩
 |goto l=>exact i _ _ _ d
 |ret=>exact i _ _ _ d
 |panic ch=>exact i _ _ _ d
 |outgrown=>exact i _ _ _ d
 cases e with
 |normal=>
  obtain⟨_,rfl⟩:=c;refine RX.ctl K (g':=Z0 (b.at a' k) o) (by show¬Mc P b.fn;rw[p];exact r) (fun v=>?_) rfl rfl rfl<|m .normal a' w' _ d ⟨i _ _ _ d,rfl⟩;simp[aZ,Z0,Frame.at,bI]
 |exit j=>
  dsimp only at d;obtain⟨q,g,n,rfl⟩:=c;by_cases f:j=id;rw[aA f]at d;simp only[exitTo,f,BEq.rfl,if_true,zp]at g;subst g;exact m _ a' w' _ d ⟨n,rfl⟩;rw[aB f]at d;simp only[exitTo]at g;rw[aB<|by simpa using fun e=>f e.symm]at g;exact m _ a' w' _ d ⟨q,g,n,rfl⟩
 |goto l=>exact c.elim
 |ret=>exact m .ret a' w' _ d c
 |panic ch=>exact m _ a' w' _ d c
 |outgrown=>exact c.elim
def Xn.ret(K:J0 P F)(f:¬Mc P fn)(hd:a.defers=[])(h:Q .ret a w):Xn P fn .ret Q a w:=fun b k c g d i j e=>by
 refine RX.ctl K (g':=Z0 {b.at a (.code .ret::k)with mode:= .returning} c) (by show¬Mc P b.fn;rw[d];exact f) (fun v=>?_) rfl rfl rfl<|e .ret a w _ h ⟨hd,_,rfl⟩;simp[aZ,Z0,Frame.at,bI]
def Xn.loop(K:J0 P F){x:Code}(s:¬Mc P fn)(hx:hot [.code x])(I:Act->Zy->Prop)(m:Act->Zy->Nat)
  (r:∀a w,I a w->Xn P fn x (fun e a' w'=>match e with
   | .normal=>I a' w'/\m a' w'<m a w
   |e=>Q e a' w') a w):∀a w,I a w->Xn P fn (.loop x) Q a w:=by
 have q:∀(n:Nat) (a:Act) (w:Zy),m a w<=n->I a w->∀(b:Zf) (k:List Item) (g:List Zf) (i:Zg->Zy->Prop),b.fn=fn->b.kind= .normal->(∀e a' w',Q e a' w'->MR k e a')->
   (∀e a' w' g',Q e a' w'->sV b k g e a' g'->RX P g' w' i)->RX P (Z0 (b.at a (.code x:: .inLoop x::k)) g) w i:=by
  intro n;induction n with
  |zero=>
   intro a w t p b k g i j o f h;refine r a w p b (.inLoop x::k) g i j o (fun e a' w' d=>?_) fun e a' w' g' d c=>?_;cases e with
   |normal=>trivial
   |exit id=>exact f _ _ _ d
   |goto l=>exact f _ _ _ d
   |ret=>exact f _ _ _ d
   |panic ch=>exact f _ _ _ d
   |outgrown=>exact f _ _ _ d
   cases e with
   |normal=>have:=d.2;omega
   |exit id=>exact h _ _ _ _ d c
   |goto l=>exact c.elim
   |ret=>exact h _ _ _ _ d c
   |panic ch=>exact h _ _ _ _ d c
   |outgrown=>exact c.elim
  |succ n ih=>
   intro a w t p b k g i j o f h;refine r a w p b (.inLoop x::k) g i j o (fun e a' w' d=>?_) fun e a' w' g' d c=>?_;cases e with
   |normal=>trivial
   |exit id=>exact f _ _ _ d
   |goto l=>exact f _ _ _ d
   |ret=>exact f _ _ _ d
   |panic ch=>exact f _ _ _ d
   |outgrown=>exact f _ _ _ d
   cases e with
   |normal=>
    obtain⟨_,rfl⟩:=c;refine RX.ctl K (g':=Z0 (b.at a' (.code x:: .inLoop x::k)) g) (by show¬Mc P b.fn;rw[j];exact s) (fun v=>?_) rfl rfl rfl<|ih a' w' (by have:=d.2;omega) d.1 b k g i j o f h;simp[aZ,Z0,Frame.at,bI]
   |exit id=>exact h _ _ _ _ d c
   |goto l=>exact c.elim
   |ret=>exact h _ _ _ _ d c
   |panic ch=>exact h _ _ _ _ d c
   |outgrown=>exact c.elim
 intro a w p b k g i j o f h;refine RX.ctl K (g':=Z0 (b.at a (.code x:: .inLoop x::k)) g) (by show¬Mc P b.fn;rw[j];exact s) (fun v=>?_) rfl rfl rfl<|q _ a w (ze _) p b k g i j o f h;simp[aZ,Z0,Frame.at,bI]
def CC.zQ(K:J0 P F){fnc:Func}(s:¬Mc P f)(z:F[f]?=P.funcs[f]?)(q:P.funcs[f]?=bO fnc)(x:fnc.body=bO c)(B:hot [])
  (h:Xn P f c (fun e a w=>a.defers=[]/\match e with
   | .normal| .ret=>∃v,(∀t d,∃t' d',(aN fnc a.tmps).run (wf P F) (re w t d)= .ok v (re w t' d'))/\R (.returned v) w
   | .panic ch=>R (.panicked ch) w
   |_=>False) ⟨args++aW (fnc.ntmps-args.size) bJ,[]⟩ w):CC P f args w R:=fun o p=>by
 have y:bF P f args .normal=(bF P f args .normal).at ⟨args++aW (fnc.ntmps-args.size) bJ,[]⟩ [.code c]:=by
  simp[bF,Frame.at,q,x]
 rw[y];have r:(wf P F).funcs[f]?=bO fnc:=by show F[f]?=_;rw[z];exact q
 refine h (bF P f args .normal) [] (o::p) _ rfl rfl (fun e n j b=>?_) fun e n j g' b i=>?_;cases e with
 |normal=>trivial
 |ret=>exact b.1
 |panic ch=>exact b.1
 |exit id=>exact b.2.elim
 |goto l=>exact b.2.elim
 |outgrown=>exact b.2.elim
 have leave:∀(g:List Item) v,(∀t d,∃t' d',(aN fnc n.tmps).run (wf P F) (re j t d)= .ok v (re j t' d'))->R (.returned v) j->RX P (Z0 {(bF P f args .normal).at n g with mode:= .returning} (o::p)) j (fun g' j=>∃e,R e j/\UJ o p e g'):=fun g v m k=>
  RX.leave K s rfl b.1 r m (.refl ⟨_,k,rfl⟩)
 cases e with
 |normal=>
  obtain⟨_,rfl⟩:=i;obtain⟨hd,v,m,k⟩:=b;refine RX.ctl K (g':=Z0 {(bF P f args .normal).at n []with mode:= .returning} (o::p)) s (fun v=>?_) rfl rfl rfl<|leave _ v m k;simp[aZ,Z0,Frame.at,bI]
 |ret=>
  obtain⟨_,g,rfl⟩:=i;obtain⟨hd,v,m,k⟩:=b;exact leave _ v m k
 |panic ch=>
  obtain⟨_,g,rfl⟩:=i;exact RX.throw b.1 ⟨_,q⟩<|.refl ⟨_,b.2,rfl⟩
 |exit id=>exact b.2.elim
 |goto l=>exact b.2.elim
 |outgrown=>exact b.2.elim
end
section
variable {P:aV} {F:Array Func} {dm:Frame} {w:World} {a:Act} {Q:Exit->Act->World->Prop} {fn:FuncId} {ops:Array aD} {md:Region.Mode}
def gY.eqv{w':Zy}(h:kE w w')(k:gY P fn ops Q rest a w):gY P fn ops Q rest a w':=fun b j d c e f g i=>h.rx<|k b j d c e f g i
def Xn.draw(K:J0 P F)(s:¬Mc P fn)(y:P.follows .mixedOrders=bL)(h:∀t,gY P fn ops Q (aC .any ops ops.size t (aW ops.size bK) []) a w):Xn P fn (.region id ops bL) Q a w:=fun b k c o m p q r=>by
 have v:¬Mc P b.fn:=by rw[m];exact s
 refine(RX.one K v (G:=fun l w1=>∃t,l=Z0 (b.at a (.inRegion ops (aC .any ops ops.size t (aW ops.size bK) [])::k)) c/\kE w w1) fun X _ t d=>?_).trans fun l w1 ⟨t,f,g⟩=>?_;have z:∃n j,aZ (wf P F) bL (Z0 (b.at a (.code (.region id ops bL)::k)) c) (A.re w t d)= .go (Z0 (b.at a (.inRegion ops (aC .any ops ops.size n (aW ops.size bK) [])::k)) c) j #[]/\kE w j:=by
  have i:(wf P F).follows .mixedOrders=bL:=y;refine⟨t d<|.order b.fn id,A.re w t _,?_,t,d+1,rfl⟩;simp[aZ,Z0,Frame.at,bI,choose,Sem.run,Region.schedule,i,Region.linearise,A.re];rfl
 obtain⟨n,j,e,x⟩:=z;exact⟨⟨_,_,⟨_,e,rfl,rfl⟩,n,rfl,x⟩,fun C D B f g=>by
  rw[e]at f;cases f;have:c.length=c.length+1:=g;omega⟩
 subst f;exact g.rx<|h t b k c o m p q r
def oX(P:Zp)(fn:FuncId)(ops:Array aD)(Q:Exit->Act->Zy->Prop)(i:Nat)(K:Act->Zy->Prop)(a:Act)(w:Zy):Prop:=
 ∀rest,(∀a' w',K a' w'->gY P fn ops Q rest a' w')->gY P fn ops Q (i::rest) a w
def UH(P:Zp)(fn:FuncId)(md:Region.Mode)(ops:Array aD)(Q:Exit->Act->Zy->Prop):Nat->Array Bool->Act->Zy->Prop
 |0,listed,a,w=>Region.ready md ops listed=[]/\Q .normal a w
 |fuel+1,listed,a,w=>(Region.ready md ops listed=[]->Q .normal a w)/\∀i∈Region.ready md ops listed,oX P fn ops Q i (UH P fn md ops Q fuel<|listed.setIfInBounds i bL) a w
def zvk(K:J0 P F)(d:¬Mc P fn):∀(fuel t:Nat) (listed:Array Bool) (a:Act) (w:Zy),UH P fn md ops Q fuel listed a w->gY P fn ops Q (aC md ops fuel t listed []) a w:=by
 intro fuel;induction fuel with
 |zero=>intro t listed a w h;simpa[aC]using gY.nil (ops:=ops) K d h.2
 |succ fuel ih=>
  intro t listed a w h;obtain⟨f,g⟩:=h;simp only[aC];change gY P fn ops Q (match(Region.ready md ops listed)[t%(Region.ready md ops listed).length]?with
   |some i=>aC md ops fuel (t/(Region.ready md ops listed).length) (listed.setIfInBounds i bL) [i]
   |none=>[].reverse) a w
  cases hi:(Region.ready md ops listed)[t%(Region.ready md ops listed).length]?with
  |none=>
   have b:Region.ready md ops listed=[]:=by
    cases hr:Region.ready md ops listed with
    |nil=>rfl
    |cons x xs=>
     rw[hr]at hi;have c:t%(x::xs).length<(x::xs).length:=Nat.mod_lt _ (by simp);simp at hi;simp at c;omega
   simpa using gY.nil (ops:=ops) K d<|f b
  |some i=>
   simp only[];rw[linearise_go_acc,XW,Wm];exact g i (List.mem_of_getElem? hi) _ fun e j hk=>ih _ _ e j hk
def Xn.any(K:J0 P F)(b:¬Mc P fn)(c:P.follows .mixedOrders=bL)(h:UH P fn .any ops Q ops.size (aW ops.size bK) a w):Xn P fn (.region id ops bL) Q a w:=
 Xn.draw K b c fun t=>zvk K b _ t _ a w h
end
section
variable {P:aV} {F:Array Func} {dm:Frame} {w w':World} {a:Act} {Q:Exit->Act->World->Prop} {fn:FuncId} {ops:Array aD} {md:Region.Mode} {i:Nat} {op:aD} {N:Act->World->Prop}
def oX.mono{c:Act->Zy->Prop}(h:∀a w,N a w->c a w)(k:oX P fn ops Q i N a w):oX P fn ops Q i c a w:=fun b hk=>k b fun d e f=>hk d e<|h d e f
def oX.value(K:J0 P F){val:Zv}(c:¬Mc P fn)(ho:ops[i]?=bO op)(hw:aX op (yielded ops a.tmps)=bL)
  (e:∀t d,∃t' d',(bG a.eval op).run (wf P F) (A.re w t d)= .ok (.value val) (A.re w' t' d'))(h:N (a.put op.dst val) w'):oX P fn ops Q i N a w:=fun b hk=>gY.value K c ho hw e<|hk _ _ h
def oX.skip(K:J0 P F)(c:¬Mc P fn)(ho:ops[i]?=bO op)(hw:aX op (yielded ops a.tmps)=bL)
  (e:∀t d,∃t' d',(bG a.eval op).run (wf P F) (A.re w t d)= .ok .skip (A.re w' t' d'))(h:N (a.put op.dst bJ) w'):oX P fn ops Q i N a w:=fun b hk=>gY.skip K c ho hw e<|hk _ _ h
def oX.call(K:J0 P F)(c:¬Mc P fn)(hd:a.defers=[])(ho:ops[i]?=bO op)(hw:aX op (yielded ops a.tmps)=bL)
  (k:∀v,(bG a.eval op).run (wf P F) v= .ok (.enter f args) v)(j:Ys P F f)(e:CC P f args w R)
  (h:∀v w',R (.returned v) w'->N (a.put op.dst v) w')(g:∀ch w',R (.panicked ch) w'->Q (.panic ch) a w'):oX P fn ops Q i N a w:=fun b hk=>gY.call K c hd ho hw k j e (fun v w' d=>hk _ _<|h v w' d) g
end
section
variable {P:aV} {F:Array Func} {dm:Frame} {w w':World} {a:Act} {Q:Exit->Act->World->Prop} {fn:FuncId} {ops:Array aD} {i:Nat} {op:aD} {rest:List Nat}
def RX.mP{b:Zf}{k:List Item}{cs:List Zf}{G':Zg->Zy->Prop}(ho:ops[i]?=bO op)(hw:aX op (yielded ops a.tmps)=bL)(hk:b.kind≠ .early)
  (t:∀v,(bG a.eval op).run P v= .ok (.enter f args) v)(q:∀v,listed P b.fn a op v=#[])(r:Mc P f)(m:CC P f args w R)
  (s:∀v w',R (.returned v) w'->RX P (Z0 (b.at (a.put op.dst v) (.inRegion ops rest::k)) cs) w' G')
  (p:∀ch w',R (.panicked ch) w'->RX P (Z0 {b.at a (.inRegion ops (i::rest)::k)with mode:= .panicking ch} cs) w' G'):
  RX P (Z0 (b.at a (.inRegion ops (i::rest)::k)) cs) w G':=by
 refine(RX.move (g':=Z0 (bF P f args .normal) (b.at a (.inRegion ops (i::rest)::k)::cs)) (es:=#[]) (fun v=>by rw[<-q v];exact stepG_enter ho hw hk<|t v) (fun d=>⟨.inl ?_,fun c h=>?_⟩) rfl rfl fun X n e o=>by simp at o).trans ?_;show Mc P (bF P f args .normal).fn;have:(bF P f args .normal).fn=f:=by unfold bF;first|rfl|(split<;>rfl)
 rw[this];exact r;rcases xf.1 h with rfl|l
 exact d.1;exact d.2 c l;rintro x w1 ⟨rfl,rfl⟩;refine(m _ _).trans ?_;rintro g' w' ⟨e,j,g⟩;cases e with
 |outgrown=>exact g.elim
 |returned v=>cases g;rw[IB,ho];exact s _ _ j
 |panicked ch=>cases g;rw[Frame.raise_at];exact p _ _ j
def gY.mP(hd:a.defers=[])(ho:ops[i]?=bO op)(hw:aX op (yielded ops a.tmps)=bL)
  (r:∀v,(bG a.eval op).run P v= .ok (.enter f args) v)(o:∀v,listed P fn a op v=#[])(p:Mc P f)(m:CC P f args w R)
  (q:∀v w',R (.returned v) w'->gY P fn ops Q rest (a.put op.dst v) w')(n:∀ch w',R (.panicked ch) w'->Q (.panic ch) a w'):gY P fn ops Q (i::rest) a w:=fun b k j h d e l g=>
 RX.mP ho hw (by rw[e];simp) r (by rw[d];exact o) p m (fun v w' c=>q v w' c b k j h d e l g) (fun ch w' c=>g (.panic ch) a w' _ (n ch w' c) ⟨hd,_,rfl⟩)
end
end
end
section
open Go.RowKit
variable [pn:Pn]
section
variable {R:Ending→Zy→Prop}
section
variable {P:aV} {F:Array Func} {dm:Frame} {w w':World} {a:Act} {Q:Exit->Act->World->Prop} {fn:FuncId} {ops:Array aD} {rest:List aD} {op:aD}
def kT(Q:Exit->Act->Zy->Prop):Prop:=∀e a w t d,Q e a (re w t d)↔Q e a w
def kT.dV(h:kT Q){y:Code}:kT<|A.dV (fun a' w'=>Xn P fn y Q a' w') Q:=by
 intro e a w t d;cases e with
 |normal=>exact Xn.zU
 |exit id=>exact h _ _ _ _ _
 |goto l=>exact h _ _ _ _ _
 |ret=>exact h _ _ _ _ _
 |panic ch=>exact h _ _ _ _ _
 |outgrown=>exact h _ _ _ _ _
def Xn.go(K:J0 P F)(b:gN P dm)(c:¬Mc P fn)(e:kT Q){x y:Code}(hy:hot [.code y])(h:∀t d,x.wp (wf P F) (A.dV (fun a' w'=>Xn P fn y Q a' w') Q) a<|re w t d):Xn P fn (.seq x y) Q a w:=
 Xn.seq K c hy (Xn.of_wp K b c e.dV h)
def Xn.go'(K:J0 P F)(b:gN P dm)(c:¬Mc P fn)(f:kT Q){x y:Code}(hy:hot [.code y])
  (h:∀(w0:Zy) (Po:Exit->Act->Zy->Prop),kE w w0->Hid (∀a' w',Xn P fn y Q a' w'->Po .normal a' w')->Hid (∀e a' w',e≠ .normal->Q e a' w'->Po e a' w')->x.wp (wf P F) Po a w0):Xn P fn (.seq x y) Q a w:=
 Xn.go K b c f hy fun t d=>h _ _ ⟨t,d,rfl⟩ (fun a' w' i=>i) fun e a' w' g j=>by cases e<;>first|exact j|exact absurd rfl g
def Xn.last'(K:J0 P F)(b:gN P dm)(c:¬Mc P fn)(f:kT Q){x:Code}
  (h:∀(w0:Zy) (Po:Exit->Act->Zy->Prop),kE w w0->Hid (∀e a' w',Q e a' w'->Po e a' w')->x.wp (wf P F) Po a w0):Xn P fn x Q a w:=
 Xn.of_wp K b c f fun t d=>h _ _ ⟨t,d,rfl⟩ fun e a' w' g=>g
def nJ(P:Zp)(F:Zc)(fnc:Func)(R:Ending->Zy->Prop)(e:Exit)(a:Act)(w:Zy):Prop:=
 a.defers=[]/\match e with
   | .normal| .ret=>∃v,(∀t d,∃t' d',(aN fnc a.tmps).run (wf P F) (re w t d)= .ok v (re w t' d'))/\R (.returned v) w
   | .panic ch=>R (.panicked ch) w
   |_=>False
def AO{fnc:Func}(b:∀e w t d,R e (re w t d)↔R e w):kT<|nJ P F fnc R:=by
 intro e a w t d;refine and_congr_right fun _=>?_;cases e with
 |normal=>exact exists_congr fun v=>and_congr (by simp only[vK])<|b ..
 |ret=>exact exists_congr fun v=>and_congr (by simp only[vK])<|b ..
 |panic ch=>exact b ..
 |exit id=>exact Iff.rfl
 |goto l=>exact Iff.rfl
 |outgrown=>exact Iff.rfl
def CC.fA(K:J0 P F){f:FuncId}{args:Za}{fnc:Func}{c:Code}(a:¬Mc P f)(e:F[f]?=P.funcs[f]?)(d:P.funcs[f]?=bO fnc)(b:fnc.body=bO c)
  (h:Xn P f c (nJ P F fnc R) ⟨args++aW (fnc.ntmps-args.size) bJ,[]⟩ w):CC P f args w R:=CC.zQ K a e d b trivial h
def Jc(P:Zp)(fn:FuncId)(ops:Array aD)(Q:Exit->Act->Zy->Prop)(l:List aD)(a:Act)(w:Zy):Prop:=
 ∀k,(∀j,l[j]?=ops[k+j]?)->gY P fn ops Q (List.range' k l.length) a w
def Xn.dB(K:J0 P F){id:Nat}{l:List aD}(b:¬Mc P fn)(h:Jc P fn l.toArray Q l a w):Xn P fn (.region id l.toArray bK) Q a w:=by
 refine Xn.region K b ?_;have:=h 0 (fun j=>by simp);rwa[List.range_eq_range']
def Jc.nil(K:J0 P F)(b:¬Mc P fn)(h:Q .normal a w):Jc P fn ops Q [] a w:=fun k hk=>gY.nil K b h
def Jc.jG{l:List aD}{k:Nat}(h:∀j,(op::l)[j]?=ops[k+j]?):ops[k]?=bO op/\∀j,l[j]?=ops[k+1+j]?:=
 ⟨by simpa using(h 0).symm,fun j=>by have:=h<|j+1;simpa[Ja,zW 1 j]using this⟩
def Jc.value(K:J0 P F){val:Zv}(e:¬Mc P fn)(hw:aX op (yielded ops a.tmps)=bL)
  (f:∀t d,∃t' d',(bG a.eval op).run (wf P F) (re w t d)= .ok (.value val) (re w' t' d'))(h:Jc P fn ops Q rest (a.put op.dst val) w'):Jc P fn ops Q (op::rest) a w:=fun k hk=>by
 obtain⟨b,c⟩:=Jc.jG hk;rw[zh,IG];exact gY.value K e b hw f<|h _ c
def Jc.call(K:J0 P F){f:FuncId}{args:Za}(d:¬Mc P fn)(hd:a.defers=[])(hw:aX op (yielded ops a.tmps)=bL)
  (l:∀v,(bG a.eval op).run (wf P F) v= .ok (.enter f args) v)(j:Ys P F f)(g:CC P f args w R)
  (i:∀v w',R (.returned v) w'->Jc P fn ops Q rest (a.put op.dst v) w')(h:∀ch w',R (.panicked ch) w'->Q (.panic ch) a w'):Jc P fn ops Q (op::rest) a w:=fun k hk=>by
 obtain⟨b,c⟩:=Jc.jG hk;rw[zh,IG];exact gY.call K d hd b hw l j g (fun v w' e=>i v w' e _ c) h
def Jc.mP{f:FuncId}{args:Za}(hd:a.defers=[])(hw:aX op (yielded ops a.tmps)=bL)
  (l:∀v,(bG a.eval op).run P v= .ok (.enter f args) v)(h:∀v,listed P fn a op v=#[])(i:Mc P f)(e:CC P f args w R)
  (j:∀v w',R (.returned v) w'->Jc P fn ops Q rest (a.put op.dst v) w')(g:∀ch w',R (.panicked ch) w'->Q (.panic ch) a w'):Jc P fn ops Q (op::rest) a w:=fun k hk=>by
 obtain⟨b,c⟩:=Jc.jG hk;rw[zh,IG];exact gY.mP hd b hw l h i e (fun v w' d=>j v w' d _ c) g
end
end
end
section
variable [pn:Pn]
section
variable {X:Nat->Prop} {Th:Loc->Prop} {Wg C c p B:Nat} {a0:Addr} {T u:Trace}
def qX(Wg:Nat)(l:Loc):Prop:=∃a,l= .cell a/\a.block=Wg
structure NK(X:ZP)(Th:Loc->Prop)(Wg C:Nat):Prop where
 th:∀l,Th l->oI X l\/∃r,l= .obj r/\X r
 wg:X Wg
 no:∀l,Th l->¬qX Wg l
 nc:¬Th (.obj C)
 xc:X C
structure TP(X:ZP)(Th:Loc->Prop)(Wg C c:Nat)(a0:Addr)(p B:Nat)(T:Trace):Prop where
 clean:∀said,¬Race said T
 k0:∀i a,touchAt T i=bO a->a.loc.isMemory=bL->Knows T 0 i\/(oI X a.loc/\a.kind= .atomic)\/(T.g? i=bO c/\Th a.loc/\a.write=bK/\a.kind= .plain)\/(rZ X a.loc/\¬Th a.loc/\a.write=bK)
 kc:∀i a,touchAt T i=bO a->Th a.loc->a.write=bL->Knows T c i
 kt:∀i a,touchAt T i=bO a->Th a.loc->Knows T 0 i\/(T.g? i=bO c/\a.write=bK/\a.kind= .plain)
 kC:∀i a,touchAt T i=bO a->a.loc= .obj C->a.write=bK
 kw:∀i a,touchAt T i=bO a->qX Wg a.loc->a.kind≠ .plain/\(a.kind= .said->Knows T 0 i)
 over:∀i g,T.g? i=bO g->g≠0->T.counts i->(∃j,T.g? j=bO 0/\HappensBefore T i j)\/g=c
 seen:∀i a,touchAt T i=bO a->a.loc.low B
 norel:∀i,p<=i->T.act? i≠bO (.mark<|.release a0)
def eE(X:ZP)(Th:Loc->Prop)(Wg C c g:Nat)(b:Touch):Prop:=
 (g=0/\(¬oI X b.loc\/Th b.loc)/\(Th b.loc->b.write=bK\/c=0)/\(rZ X b.loc->¬Th b.loc->b.write=bK))\/(qX Wg b.loc/\(b.kind= .atomic\/(b.kind= .said/\g=0)))\/(g=c/\Th b.loc/\b.write=bK/\b.kind= .plain)\/(g=c/\b.loc= .obj C/\b.write=bK)
def TP.mono{b:Nat}(h:TP X Th Wg C c a0 p B T)(d:B<=b):TP X Th Wg C c a0 p b T:=⟨h.clean,h.k0,h.kc,h.kt,h.kC,h.kw,h.over,fun i a e=>Loc.low_mono d<|h.seen i a e,h.norel⟩
def ZY(h:∀i,p<=i->T.act? i≠bO (.mark<|.release a0))(g:∀op∈u,op.act≠ .mark (.release a0)):∀i,p<=i->(T++u).act? i≠bO (.mark<|.release a0):=by
 intro i f d;obtain⟨op,e,a⟩:=zt.1 d;rcases getElem?_append_cases e with⟨_,b⟩|⟨_,c⟩
 exact h i f (by rw[act?_of b,a]);exact g op c a
def o6(h:∀i a,touchAt T i=bO a->a.loc.low B)(f:∀op∈u,∀x,op.act.touch?=bO x->x.loc.low B):∀i a,touchAt (T++u) i=bO a->a.loc.low B:=fun i a e=>by
 rcases Zo e with⟨_,b⟩|⟨_,op,c,_,d⟩;exact h i a b;exact f op c a d
def TP.app(A:NK X Th Wg C)(h:TP X Th Wg C c a0 p B T){g:Nat}(hg:g=0\/g=c)(D:∀op∈u,op.g=g)(J:∀op∈u,∀b,op.act.touch?=bO b->b.loc.isMemory=bL->eE X Th Wg C c g b)
  (hl:∀op∈u,∀x,op.act.touch?=bO x->x.loc.low B)(hr:∀op∈u,op.act≠ .mark (.release a0))(N:∀l,Th l->l.isMemory=bL):TP X Th Wg C c a0 p B<|T++u:=by
 have wx:∀l,qX Wg l->oI X l:=fun l ⟨a,e,I⟩=>⟨a,e,by rw[I];exact A.wg⟩;have wm:∀l,qX Wg l->l.isMemory=bL:=fun l ⟨a,e,I⟩=>by rw[e];rfl
 have wc:¬qX Wg (.obj C):=fun⟨a,e,_⟩=>by cases e
 have own:∀{i},T.g? i=bO 0->Knows T 0 i:=fun {i} hk=>by
  obtain⟨z,Q,H⟩:=zt.1 hk;have:=knows_own Q;rwa[H]at this
 refine⟨fun said=>noRace_append (h.clean said) D fun i a o op k b I r=>?_,fun i a o hm=>?_,fun i a o v O=>?_,fun i a o v=>?_,fun i a o L=>?_,fun i a o F=>?_,fun i g1 G M U=>?_,o6 h.seen hl,ZY h.norel hr⟩;have S:b.loc.isMemory=bL:=by rw[<-r.1];exact r.2.1
 have t:a.write=bK->b.write=bK->False:=fun f d=>by
  rcases r.2.2.1 with x|x;rw[f]at x;cases x;rw[d]at x;cases x
 rcases J op k b I S with⟨rfl,f,d,y⟩|⟨f,d⟩|⟨rfl,f,d,_⟩|⟨rfl,f,d⟩;by_cases s:Th b.loc;rcases h.kt i a o (r.1.symm▸s)with hk|⟨hk,R,_⟩;exact hk;rcases d s with h6|rfl;exact(t R h6).elim;exact own hk;rcases h.k0 i a o r.2.1 with hk|⟨hs,_⟩|⟨_,K,_⟩|⟨K,R⟩;exact hk;exact absurd (r.1▸hs)<|f.resolve_right s;exact absurd (r.1▸K) s;exact(t R.2<|y (r.1▸K) s).elim;obtain⟨y,K⟩:=h.kw i a o<|r.1.symm▸f;rcases d with d|⟨d,rfl⟩;rcases r.c with x|x|⟨_,_,x⟩;exact absurd x y;rw[d]at x;cases x;rw[d]at x;cases x;rcases r.c with x|x|⟨_,x,_⟩;exact absurd x y;rw[d]at x;cases x;exact K x;refine h.kc i a o (r.1.symm▸f) ?_;rcases r.2.2.1 with x|x;exact x;rw[d]at x;cases x;exact(t (h.kC i a o<|r.1.trans f) d).elim;rcases Zo o with⟨q,m⟩|⟨q,op,k,w,n⟩;rcases h.k0 i a m hm with hk|hk|⟨W,Y⟩|hk;exact .inl<|hk.app u;exact .inr<|.inl hk;exact .inr<|.inr<|.inl ⟨by rw[g?_old q];exact W,Y⟩;exact .inr<|.inr<|.inr hk;have E:Knows (T++u) g i:=by
  have:=knows_own w;rwa[D op k]at this
 rcases J op k a n hm with⟨rfl,_⟩|⟨f,d⟩|⟨rfl,f,d,y⟩|⟨rfl,f,d⟩;exact .inl E;rcases d with d|⟨_,rfl⟩;exact .inr<|.inl ⟨wx _ f,d⟩;exact .inl E;exact .inr<|.inr<|.inl ⟨by simp[Trace.g?,w,D op k],f,d,y⟩;exact .inr<|.inr<|.inr ⟨⟨C,f,A.xc⟩,f▸A.nc,d⟩;rcases Zo o with⟨q,m⟩|⟨q,op,k,w,n⟩;exact(h.kc i a m v O).app u;have E:Knows (T++u) g i:=by
  have:=knows_own w;rwa[D op k]at this
 rcases J op k a n (N _ v)with⟨rfl,_,d,_⟩|⟨f,_⟩|⟨_,_,d,_⟩|⟨_,f,_⟩;rcases d v with d|rfl;rw[d]at O;cases O;exact E;exact absurd f<|A.no _ v;rw[d]at O;cases O;exact absurd (f▸v) A.nc;rcases Zo o with⟨q,m⟩|⟨q,op,k,w,n⟩;exact(h.kt i a m v).imp (·.app u) fun x=>⟨by rw[g?_old q];exact x.1,x.2⟩;have E:Knows (T++u) g i:=by
  have:=knows_own w;rwa[D op k]at this
 rcases J op k a n (N _ v)with⟨rfl,_⟩|⟨f,_⟩|⟨rfl,_,d,y⟩|⟨_,f,_⟩;exact .inl E;exact absurd f<|A.no _ v;exact .inr ⟨by simp[Trace.g?,w,D op k],d,y⟩;exact absurd (f▸v) A.nc;rcases Zo o with⟨q,m⟩|⟨q,op,k,w,n⟩;exact h.kC i a m L;rcases J op k a n (by rw[L];rfl)with⟨_,_,_,d⟩|⟨f,_⟩|⟨_,_,d,_⟩|⟨_,_,d⟩;exact d ⟨C,L,A.xc⟩<|L▸A.nc;exact absurd (L▸f) wc;exact d;exact d;rcases Zo o with⟨q,m⟩|⟨q,op,k,w,n⟩;exact⟨(h.kw i a m F).1,fun e=>((h.kw i a m F).2 e).app u⟩;have E:Knows (T++u) g i:=by
  have:=knows_own w;rwa[D op k]at this
 rcases J op k a n (wm _ F)with⟨_,f,_⟩|⟨_,d⟩|⟨_,f,_⟩|⟨_,f,_⟩;rcases f with f|f;exact absurd (wx _ F) f;exact absurd F<|A.no _ f;rcases d with d|⟨d,rfl⟩;exact⟨by rw[d];simp,fun e=>by rw[d]at e;cases e⟩;exact⟨by rw[d];simp,fun _=>E⟩;exact absurd F<|A.no _ f;exact absurd (f▸F) wc;rcases Vi i T.size with q|q;rcases h.over i g1 (by rw[<-g?_old (u:=u) q];exact G) M ((counts_old q).1 U)with⟨j,hj,I⟩|e;have V:j<T.size:=by
  unfold Trace.g? at hj;obtain⟨z,Q,_⟩:=zt.1 hj;exact lt_size_of_getElem? Q
 exact .inl ⟨j,by rw[g?_old V];exact hj,hb_app u I⟩;exact .inr e;unfold Trace.g? at G;obtain⟨z,Q,H⟩:=zt.1 G;rcases getElem?_append_cases Q with⟨ba,_⟩|⟨_,Z⟩
 omega;have:=D z Z;rw[H]at this;rcases hg with rfl|rfl
 exact absurd this M;exact .inr this
def TP.mutes(h:TP X Th Wg C c a0 p B T){g:Nat}(M:∀op∈u,op.g=g)(o:∀op∈u,op.act.touch?=bN)(L:∀op∈u,op.act≠ .mark (.release a0)):TP X Th Wg C c a0 p B<|T++u:=by
 refine⟨fun said=>noRace_append (h.clean said) M fun i a m op d b t Q=>(by rw[o op d]at t;cases t),fun i a m K=>?_,fun i a m v N=>?_,fun i a m v=>?_,fun i a m I=>?_,fun i a m G=>?_,fun i H w F q=>?_,o6 h.seen (fun op d x n=>by rw[o op d]at n;cases n),ZY h.norel L⟩;rcases Zo m with⟨l,k⟩|⟨l,op,d,n,f⟩
 rcases h.k0 i a k K with hk|hk|⟨D,E⟩|hk;exact .inl<|hk.app u;exact .inr<|.inl hk;exact .inr<|.inr<|.inl ⟨by rw[g?_old l];exact D,E⟩;exact .inr<|.inr<|.inr hk;rw[o op d]at f;cases f;rcases Zo m with⟨l,k⟩|⟨l,op,d,n,f⟩;exact(h.kc i a k v N).app u;rw[o op d]at f;cases f;rcases Zo m with⟨l,k⟩|⟨l,op,d,n,f⟩;exact(h.kt i a k v).imp (·.app u) fun x=>⟨by rw[g?_old l];exact x.1,x.2⟩;rw[o op d]at f;cases f;rcases Zo m with⟨l,k⟩|⟨l,op,d,n,f⟩;exact h.kC i a k I;rw[o op d]at f;cases f;rcases Zo m with⟨l,k⟩|⟨l,op,d,n,f⟩;exact⟨(h.kw i a k G).1,fun e=>((h.kw i a k G).2 e).app u⟩;rw[o op d]at f;cases f;obtain⟨x,n,_⟩:=id q;rcases Vi i T.size with l|l;rcases h.over i H (by rw[<-g?_old (u:=u) l];exact w) F ((counts_old l).1 q)with⟨j,hj,t⟩|e;have y:j<T.size:=by
  unfold Trace.g? at hj;obtain⟨z,O,_⟩:=zt.1 hj;exact lt_size_of_getElem? O
 exact .inl ⟨j,by rw[g?_old y];exact hj,hb_app u t⟩;exact .inr e;exfalso;obtain⟨op,d,s⟩:=touch_of n;rcases getElem?_append_cases d with⟨J,_⟩|⟨_,r⟩
 omega;rw[o op r]at s;cases s
def TP.fork(h:TP X Th Wg C 0 a0 p B T)(W:c≠0)(M:Deaf T 0=0)(H:Deaf T c=0){x y:MemOp}(hx:x.g=0/\x.act= .go c)(hy:y.g=c/\y.act= .start):TP X Th Wg C c a0 p B<|T++#[x,y]:=by
 have J:(T++#[x,y])[T.size]?=bO x:=by simp
 have K:(T++#[x,y])[T.size+1]?=bO y:=by simp
 have o:HappensBefore (T++#[x,y]) T.size<|T.size+1:=by
  refine .single<|.inr ⟨.spawn (by rw[act?_of J,hx.2]) (by rw[act?_of K,hy.2])<|by simp[Trace.g?,hy.1],⟨0,by simp[Trace.g?,hx.1],?_⟩,⟨c,by simp[Trace.g?,hy.1],?_⟩⟩;rw[deaf_old<|ze _];exact M;rw[deaf_succ J,deaf_old<|ze _];have:T.deaf c T.size=0:=H;rw[this];simp[deafStep,hx.2]
 have E:∀l∈#[x,y],l.act.touch?=bN:=fun l d=>by
  simp at d;rcases d with rfl|rfl
  rw[hx.2];rfl;rw[hy.2];rfl
 have k:∀{i a},touchAt (T++#[x,y]) i=bO a->touchAt T i=bO a:=fun {i a} f=>by
  rcases Zo f with⟨s,G⟩|⟨s,l,d,hx,D⟩;exact G;rw[E l d]at D;cases D
 have U:∀{i a},touchAt T i=bO a->i<T.size:=fun {i a} f=>by
  obtain⟨z,n,_⟩:=touch_of f;exact lt_size_of_getElem? n
 refine⟨fun said=>?_,fun i a f Q=>?_,fun i a f F S=>?_,fun i a f F=> .inl ?_,fun i a f N=>h.kC i a (k f) N,fun i a f L=>⟨(h.kw i a (k f) L).1,fun e=>((h.kw i a (k f) L).2 e).app _⟩,fun i g O v r=>?_,o6 h.seen (fun l d x hx=>by rw[E l d]at hx;cases hx),ZY h.norel fun l d=>?_⟩;have e:T++#[x,y]=(T++#[x])++#[y]:=by rw[Zs];rfl
 rw[e];refine noRace_append (g:=c) (noRace_append (g:=0) (h.clean said) (fun l d=>by simp at d;subst d;exact hx.1) fun i a f l d b hb _=>?_) (fun l d=>by simp at d;subst d;exact hy.1) fun i a f l d b hb _=>?_;rw[E l<|by simp at d⊢;exact .inl d]at hb;cases hb;rw[E l<|by simp at d⊢;exact .inr d]at hb;cases hb;rcases h.k0 i a (k f) Q with hk|hk|⟨hk,_⟩|hk
 exact .inl<|hk.app _;exact .inr<|.inl hk;obtain⟨z,n,m⟩:=zt.1 hk;have:=knows_own n;rw[m]at this;exact .inl<|this.app _;exact .inr<|.inr<|.inr hk;obtain⟨q,z,n,m,hb⟩:=h.kc i a (k f) F S;have w:=lt_size_of_getElem? n;have V:HappensBefore (T++#[x,y]) q T.size:= .single (.inl ⟨w,0,by simp[Trace.g?,getElem?_append_old w,n,m],by simp[Trace.g?,hx.1]⟩);exact⟨T.size+1,y,K,hy.1,.inr<|(hb.app _).hb<|.trans V o⟩;rcases h.kt i a (k f) F with hk|⟨hk,_⟩
 exact hk.app _;obtain⟨z,n,m⟩:=zt.1 hk;have:=knows_own n;rw[m]at this;exact this.app _;rcases Vi i T.size with s|s
 rcases h.over i g (by rw[<-g?_old (u:=#[x,y]) s];exact O) v ((counts_old s).1 r)with⟨j,hj,hb⟩|e;have I:j<T.size:=by
  unfold Trace.g? at hj;obtain⟨z,n,_⟩:=zt.1 hj;exact lt_size_of_getElem? n
 exact .inl ⟨j,by rw[g?_old I];exact hj,hb_app _ hb⟩;exact absurd e v;exfalso;obtain⟨t,R,_⟩:=r;have:=U<|k R;omega;simp at d;rcases d with rfl|rfl
 rw[hx.2];simp;rw[hy.2];simp
structure Rel(a:Addr)(c:Nat)(T:Trace)(r:Nat):Prop where
 act:T.act? r=bO (.mark<|.releaseMerge a)
 g:T.g? r=bO c
 heard:T.heard r
 after:∀i,r<i->T.g? i=bO c->¬T.counts i
def Rel.app{a:Addr}{r:Nat}(h:Rel a c T r)(k:∀i,T.size<=i->(T++u).g? i=bO c->¬(T++u).counts i):Rel a c (T++u) r:=by
 have e:=lt_of_act? h.act;refine⟨by rw[act?_old e];exact h.act,by rw[g?_old e];exact h.g,(heard_old e).2 h.heard,fun i j f=>?_⟩;rcases Vi i T.size with b|d
 rw[counts_old b];exact h.after i j (by rw[<-g?_old (u:=u) b];exact f);exact k i d f
def TP.join(A:NK X Th Wg C)(h:TP X Th Wg C c a0 p B T){r q:Nat}(m:Rel a0 c T r)(L:p<=r)(M:T.act? q=bO (.mark<|.acquire a0))(E:T.g? q=bO 0)(I:T.heard q)(x:r<q)(hd:Deaf T 0=0)
  {X':ZP}(n:∀l,oI X l->¬Th l->oI X' l)(o:∀l,rZ X l->¬Th l->rZ X' l):qD X' B T:=by
 have d:HappensBefore T r q:= .single (.inr ⟨.marked x (.inr m.act) M fun k hk _=>h.norel k<|by omega,m.heard,I⟩);obtain⟨z,D,f⟩:∃z,T[q]?=bO z/\z.g=0:=by
  obtain⟨z,D,f⟩:=zt.1 E;exact⟨z,D,f⟩
 have G:∀i,T.g? i=bO c->T.counts i->HappensBefore T i q:=fun i a j=>by
  have K:=Nat.le_of_not_lt fun e=>m.after i e a j;rcases Vi i r with e|H
  exact .trans (.single<|.inl ⟨e,c,a,m.g⟩) d;obtain rfl:i=r:=by omega
  exact d
 refine⟨h.clean,fun i t y F=>?_,fun i g a w j=>?_,hd,h.seen⟩;by_cases b:Th t.loc;rcases h.kt i t y b with hk|⟨s,J,v⟩
 exact .inl hk;exact .inl ⟨q,z,D,f,.inr<|G i s ⟨t,y,F,.inl<|by rw[v];simp⟩⟩;rcases h.k0 i t y F with hk|hk|⟨_,hk,_⟩|hk
 exact .inl hk;exact .inr<|.inl ⟨n _ hk.1 b,hk.2⟩;exact absurd hk b;exact .inr<|.inr ⟨o _ hk.1 b,hk.2.2⟩;rcases h.over i g a w j with hk|rfl
 exact hk;exact⟨q,E,G i a j⟩
end
end
section
open Go.ConcN (sumTo upd sumTo_upd upd_ne upd_same RW DWs AtR0 AtK1 AtD1 AtD2 AtD3 AtD4 WgLive PayAt Has AsideCell EvW)
open Go.ConcR (KK wgBlock WgAt stA smA rd wr mk Payload DC0)
variable [pn:Pn]
section
variable [Payload] (P:aV) (ty:TypeId) (Wg C:Nat) (S:Nat->Prop) (D M c:Nat) (vals:List Value) (o:Nat->Obj)
def pK(S:ZP)(M:Nat)(l:Loc):Prop:=(∃a,l= .cell a/\(S a.block\/a.block=M))\/∃x,l= .obj x/\(S x\/x=M)
def Kc(S:ZP)(M:Nat)(o:Nat->Obj)(w:Zy):Prop:=∀x,S x\/x=M->w.heap[x]?=bO (o x)
def RS(S:ZP)(M:Nat)(o:Nat->Obj)(w w₁:Zy):Prop:=Kc S M o w->Kc S M o w₁
def xQ(S:ZP)(M:Nat)(e:Event):Prop:=(∀x,(aU e).touch?=bO x->pK S M x.loc/\x.write=bK/\x.kind= .plain)/\e.loc≠ .mark .disable/\e.loc≠ .mark .enable/\∀a,e.loc≠ .mark (.release a)
def DS(S:ZP)(M:Nat)(w w':Zy)(es:Array Event):Prop:=w'=w/\∀e∈es,xQ S M e
def rY:Nat->Loc->Prop:=fun _ _=>False
def WJ(g:Zg)(w:Zy):Prop:=g.status= .running/\(WgLive ty Wg w->∃v0 v1 m0 m1,
 Goes P bK (RW ty Wg D 3 0 0) (DWs Wg rY rY D 3 1) (AtR0 P ty Wg D 3 0 1 v0) m0 g w/\Goes P bK (RW ty Wg D 3 0 1) (DWs Wg rY rY D 3 2) (AtR0 P ty Wg D 3 0 2 v1) m1 g w)
def Fin(g:Zg)(w:Zy):Prop:=∃m,Goes P bK (RS S M o) (DS S M) (WJ P ty Wg D) m g w
def MB(g:Zg)(w:Zy):Prop:=g.status= .running/\mayWake P g=bL/\∀cap buf s r,w.heap[C]?=bO (.chan cap buf bK s r bK)->
 ∃g':Zg,aZ P bK g w= .go g' (w.setChan C cap buf bL s r bK) #[⟨.obj C,bK,bL⟩,⟨.obj C,bL,bL⟩]/\g'.status= .running/\∀w',Kc S M o w'->Fin P ty Wg S D M o g' w'
def BV(v:Zv)(Next:Zg->Zy->Prop)(g:Zg)(w:Zy):Prop:=g.status= .running/\∃g₂ z es,aZ P bK g w= .comm g₂ #[scase C v z] bL .send w es/\(∀e∈es,xQ S M e)/\∀w',Kc S M o w'->Next (Conc.served g₂ bJ) w'
def xD:Ze->Zg->Zy->Prop
 |[],g,w=>∃m,Goes P bK (RS S M o) (DS S M) (MB P ty Wg C S D M o) m g w
 |v::vs,g,w=>∃m,Goes P bK (RS S M o) (DS S M) (BV P C S M o v<|xD vs) m g w
inductive Ch:Nat->Nat->Nat->Ze->Zg->Zy->Prop
 |send {v vs m b w} (h:Goes P bK (RS S M o) (DS S M) (BV P C S M o v<|xD P ty Wg C S D M o vs) m b w):Ch 0 (10+vs.length) m (v::vs) b w
 |cls {m b w} (h:Goes P bK (RS S M o) (DS S M) (MB P ty Wg C S D M o) m b w):Ch 0 9 m [] b w
 |fin {m b w} (h:Goes P bK (RS S M o) (DS S M) (WJ P ty Wg D) m b w):Ch 0 8 m [] b w
 |dn {v0 v1 m0 m1 b w} (h0:Goes P bK (RW ty Wg D 3 0 0) (DWs Wg rY rY D 3 1) (AtR0 P ty Wg D 3 0 1 v0) m0 b w) (h1:Goes P bK (RW ty Wg D 3 0 1) (DWs Wg rY rY D 3 2) (AtR0 P ty Wg D 3 0 2 v1) m1 b w):Ch 0 7 (m0+m1) [] b w
 |rel {k m b w} (hk:k=1\/k=2) (h:Goes P bK (RW ty Wg D 3 0<|k-1) DC0 (AtK1 P ty Wg D 3 0 k) m b w):Ch 0 6 m [] b w
 |deaf {k m b w} (hk:k=1\/k=2) (h:Goes P bK (RW ty Wg D 3 0<|k-1) DC0 (AtD1 P ty Wg D 3 0 k) m b w):Ch 1 5 m [] b w
 |d2 {k m b w} (hk:k=1\/k=2) (h:Goes P bK (RW ty Wg D 3 0<|k-1) DC0 (AtD2 P ty Wg D 3 0 k) m b w):Ch 1 4 m [] b w
 |d3 {k m b w} (hk:k=1\/k=2) (h:Goes P bK (RW ty Wg D 3 0<|k-1) DC0 (AtD3 P ty Wg D 3 0 k) m b w):Ch 1 3 m [] b w
 |d4 {k m b w} (hk:k=1\/k=2) (h:Goes P bK (RW ty Wg D 3 0<|k-1) DC0 (AtD4 P ty Wg) m b w):Ch 1 2 m [] b w
 |out {d m b w} (h:QuitsD P m d b):Ch d 1 m [] b w
def iE(rg st:Nat):Int:=if rg=0\/rg=4 then(if st<=1 then 0 else KK)else if 5<=st then KK+1 else if 3<=st then 1 else 0
def gM(rg st:Nat):Int:=if rg=1/\st<=1 then 1 else 0
def xU(rg:Nat):Prop:=rg≠0/\rg≠1/\rg≠4
def e0(rg:Nat):Nat:=if rg=0 then 0 else 1
structure dU(X:ZP)(p rg r d st m:Nat)(left:Ze)(b:Zg)(q:Nat->Nat)(gs:Array Zg)(v:Zy)(t:Trace):Prop where
 pos:0<c
 size:gs.size=c+1
 hb:gs[c]?=bO b
 old:∀i g,0<i->i<c->gs[i]?=bO g->QuitsD P (q i) (Deaf t i) g
 above:∀j,c<j->Deaf t j=0
 ch:Ch P ty Wg C S D M o d st m left b v
 kc:Kc S M o v
 pay:PayAt D 3 v
 chan:v.heap[C]?=bO (.chan vals.length ((vals.take<|vals.length-left.length).drop r).toArray (decide (st<=8)) (vals.length-left.length) r bK)
 nV:r<=vals.length-left.length
 lefts:left=vals.drop (vals.length-left.length)
 wg:WgAt ty Wg v (iE rg st)<|gM rg st
 kH:1<st->st<5->rg=1
 kG:xU rg->st<=1
 tp:TP X (pK S M) Wg C c (stA Wg) p v.heap.size t
 deaf0:Deaf t 0=e0 rg
 eD:Deaf t c=d
 rel:st<=6->∃rr,p<=rr/\Rel (stA Wg) c t rr
 pt:p<=t.size
def JC(X:ZP)(p rg r:Nat)(k:Nat×Nat)(gs:Array Zg)(v:Zy)(t:Trace):Prop:=
 ∃d st m left b q,dU P ty Wg C S D M c vals o X p rg r d st m left b q gs v t/\k=(st,m+sumTo c q)
end
section
variable [Payload] {P:aV} {ty:TypeId} {Wg C:Nat} {S:Nat->Prop} {D M c:Nat} {vals:List Value} {o:Nat->Obj} {X:Nat->Prop} {p rg r:Nat}
def qr{R:Zy->Zy->Prop}{c:Zy->Zy->Array Event->Prop}{Stop:Zg->Zy->Prop}(b:∀g w,Stop g w->g.status= .running)(a:∀w,R w w){m:Nat}{g:Zg}{w:Zy}(h:Goes P bK R c Stop m g w):g.status= .running:=by
 cases m with
 |zero=>exact b _ _<|h w<|a w
 |succ m=>
  rcases h with h|⟨h,_⟩;exact b _ _<|h w<|a w;exact h
def Y9{i:Nat}(w:Zy):RW ty Wg D 3 0 i w w:=⟨fun _ _ _ _=>rfl,id,id,rfl⟩
def Ch.awake{d st m:Nat}{left:Ze}{b:Zg}{w:Zy}(h:Ch P ty Wg C S D M o d st m left b w):b.status= .running\/b.status= .finished:=by
 cases h with
 |send h=>exact .inl<|qr (fun _ _ x=>x.1) (fun _ x=>x) h
 |cls h=>exact .inl<|qr (fun _ _ x=>x.1) (fun _ x=>x) h
 |fin h=>exact .inl<|qr (fun _ _ x=>x.1) (fun _ x=>x) h
 |dn h0 h1=>exact .inl<|qr (fun _ _ x=>x.1) Y9 h0
 |rel hk h=>exact .inl<|qr (fun _ _ x=>x.1) Y9 h
 |deaf hk h=>exact .inl<|qr (fun _ _ x=>x.1) Y9 h
 |d2 hk h=>exact .inl<|qr (fun _ _ x=>x.1) Y9 h
 |d3 hk h=>exact .inl<|qr (fun _ _ x=>x.1) Y9 h
 |d4 hk h=>exact .inl<|qr (fun _ _ x=>x.1) Y9 h
 |out h=>exact h.status
def Ch.rely{d st m:Nat}{left:Ze}{b:Zg}{w w₁:Zy}(h:Ch P ty Wg C S D M o d st m left b w)(hk:Kc S M o w)(n:S D)(r:∀x,S x\/x=M->w₁.heap[x]?=w.heap[x]?)(y:WgLive ty Wg w₁):
  Ch P ty Wg C S D M o d st m left b w₁:=by
 have s:=r D<|.inl n;have p:RS S M o w w₁:=fun h x t=>(r x t).trans<|h x t;have q:∀a b c,RS S M o a b->RS S M o b c->RS S M o a c:=fun _ _ _ f k x=>k<|f x;have g:∀i,RW ty Wg D 3 0 i w w₁:=fun i=>⟨fun b l=>absurd l<|Wd _,fun _=>y,fun⟨v,e,z⟩=>⟨v,s.trans e,z⟩,by simp[aQ,s]⟩;have j:∀i a b c,RW ty Wg D 3 0 i a b->RW ty Wg D 3 0 i b c->RW ty Wg D 3 0 i a c:=fun i _ _ _ f k=>⟨fun b l=>absurd l<|Wd _,k.live∘f.live,k.pay∘f.pay,k.cell.trans f.cell⟩;cases h with
 |send h=>exact .send<|h.rely q p
 |cls h=>exact .cls<|h.rely q p
 |fin h=>exact .fin<|h.rely q p
 |dn h0 f=>exact .dn (h0.rely (j _)<|g _)<|f.rely (j _)<|g _
 |rel hk h=>exact .rel hk<|h.rely (j _)<|g _
 |deaf hk h=>exact .deaf hk<|h.rely (j _)<|g _
 |d2 hk h=>exact .d2 hk<|h.rely (j _)<|g _
 |d3 hk h=>exact .d3 hk<|h.rely (j _)<|g _
 |d4 hk h=>exact .d4 hk<|h.rely (j _)<|g _
 |out h=>exact .out h
def Bi{w v:Zy}(h:Sm P X w v){x:Nat}(hx:X x)(j:Pn.N<=x){a:Obj}(ho:∀o o',WO o o'->v.heap[x]?=bO o'->WO o a):Sm P X w {v with heap:=v.heap.setIfInBounds x a}:=by
 refine⟨by simpa using h.size,fun r b=>?_,fun r b=>?_,h.oks,h.tape,h.drawn,h.os,h.output,⟨h.pin.1,fun r b i=>by
  have:x≠r:=by omega
  rw[show({v with heap:=v.heap.setIfInBounds x a}:Zy).heap=v.heap.setIfInBounds x a from rfl,zd this];exact h.pin.2 r b i⟩⟩
 have:x≠r:=by rintro rfl;exact b hx
 rw[show({v with heap:=v.heap.setIfInBounds x a}:Zy).heap=v.heap.setIfInBounds x a from rfl,zd this];exact h.out r b;obtain⟨o,o',f,d,g⟩:=h.dead r b;by_cases c:x=r;subst c;have e:x<v.heap.size:=(za.1 d).1;exact⟨o,a,f,by simp[e],ho o o' g d⟩;exact⟨o,o',f,by rw[show({v with heap:=v.heap.setIfInBounds x a}:Zy).heap=v.heap.setIfInBounds x a from rfl,zd c];exact d,g⟩
def RP{w v:Zy}(h:Sm P X w v)(hx:X C)(d:Pn.N<=C){cap s r' cap' s' r'':Nat}{buf buf':Za}{a cl' tm tm':Bool}(f:v.heap[C]?=bO (.chan cap buf a s r' tm)):Sm P X w<|v.setChan C cap' buf' cl' s' r'' tm':=
 Bi h hx d fun o j g e=>by
  rw[f]at e;cases e;rcases g with⟨b,_⟩|⟨i,e,_,c⟩
  exact .inl ⟨b,rfl⟩;cases c
def QI{v:Zy}{st a:Int}(h:WgAt ty Wg v st a)(x:Int):v.setCell (stA Wg) (.int .u64 x)={v with heap:=v.heap.setIfInBounds Wg<|wgBlock ty x a}:=by
 unfold WgAt at h;unfold aF;simp only[stA];rw[modify_eq_set _ _ _ _ h];simp[wgBlock]
def Fy{w v:Zy}{st b:Int}(h:Sm P X w v)(hx:X Wg)(d:Pn.N<=Wg)(f:WgAt ty Wg v st b)(x y:Int):Sm P X w {v with heap:=v.heap.setIfInBounds Wg<|wgBlock ty x y}:=
 Bi h hx d fun o j g e=>by
  rw[show v.heap[Wg]?=bO (wgBlock ty st b)from f]at e;cases e;rcases g with⟨_,a⟩|⟨i,e,c,a⟩
  simp[wgBlock,odd]at a;simp only[wgBlock,Obj.cells.injEq]at a;exact .inr ⟨_,ty,by rw[c,a.2.1],rfl⟩
end
end
section
open Go.ConcN (sumTo upd sumTo_upd upd_ne upd_same RW DWs AtR0 AtK1 AtD1 WgLive PayAt Has AsideCell EvW)
open Go.ConcR (KK wgBlock WgAt stA smA rd wr mk Payload DC0)
variable [pn:Pn]
section
variable {es:Array Event} {gs:Array Zg}
section
variable [Payload] {P:aV} {ty:TypeId} {Wg C:Nat} {S:Nat->Prop} {D M c:Nat} {vals:List Value} {o:Nat->Obj} {X:Nat->Prop} {p rg r:Nat}
def BI:∀l,pK S M l->l.isMemory=bL:=by
 rintro l (⟨a,rfl,_⟩|⟨x,rfl,_⟩)<;>rfl
def xrh{v:Zy}(hk:Kc S M o v){l:Loc}(h:pK S M l):l.low v.heap.size:=by
 rcases h with⟨a,rfl,b⟩|⟨x,rfl,b⟩;exact(za.1<|hk _ b).1;exact(za.1<|hk x b).1
def fZ{g:Nat}{fn:FuncId}{pos:String}:∀op∈bD g fn pos es,op.g=g:=fun op a=>by obtain⟨e,_,rfl⟩:=zy a;rfl
def Wc{e:Event}{m:Mark}(h:aU e= .mark m):e.loc= .mark m:=by
 obtain⟨l,w,s⟩:=e;cases l with
 |mark m'=>simp only[aU]at h;cases h;rfl
 |obj r=>cases w<;>cases s<;>simp[aU]at h
 |_=>simp[aU]at h
def VN(A:NK X (pK S M) Wg C){v:Zy}{t:Trace}(h:TP X (pK S M) Wg C c (stA Wg) p v.heap.size t)(hk:Kc S M o v){fn:FuncId}{pos:String}(d:∀e∈es,xQ S M e):
  TP X (pK S M) Wg C c (stA Wg) p v.heap.size (t++bD c fn pos es):=by
 refine h.app A (.inr rfl) fZ (fun g a b j l=>?_) (fun g a x k=>?_) (fun g a e=>?_) BI;obtain⟨e,f,rfl⟩:=zy a;exact .inr<|.inr<|.inl ⟨rfl,(d e f).1 b j⟩;obtain⟨e,f,rfl⟩:=zy a;exact xrh hk ((d e f).1 x k).1;obtain⟨i,f,rfl⟩:=zy a;exact(d i f).c _<|Wc e
def u_(a:∀e∈es,xQ S M e)(d:Nat):deafBehind d es=d:=deafBehind_still (fun e b=>⟨(a e b).2.1,(a e b).2.2.1⟩) d
def dU.next{d st m:Nat}{left:Ze}{b:Zg}{q:Nat->Nat}{v:Zy}{t:Trace}(h:dU P ty Wg C S D M c vals o X p rg r d st m left b q gs v t)
  {f:Array Zg}{s:Zy}{u:Trace}{G:Zg}{d' st' m':Nat}{a:Ze}(V:f.size=gs.size)(I:f[c]?=bO G)
  (w:∀j x',j≠c->f[j]?=bO x'->∃x,gs[j]?=bO x/\∀n d,QuitsD P n d x->x'=x)(K:∀op∈u,op.g=c)(H:Ch P ty Wg C S D M o d' st' m' a G s)(L:Kc S M o s)(y:PayAt D 3 s)
  (l:s.heap[C]?=bO (.chan vals.length ((vals.take<|vals.length-a.length).drop r).toArray (decide (st'<=8)) (vals.length-a.length) r bK))(F:r<=vals.length-a.length)(k:a=vals.drop (vals.length-a.length))
  (O:WgAt ty Wg s (iE rg st')<|gM rg st')(E:1<st'->st'<5->rg=1)(B:xU rg->st'<=1)(N:TP X (pK S M) Wg C c (stA Wg) p s.heap.size<|t++u)(e:Deaf (t++u) c=d')(z:st'<=6->∃rr,p<=rr/\Rel (stA Wg) c (t++u) rr):
  dU P ty Wg C S D M c vals o X p rg r d' st' m' a G q f s (t++u):=by
 refine⟨h.pos,by rw[V,h.size],I,fun i g R J Q=>?_,fun j T=>?_,H,L,y,l,F,k,O,E,B,N,?_,e,z,by have:=h.pt;simp;omega⟩;obtain⟨x,W,U⟩:=w i g (by omega) Q;have:=h.old i x R J W;rw[U _ _ this,aG t (g':=c) (by omega) u K];exact this;rw[aG t (g':=c) (by omega) u K];exact h.above j T;rw[aG t (g':=c) (Xh h.pos) u K];exact h.deaf0
def JO{b a:Zg}{i:Zy}:∀j x',j≠c->((gs.map<|woken P b a i).setIfInBounds c a)[j]?=bO x'->∃x,gs[j]?=bO x/\∀n d,QuitsD P n d x->x'=x:=fun j x' f e=>by
 rw[zd<|aL f,jj]at e;obtain⟨y,h,rfl⟩:=zt.1 e;exact⟨y,h,fun n d g=>woken_quitsD g⟩
def IY{b a d:Zg}{e:Zy}(g:c≠0)(f:gs[0]?=bO d):((gs.map<|woken P b a e).setIfInBounds c a)[0]?=bO (woken P b a e d):=by
 rw[zd g,jj,f];rfl
def Yl{R:Zy->Zy->Prop}{a:Zy->Zy->Array Event->Prop}{Stop:Zg->Zy->Prop}(b:∀w,R w w){m:Nat}{g:Zg}{w:Zy}(h:Goes P bK R a Stop m g w):
  Stop g w\/∃m' g' w' es,m=m'+1/\aZ P bK g w= .go g' w' es/\a w w' es/\Goes P bK R a Stop m' g' w':=by
 cases m with
 |zero=>exact .inl<|h w<|b w
 |succ m=>
  rcases h with h|⟨_,h⟩;exact .inl<|h w<|b w;right;have:=h w<|b w;cases hs:aZ P bK g w with
  |go g' w' es=>
   rw[hs,goes_go]at this;exact⟨m,g',w',es,rfl,rfl,this⟩
  |_=>rw[hs]at this;exact this.elim
def zzb{v a:Zy}(d:AsideCell D 3 0 v a)(l:AsideCell D 3 1 v a)(j:PayAt D 3 v):a.heap=v.heap:=by
 obtain⟨k,e,o⟩:=id j;obtain⟨c,f,n⟩:=d.pay j;apply Yc;intro b;by_cases g:b=D;subst g;rw[e,f];have:c=k:=by
  apply Yc;intro i;have m:a.cell? (zq b i)=v.cell? (zq b i):=by
   by_cases h:i=0;subst h;exact l.cells 0 (by omega);exact d.cells i h
  simpa[aQ,e,f]using m
 rw[this];exact d.block b g
def AM{v e:Zy}(c:AsideCell D 3 0 v e)(n:AsideCell D 3 1 v e)(o:PayAt D 3 v):∃d,e=v.at d:=by
 have m:=zzb c n o;obtain⟨l,tape,f,os,output⟩:=v;obtain⟨g,h,a,p,b⟩:=e;simp only at m;have i:=c.tape;have j:=c.os;have k:=c.output;simp only at i j k;subst m i j k;exact⟨a,rfl⟩
end
end
end
section
open Go.ConcN (sumTo upd sumTo_upd upd_ne upd_same RW DWs AtR0 AtK1 AtD1 WgLive PayAt Has AsideCell EvW ShN)
open Go.ConcR (KK wgBlock WgAt stA smA rd wr mk Payload DC0)
variable [pn:Pn]
section
variable {es:Array Event}
section
variable [Payload] {P:aV} {ty:TypeId} {Wg C:Nat} {S:Nat->Prop} {D M c:Nat} {vals:List Value} {o:Nat->Obj} {X:Nat->Prop} {p rg r:Nat}
def JV{c a b:Nat}(d:5<=a)(e:5<=b):iE c a=iE c b:=by
 unfold iE;rw[aA d,aA e,aB (show¬a<=1 by omega),aB (show¬b<=1 by omega)]
def JU{c a b:Nat}(d:2<=a)(e:2<=b):gM c a=gM c b:=by
 unfold gM;rw[aB<|by omega,aB<|by omega]
structure q9(X:ZP)(Wg C:Nat)(S:ZP)(D M:Nat):Prop where
 apart:NK X (pK S M) Wg C
 xc:X C
 xw:X Wg
 sd:S D
 cs:∀x,S x\/x=M->x≠C
 wc:Wg≠C
 ws:∀x,S x\/x=M->x≠Wg
 nc:Pn.N<=C
 nw:Pn.N<=Wg
variable (P ty Wg C S D M c vals o X p rg r)in
def TN(g0:Zg)(st mm:Nat)(q:Nat->Nat)(gs:Array Zg)(v:Zy)(sl:Option<|Nat×Nat)(t:Trace)(d' st':Nat)(left':Ze):Prop:=
 ∃gs' v' sl' ops m' b',runT P (crowd gs v sl) c=(.next<|crowd gs' v' sl',ops)/\vV (st',m'+sumTo c q) (st,mm+sumTo c q)/\(∃g0',gs'[0]?=bO g0'/\(g0'=g0\/∃a a',g0'=woken P a a' v' g0)/\(rg=1->st'<=1->1<st->∃bb,mayWake P bb=bL/\b'.status≠ .blocked/\b'.status≠ .waiting/\g0'=woken P bb b' v' g0))/\
  dU P ty Wg C S D M c vals o X p rg r d' st' m' left' b' q gs' v' (t++ops)/\(∀w,Sm P X (re w v.tape v.drawn) v->Sm P X (re w v'.tape v'.drawn) v')/\(st<=6->∀rr,Rel (stA Wg) c t rr->Rel (stA Wg) c (t++ops) rr)
variable (P ty Wg C S D M c vals o X p rg r)in
def rR(g0:Zg)(st mm:Nat)(q:Nat->Nat)(gs:Array Zg)(v:Zy)(sl:Option<|Nat×Nat)(t:Trace):Prop:=
 ∃d' st' left',TN P ty Wg C S D M c vals o X p rg r g0 st mm q gs v sl t d' st' left'
variable {d st m:Nat} {left:List Value} {b g0:aS} {q:Nat->Nat} {gs:Array aS} {v:World} {t:Trace} {sl:Option<|Nat×Nat}
def LU(h:dU P ty Wg C S D M c vals o X p rg r d st m left b q gs v t){a:Zg}{g:Zy}(f:aZ P bK b v= .go a g es):
  runT P (crowd gs v sl) c=(.next<|crowd ((gs.map<|woken P b a g).setIfInBounds c a) g sl,bD c b.frame.fn b.frame.place es):=by
 have e:(c==0)=bK:=by have:=h.pos;simp;omega
 exact runT_crowd_go h.hb<|by rw[e];exact f
def BL(B:q9 X Wg C S D M)(h:dU P ty Wg C S D M c vals o X p rg r d st m left b q gs v t)(J:gs[0]?=bO g0){i:Zg}{dr:Nat}(z:aZ P bK b v= .go i (v.at dr) es)
  {st' m' I:Nat}(j:Ch P ty Wg C S D M o d st' m' left i (v.at dr))(n:vV (st',m'+sumTo c q) (st,I+sumTo c q))(K:decide (st'<=8)=decide (st<=8))(F:iE rg st'=iE rg st/\gM rg st'=gM rg st)(G:5<=st'/\5<=st\/st'=st)(H:st'<=6->st<=6)
  (E:TP X (pK S M) Wg C c (stA Wg) p v.heap.size<|t++bD c b.frame.fn b.frame.place es)(l:deafBehind d es=d)(f:st<=6->es=#[]):TN P ty Wg C S D M c vals o X p rg r g0 st I q gs v sl t d st' left:=by
 have k:c≠0:=Xh h.pos;have g:c<gs.size:=by rw[h.size];omega
 refine⟨_,v.at dr,sl,_,m',i,LU h z,n,⟨_,IY k J,.inr ⟨b,i,rfl⟩,fun _ x y=>by omega⟩,h.next (by simp) (by simp[g]) JO fZ j h.kc h.pay (by rw[K];exact h.chan) h.nV h.lefts (by rw[F.1,F.2];exact h.wg) (fun x y=>G.elim (fun G=>by omega) fun e=>h.kH (by omega)<|by omega) (fun x=>by have:=h.kG x;omega) E (by rw[Deaf_own,h.eD,l]) ?_,fun w L=>L.re _ _,fun a rr s=>by
  rw[f a,show t++bD c b.frame.fn b.frame.place #[]=t by simp[ofEvents_eq]];exact s⟩
 intro a;obtain⟨rr,N,s⟩:=h.rel<|H a;have:es=#[]:=f<|H a;subst this;refine⟨rr,N,?_⟩;have e:t++bD c b.frame.fn b.frame.place #[]=t:=by simp[ofEvents_eq]
 rw[e];exact s
def LJ(B:q9 X Wg C S D M)(h:dU P ty Wg C S D M c vals o X p rg r d st m left b q gs v t)(j:gs[0]?=bO g0){i:Zg}{g:Zy}(f:aZ P bK b v= .go i g es)(l:DS S M v g es)
  {m':Nat}(e:Ch P ty Wg C S D M o d st m' left i g)(n:m'<m)(k:¬st<=6):TN P ty Wg C S D M c vals o X p rg r g0 st m q gs v sl t d st left:=by
 obtain⟨rfl,a⟩:=l;exact BL B h j f e (.right _<|by omega) rfl ⟨rfl,rfl⟩ (.inr rfl) id (VN B.apart h.tp h.kc a) (u_ a d) fun x=>absurd x k
def cR{a:Ze}{b:Zg}{w:Zy}(h:xD P ty Wg C S D M o a b w):∃m,Ch P ty Wg C S D M o 0 (9+a.length) m a b w:=by
 cases a with
 |nil=>obtain⟨m,h⟩:=h;exact⟨m,.cls h⟩
 |cons v a=>obtain⟨m,h⟩:=h;exact⟨m,by have:=Ch.send h;rwa[show 9+(v::a).length=10+a.length by simp;omega]⟩
def Rc{a:Ze}{v0:Zv}(b:v0::a=vals.drop (vals.length-(v0::a).length))(g:r<=vals.length-(v0::a).length):
  (((vals.take<|vals.length-(v0::a).length).drop r).toArray).push v0=((vals.take<|vals.length-a.length).drop r).toArray/\vals.length-a.length=vals.length-(v0::a).length+1/\a=vals.drop (vals.length-a.length):=by
 have c:(v0::a).length<=vals.length:=by
  have:=congrArg List.length b;simp only[jb]at this;simp only[zh]at*;omega
 simp only[zh]at*;have e:vals.length-a.length=vals.length-(a.length+1)+1:=by omega
 have f:vals.take (vals.length-(a.length+1)+1)=vals.take (vals.length-(a.length+1))++[v0]:=by
  rw[List.take_add_one]
  congr 1
  have d:vals[vals.length-(a.length+1)]?=bO v0:=by
   have:=congrArg (fun l=>l[0]?) b;simpa using this.symm
  rw[d];rfl
 refine⟨?_,e,?_⟩;rw[e,f,Yj<|by simp;omega];simp;rw[e];have:=congrArg List.tail b;simpa using this
def xsl(B:q9 X Wg C S D M){d:Ze}{v0:Zv}(h:dU P ty Wg C S D M c vals o X p rg r 0 (10+d.length) m (v0::d) b q gs v t)(Z:gs[0]?=bO g0)(T:offersAt g0 C bK=[])
  (U:BV P C S M o v0 (xD P ty Wg C S D M o d) b v):rR P ty Wg C S D M c vals o X p rg r g0 (10+d.length) m q gs v sl t:=by
 obtain⟨_,k,z,es,V,G,E⟩:=U;have N:c≠0:=Xh h.pos;have O:(c==0)=bK:=by have:=h.pos;simp;omega
 have I:c<gs.size:=by rw[h.size];omega
 have l:=h.chan;rw[show decide (10+d.length<=8)=bK by simp;omega]at l;obtain⟨e1,e2,e3⟩:=Rc h.lefts h.nV;have hp:partners (gs.setIfInBounds c ph) C bK=[]:=partners_nil fun j x n=>by
  rcases getElem?_stand gs c j x n with⟨_,rfl⟩|⟨hj,s⟩;exact offersAt_ph _ _;rcases jl j with rfl|J;rw[Z]at s;cases s;exact T;refine offersAt_of_not_blocked ?_ _ _;have Q:j<c:=by have:=(za.1 s).1;rw[h.size]at this;omega
  rcases(h.old j x J Q s).status with e|e<;>rw[e]<;>simp
 have F:((vals.take<|vals.length-(v0::d).length).drop r).toArray.size<vals.length:=by
  simp only[jg,jb,xt,zh];have:=congrArg List.length h.lefts;simp only[jb,zh]at this;omega
 have i:=crowd_send_room (sl:=sl) h.hb (by rw[O];exact V) l F hp;rw[finishComm_send]at i;let v':=v.setChan C vals.length ((((vals.take<|vals.length-(v0::d).length).drop r).toArray).push v0) bK (vals.length-(v0::d).length+1) r bK;have L:C<v.heap.size:=(za.1 l).1;have f:∀x,x≠C->v'.heap[x]?=v.heap[x]?:=fun x n=>by
  show(v.heap.setIfInBounds C _)[x]?=_;rw[zd<|aL n]
 have W:v'.heap.size=v.heap.size:=by show(v.heap.setIfInBounds C _).size=_;simp
 have H:Kc S M o v':=fun x n=>(f x<|B.cs x n).trans<|h.kc x n;obtain⟨m',R⟩:=cR<|E v' H;have Y:=VN (fn:=b.frame.fn) (pos:=b.frame.place) B.apart h.tp h.kc G;refine⟨0,9+d.length,d,_,v',sl,_,m',Conc.served k bJ,i,.left _ _<|by omega,?_,h.next (by simp) (by simp[I]) (fun j x' hj n=>?_) (fun K a=>?_) R H ?_ ?_ (by have:=h.nV;omega) e3 ?_ (fun x y=>by omega) (fun x=>by have:=h.kG x;omega) ?_ ?_ fun x=>by omega,fun w hS=>?_,fun x=>by omega⟩;exact⟨g0,by rw[zd N];exact Z,.inl rfl,fun _ x=>by omega⟩;rw[zd<|aL hj]at n;exact⟨x',n,fun _ _ _=>rfl⟩;rcases IE.1 a with x|x
 exact fZ K x;simp at x;rcases x with rfl|rfl<;>rfl
 obtain⟨cs,e,U⟩:=h.pay;exact⟨cs,(f D<|B.cs D<|.inl B.sd).trans e,U⟩;rw[show decide (9+d.length<=8)=bK by simp;omega,<-e1,e2];show(v.heap.setIfInBounds C _)[C]?=_;simp[L];rw[show iE rg (9+d.length)=iE rg (10+d.length)from JV (by omega)<|by omega,show gM rg (9+d.length)=gM rg (10+d.length)from JU (by omega)<|by omega];exact h.wg.of_block<|f Wg B.wc;rw[W,<-Zs];refine Y.mutes (fun K a=>by simp at a;rcases a with rfl|rfl<;>rfl) (fun K a=>by simp at a;rcases a with rfl|rfl<;>rfl) (fun K a=>by simp at a;rcases a with rfl|rfl<;>simp);rw[<-Zs,show(#[{g:=c,fn:=k.frame.fn,pos:=k.frame.place,act:=MemAct.send C<|vals.length-(v0::d).length},{g:=c,fn:=k.frame.fn,pos:=k.frame.place,act:=MemAct.sendDone C<|vals.length-(v0::d).length}]:Trace)=#[{g:=c,fn:=k.frame.fn,pos:=k.frame.place,act:=MemAct.send C<|vals.length-(v0::d).length}]++#[{g:=c,fn:=k.frame.fn,pos:=k.frame.place,act:=MemAct.sendDone C<|vals.length-(v0::d).length}]from rfl,<-Zs,Deaf_push,Deaf_push,Deaf_own,h.eD,u_ G];simp[deafStep];have:=RP (cap':=vals.length) (s':=vals.length-(v0::d).length+1) (r'':=r) (buf':=(((vals.take<|vals.length-(v0::d).length).drop r).toArray).push v0) (cl':=bK) (tm':=bK) hS B.xc B.nc l;exact this
end
end
end
section
open Go.ConcN (sumTo upd sumTo_upd upd_ne upd_same RW DWs AtR0 AtK1 AtD1 AtD2 AtD3 AtD4 WgLive PayAt Has AsideCell EvW ShN)
open Go.ConcR (KK wgBlock WgAt stA smA rd wr mk Payload DC0)
variable [pn:Pn]
section
variable {k:Nat}
section
variable [Payload] {P:aV} {ty:TypeId} {Wg C:Nat} {S:Nat->Prop} {D M c:Nat} {vals:List Value} {o:Nat->Obj} {X:Nat->Prop} {p rg r:Nat}
variable {d st m:Nat} {left:List Value} {b g0:aS} {q:Nat->Nat} {gs:Array aS} {v:World} {t:Trace} {sl:Option<|Nat×Nat}
def Ud(B:q9 X Wg C S D M)(h:dU P ty Wg C S D M c vals o X p rg r 0 9 m [] b q gs v t)(R:gs[0]?=bO g0)(F:MB P ty Wg C S D M o b v):
  ∃b' m',runT P (crowd gs v sl) c=(.next<|crowd ((gs.map<|woken P b b'<|v.setChan C vals.length ((vals.take<|vals.length-([]:Ze).length).drop r).toArray bL (vals.length-([]:Ze).length) r bK).setIfInBounds c b') (v.setChan C vals.length ((vals.take<|vals.length-([]:Ze).length).drop r).toArray bL (vals.length-([]:Ze).length) r bK) sl,bD c b.frame.fn b.frame.place #[⟨.obj C,bK,bL⟩,⟨.obj C,bL,bL⟩])/\
   b'.status= .running/\mayWake P b=bL/\dU P ty Wg C S D M c vals o X p rg r 0 8 m' [] b' q ((gs.map<|woken P b b'<|v.setChan C vals.length ((vals.take<|vals.length-([]:Ze).length).drop r).toArray bL (vals.length-([]:Ze).length) r bK).setIfInBounds c b') (v.setChan C vals.length ((vals.take<|vals.length-([]:Ze).length).drop r).toArray bL (vals.length-([]:Ze).length) r bK) (t++bD c b.frame.fn b.frame.place #[⟨.obj C,bK,bL⟩,⟨.obj C,bL,bL⟩])/\
   ∀w,Sm P X (re w v.tape v.drawn) v->Sm P X (re w v.tape v.drawn) (v.setChan C vals.length ((vals.take<|vals.length-([]:Ze).length).drop r).toArray bL (vals.length-([]:Ze).length) r bK):=by
 have g:=h.chan;rw[show decide (9<=8)=bK from rfl]at g;obtain⟨_,H,F⟩:=F;obtain⟨b',I,k,j⟩:=F _ _ _ _ g;have Q:=Xh h.pos;have E:c<gs.size:=by rw[h.size];omega
 generalize hv':v.setChan C vals.length ((vals.take<|vals.length-([]:Ze).length).drop r).toArray bL (vals.length-([]:Ze).length) r bK=v' at*;have n:=(za.1 g).1;have f:∀x,x≠C->v'.heap[x]?=v.heap[x]?:=fun x d=>by
  rw[<-hv'];show(v.heap.setIfInBounds C _)[x]?=_;rw[zd<|aL d]
 have J:v'.heap.size=v.heap.size:=by rw[<-hv'];show(v.heap.setIfInBounds C _).size=_;simp
 have z:Kc S M o v':=fun x d=>(f x<|B.cs x d).trans<|h.kc x d;obtain⟨m',G⟩:=j v' z;have s:∀l∈bD c b.frame.fn b.frame.place #[⟨.obj C,bK,bL⟩,⟨.obj C,bL,bL⟩],∀x,l.act.touch?=bO x->x.loc= .obj C/\x.write=bK:=fun l a x d=>by
  obtain⟨N,i,rfl⟩:=zy a;simp at i;rcases i with rfl|rfl
  simp only[aU,aR,zp]at d;subst d;exact⟨rfl,rfl⟩;simp[aU,aR]at d
 refine⟨b',m',LU h I,k,H,h.next (by simp) (by simp[E]) JO fZ (.fin G) z ?_ ?_ h.nV h.lefts ?_ (fun x y=>by omega) (fun x=>by have:=h.kG x;omega) ?_ ?_ fun x=>by omega,fun w O=>?_⟩;obtain⟨cs,e,F⟩:=h.pay;exact⟨cs,(f D<|B.cs D<|.inl B.sd).trans e,F⟩;rw[<-hv'];show(v.heap.setIfInBounds C _)[C]?=_;simp[n];rw[show iE rg 8=iE rg 9 from JV (by omega)<|by omega,show gM rg 8=gM rg 9 from JU (by omega)<|by omega];exact h.wg.of_block<|f Wg B.wc;rw[J];refine h.tp.app B.apart (.inr rfl) fZ (fun l a x d T=>?_) (fun l a x d=>?_) (fun l a e=>?_) BI;obtain⟨K,L⟩:=s l a x d;exact .inr<|.inr<|.inr ⟨rfl,K,L⟩;rw[(s l a x d).1];exact n;obtain⟨N,i,rfl⟩:=zy a;simp at i;rcases i with rfl|rfl<;>simp[aU]at e
 rw[Deaf_own,h.eD];refine deafBehind_still (fun e i=>?_) 0;simp at i;rcases i with rfl|rfl<;>simp
 rw[<-hv'];exact RP O B.xc B.nc g
def xtr(B:q9 X Wg C S D M)(h:dU P ty Wg C S D M c vals o X p rg r 0 9 m [] b q gs v t)(d:gs[0]?=bO g0)(i:MB P ty Wg C S D M o b v):rR P ty Wg C S D M c vals o X p rg r g0 9 m q gs v sl t:=by
 obtain⟨a,j,e,_,_,f,g⟩:=Ud (sl:=sl) B h d i;exact⟨0,8,[],_,_,sl,_,j,a,e,.left _ _<|by omega,⟨_,IY (Xh h.pos) d,.inr ⟨b,a,rfl⟩,fun _ x=>by omega⟩,f,g,fun x=>by omega⟩
def Ee(B:q9 X Wg C S D M)(h:dU P ty Wg C S D M c vals o X p rg r d st m [] b q gs v t)(N:gs[0]?=bO g0){E:Zg}{g:Mark}(J:aZ P bK b v= .go E v #[mk g])(l:(MemAct.mark g).touch?=bN)(I:∀a,g≠ .release a)
  {d' st' m' W:Nat}(F:Ch P ty Wg C S D M o d' st' m' [] E v)(H:st'<st)(O:st<=8)(Y:5<=st')(hd:deafBehind d #[mk g]=d')(n:∃rr,p<=rr/\Rel (stA Wg) c (t++bD c b.frame.fn b.frame.place #[mk g]) rr):
  rR P ty Wg C S D M c vals o X p rg r g0 st W q gs v sl t:=by
 have G:=Xh h.pos;have k:c<gs.size:=by rw[h.size];omega
 have K:∀j∈bD c b.frame.fn b.frame.place #[mk g],j.act= .mark g:=fun j f=>by
  obtain⟨e,L,rfl⟩:=zy f;simp at L;subst L;rfl
 refine⟨d',st',[],_,v,sl,_,m',E,LU h J,.left _ _ H,⟨_,IY G N,.inr ⟨b,E,rfl⟩,fun _ x=>by omega⟩,h.next (by simp) (by simp[k]) JO fZ F h.kc h.pay ?_ h.nV h.lefts (by rw[JV (a:=st') (b:=st) (by omega)<|by omega,JU (a:=st') (b:=st) (by omega)<|by omega];exact h.wg) (fun x y=>by omega) (fun x=>by have:=h.kG x;omega) (h.tp.mutes fZ (fun j f=>by rw[K j f];exact l) fun j f e=>by rw[K j f]at e;cases e;exact I _ rfl) (by rw[Deaf_own,h.eD];exact hd) fun _=>n,fun w Q=>Q,fun _ rr U=>U.app fun i hi Z R=>?_⟩;rw[show decide (st'<=8)=bL by simp;omega];have:=h.chan;rwa[show decide (st<=8)=bL by simpa using O]at this;obtain⟨z,V,_⟩:=R;rcases Zo V with⟨T,_⟩|⟨_,j,f,_,s⟩
 omega;rw[K j f,l]at s;cases s
def Ho(B:q9 X Wg C S D M)(h:dU P ty Wg C S D M c vals o X p rg r 0 st m [] b q gs v t)(n:st=8\/st=7)(f:gs[0]?=bO g0)(hk:k=1\/k=2){val:Zv}(l:AtR0 P ty Wg D 3 0 k val b v)(w:Nat):
  rR P ty Wg C S D M c vals o X p rg r g0 st w q gs v sl t:=by
 obtain⟨_,_,x,d,E,e⟩:=l;refine Ee B h f d rfl (by simp) (.rel hk e) (by omega) (by omega) (by omega) (by simp[mk,deafBehind]) ⟨t.size,h.pt,?_⟩;have a:(t++bD c b.frame.fn b.frame.place #[mk<|.releaseMerge<|stA Wg])[t.size]?=bO {g:=c,fn:=b.frame.fn,pos:=b.frame.place,act:= .mark (.releaseMerge<|stA Wg)}:=by
  simp[ofEvents_eq,mk,aU]
 refine⟨by rw[act?_of a],by simp[Trace.g?,a],⟨c,by simp[Trace.g?,a],?_⟩,fun i y j=>?_⟩;rw[deaf_old<|ze _];exact h.eD;obtain⟨z,s,_⟩:=zt.1 j;have:=lt_size_of_getElem? s;simp[ofEvents_eq]at this;omega
def xxa(B:q9 X Wg C S D M)(h:dU P ty Wg C S D M c vals o X p rg r 0 6 m [] b q gs v t)(l:gs[0]?=bO g0)(hk:k=1\/k=2)(z:AtK1 P ty Wg D 3 0 k b v)(F:Nat):
  rR P ty Wg C S D M c vals o X p rg r g0 6 F q gs v sl t:=by
 obtain⟨_,G,d,J,f⟩:=z;obtain⟨rr,w,y⟩:=h.rel<|ze _;refine Ee B h l d rfl (by simp) (.deaf hk f) (by omega) (by omega) (by omega) (by simp[mk,deafBehind]) ⟨rr,w,y.app fun i I H n=>?_⟩;obtain⟨x,E,_⟩:=n;rcases Zo E with⟨s,_⟩|⟨_,K,a,_,g⟩
 omega;obtain⟨e,j,rfl⟩:=zy a;simp at j;subst j;cases g
def RL{a:Addr}(b:a.block=Wg){w:Bool}{x:Touch}(hx:(aU ⟨.cell a,w,bL⟩).touch?=bO x):qX Wg x.loc/\x.kind= .atomic:=by
 simp only[ofEvent_cell0,aR,zp,if_true]at hx;subst hx;exact⟨⟨a,rfl,b⟩,rfl⟩
def GV(B:q9 X Wg C S D M)(h:dU P ty Wg C S D M c vals o X p rg r 1 st m [] b q gs v t)(h0:gs[0]?=bO g0){G:Zg}{x y:Int}{es:Array Event}(bd:aZ P bK b v= .go G {v with heap:=v.heap.setIfInBounds Wg<|wgBlock ty x y} es)
  (I:∀e∈es,(∃a w,e=⟨.cell a,w,bL⟩/\a.block=Wg)\/e.mute=bL)(Z:deafBehind 1 es=1)(ba:∀j,j<=es.size->deafBehind 1 (es.extract 0 j)≠0)(h5:st<=5){st' m' mm:Nat}(T:Ch P ty Wg C S D M o 1 st' m' [] G {v with heap:=v.heap.setIfInBounds Wg<|wgBlock ty x y})(bb:st'<st)(hx:iE rg st'=x)(hy:gM rg st'=y)(bc:1<st'->rg=1)(O:xU rg->st'<=1)(F:rg=1->st'<=1->mayWake P b=bL/\G.status≠ .blocked/\G.status≠ .waiting):
  rR P ty Wg C S D M c vals o X p rg r g0 st mm q gs v sl t:=by
 have W:=Xh h.pos;have L:c<gs.size:=by rw[h.size];omega
 have H:=(za.1 h.wg).1;have k:∀z,z≠Wg->(v.heap.setIfInBounds Wg<|wgBlock ty x y)[z]?=v.heap[z]?:=fun z f=>by
  rw[zd<|aL f]
 have be:(v.heap.setIfInBounds Wg<|wgBlock ty x y).size=v.heap.size:=by simp
 obtain⟨rr,hp,hr⟩:=h.rel (by omega);have E:∀n∈bD c b.frame.fn b.frame.place es,∀z,n.act.touch?=bO z->qX Wg z.loc/\z.kind= .atomic:=fun n d z f=>by
  obtain⟨e,he,rfl⟩:=zy d;rcases I e he with⟨a,w,rfl,ha⟩|N
  exact RL ha f;have Q:(aU e).touch?=bO z:=f;rw[touch_mute N]at Q;cases Q
 have R:∀i,t.size<=i->(t++bD c b.frame.fn b.frame.place es).g? i=bO c->¬(t++bD c b.frame.fn b.frame.place es).counts i:=fun i hi hg hc=>by
  obtain⟨z,f,N,hk⟩:=hc;rcases Zo f with⟨bh,_⟩|⟨_,n,d,bg,bf⟩
  omega;obtain⟨_,V⟩:=E n d z bf;rcases hk with hk|⟨g,J,Y⟩
  exact hk V;have:g=c:=by
   rw[hg]at J;exact(jf J).symm
  subst this;have K:i-t.size<=es.size:=by
   have:=lt_size_of_getElem? bg;simp[ofEvents_eq]at this;omega
  have:=deaf_inside t g b.frame.fn b.frame.place es _ K;rw[show t.size+(i-t.size)=i by omega,Y,h.eD]at this;exact ba _ K this.symm
 refine⟨1,st',[],_,{v with heap:=v.heap.setIfInBounds Wg _},sl,_,m',G,LU h bd,.left _ _ bb,⟨_,IY W h0,.inr ⟨b,G,rfl⟩,fun z1 z2 _=>⟨b,(F z1 z2).1,(F z1 z2).2.1,(F z1 z2).2.2,rfl⟩⟩,h.next (by simp) (by simp[L]) JO fZ T
  (fun z f=>(k z<|B.ws z f).trans<|h.kc z f) ?_ ?_ h.nV h.lefts ?_ (fun z _=>bc z) O ?_ ?_ (fun _=>⟨rr,hp,hr.app R⟩),fun w hS=>Fy hS B.xw B.nw h.wg x y,fun _ rr hr=>hr.app R⟩
 obtain⟨cs,e,hs⟩:=h.pay;exact⟨cs,(k D<|B.ws D<|.inl B.sd).trans e,hs⟩;rw[show decide (st'<=8)=bL by simp;omega];have:=h.chan;rw[show decide (st<=8)=bL by simp;omega]at this;exact(k C<|aL B.wc).trans this;rw[hx,hy];show(v.heap.setIfInBounds Wg<|wgBlock ty x y)[Wg]?=_;simp[H];show TP X (pK S M) Wg C c (stA Wg) p (v.heap.setIfInBounds Wg<|wgBlock ty x y).size _;rw[be];refine h.tp.app B.apart (.inr rfl) fZ (fun n d z f N=>?_) (fun n d z f=>?_) (fun n d e=>?_) BI;obtain⟨k1,k2⟩:=E n d z f;exact .inr<|.inl ⟨k1,.inl k2⟩;obtain⟨⟨a',e,U⟩,_⟩:=E n d z f;rw[e];show a'.block<_;rw[U];exact H;obtain⟨ev,he,rfl⟩:=zy d;rcases I ev he with⟨a,w,rfl,ha⟩|N
 simp[ofEvent_cell0]at e;have h1:=Wc e;obtain⟨l,a,s⟩:=ev;cases h1;simp[Event.mute]at N;rw[Deaf_own,h.eD];exact Z
def ZC{es:Array Event}(f:∀e∈es,∃a w,e=(⟨.cell a,w,bL⟩:Event)/\a.block=Wg):deafBehind 1 es=1/\∀j,j<=es.size->deafBehind 1 (es.extract 0 j)≠0:=by
 have:∀b:Array Event,(∀e∈b,e∈es)->deafBehind 1 b=1:=fun b g=>deafBehind_still (fun e d=>by obtain⟨a,w,rfl,_⟩:=f e<|g e d;simp) 1;refine⟨this es fun _ h=>h,fun j _=>?_⟩;rw[this _ (fun e d=>by
  obtain⟨j,c⟩:=Array.mem_iff_getElem?.1 d;rw[Array.getElem?_extract]at c;split at c;exact Array.mem_iff_getElem?.2 ⟨_,c⟩;cases c)]
 simp
def NR:∀e∈#[rd<|stA Wg,wr<|stA Wg],∃a w,e=(⟨.cell a,w,bL⟩:Event)/\a.block=Wg:=fun e b=>by
 simp at b;rcases b with rfl|rfl
 exact⟨_,bK,rfl,rfl⟩;exact⟨_,bL,rfl,rfl⟩
def CP:∀e∈#[rd<|stA Wg],∃a w,e=(⟨.cell a,w,bL⟩:Event)/\a.block=Wg:=fun e b=>by
 simp at b;subst b;exact⟨_,bK,rfl,rfl⟩
def Gx:∀e∈#[wr<|stA Wg],∃a w,e=(⟨.cell a,w,bL⟩:Event)/\a.block=Wg:=fun e b=>by
 simp at b;subst b;exact⟨_,bL,rfl,rfl⟩
def xw2(B:q9 X Wg C S D M)(h:dU P ty Wg C S D M c vals o X p rg r 1 5 m [] b q gs v t)(w:gs[0]?=bO g0)(hk:k=1\/k=2)(l:AtD1 P ty Wg D 3 0 k b v)(G:Nat):
  rR P ty Wg C S D M c vals o X p rg r g0 5 G q gs v sl t:=by
 obtain⟨_,l⟩:=l;have y:=h.wg;have s:¬xU rg:=fun e=>by have:=h.kG e;omega
 have E:gM rg 5=0:=by unfold gM;rw[aB<|by omega]
 obtain⟨g,i⟩:=ZC (Wg:=Wg) NR;by_cases j:rg=0\/rg=4;have a:WgAt ty Wg v KK 0:=by
  have e:iE rg 5=KK:=by unfold iE;rw[aA j];rfl
  rwa[e,E]at y
 obtain⟨z,d,_,f⟩:=l 0 0 (by omega) (by omega) (by simpa[KK]using a);obtain⟨F,f⟩:=f (by omega);rw[QI a,show((0:Nat):Int)*KK+((0:Nat):Int)=0 by simp]at d;exact GV B h w d (fun e n=> .inl (NR e n)) g i (by omega) (.out f) (by omega) (by unfold iE;rw[aA j];rfl) (by unfold gM;rw[aB<|by omega]) (by omega) (by omega) (fun x=>by omega);obtain rfl:rg=1:=by
  unfold xU at s;omega
 have a:WgAt ty Wg v (KK+1) 0:=y;obtain⟨z,d,f,_⟩:=l 0 1 (by omega) (by omega) (by simpa[KK]using a);obtain⟨F,f⟩:=f ⟨rfl,rfl⟩;rw[QI a,show((0:Nat):Int)*KK+((1:Nat):Int)=1 by simp]at d f;exact GV B h w d (fun e n=> .inl (NR e n)) g i (by omega) (.d2 hk f) (by omega) rfl rfl (fun _=>rfl) (fun x=>absurd rfl x.2.1) fun _ x=>by omega
def SE{st' a:Int}(j:WgAt ty Wg v st' a):{v with heap:=v.heap.setIfInBounds Wg<|wgBlock ty st' a}=v:=by
 obtain⟨heap,h,c,k,b⟩:=v;have d:heap[Wg]?=bO (wgBlock ty st' a):=j;obtain⟨f,e⟩:=za.1 d;simp only[World.mk.injEq,and_true];apply Yc;intro i;by_cases g:Wg=i;subst g;simp[f,e];rw[zd g]
def xw3(B:q9 X Wg C S D M)(h:dU P ty Wg C S D M c vals o X p rg r 1 4 m [] b q gs v t)(j:gs[0]?=bO g0)(hk:k=1\/k=2)(n:AtD2 P ty Wg D 3 0 k b v)(s:Nat):
  rR P ty Wg C S D M c vals o X p rg r g0 4 s q gs v sl t:=by
 obtain rfl:=h.kH (by omega) (by omega);have d:WgAt ty Wg v 1 0:=h.wg;obtain⟨w,a,y,i⟩:=n.2 d;rw[<-SE d]at a i;obtain⟨f,g⟩:=ZC (Wg:=Wg) CP;exact GV B h j (by rw[SE d];rw[SE d]at a;exact a) (fun e l=> .inl (CP e l)) f g (by omega) (.d3 hk i) (by omega) rfl rfl (fun _=>rfl) (fun x=>absurd rfl x.2.1) fun _ x=>by omega
def xw4(B:q9 X Wg C S D M)(h:dU P ty Wg C S D M c vals o X p rg r 1 3 m [] b q gs v t)(j:gs[0]?=bO g0)(hk:k=1\/k=2)(n:AtD3 P ty Wg D 3 0 k b v)(s:Nat):
  rR P ty Wg C S D M c vals o X p rg r g0 3 s q gs v sl t:=by
 obtain rfl:=h.kH (by omega) (by omega);have g:WgAt ty Wg v 1 0:=h.wg;obtain⟨w,a,y,i⟩:=n.2 g;rw[QI g]at a i;obtain⟨d,f⟩:=ZC (Wg:=Wg) Gx;exact GV B h j a (fun e l=> .inl (Gx e l)) d f (by omega) (.d4 hk i) (by omega) rfl rfl (fun _=>rfl) (fun x=>absurd rfl x.2.1) fun _ x=>by omega
def Pm{st a:Int}(h:WgAt ty Wg v st a)(x:Int):v.setCell (smA Wg) (zu x)={v with heap:=v.heap.setIfInBounds Wg<|wgBlock ty st x}:=by
 unfold WgAt at h;unfold aF;simp only[smA];rw[modify_eq_set _ _ _ _ h];simp[wgBlock]
def xw5(B:q9 X Wg C S D M)(h:dU P ty Wg C S D M c vals o X p rg r 1 2 m [] b q gs v t)(k:gs[0]?=bO g0)(i:AtD4 P ty Wg b v)(n:Nat):
  rR P ty Wg C S D M c vals o X p rg r g0 2 n q gs v sl t:=by
 obtain rfl:=h.kH (by omega) (by omega);have f:WgAt ty Wg v 0 0:=h.wg;obtain⟨s,a,w,d⟩:=i.2.2 f;rw[Pm f]at a;refine GV B h k a (fun e g=>?_) (by simp[semEvents,deafBehind]) (fun j l=>?_) (by omega) (.out d) (by omega) rfl rfl (by omega) (fun x=>absurd rfl x.2.1) fun _ _=>⟨i.2.1,by rcases d.status with e|e<;>rw[e]<;>simp,by rcases d.status with e|e<;>rw[e]<;>simp⟩;simp[semEvents]at g;rcases g with rfl|rfl|rfl|rfl;exact .inr rfl;exact .inl ⟨_,bK,rfl,rfl⟩;exact .inl ⟨_,bL,rfl,rfl⟩;exact .inr rfl;have:j<=4:=by simpa[semEvents]using l
 rcases(show j=0\/j=1\/j=2\/j=3\/j=4 by omega)with rfl|rfl|rfl|rfl|rfl<;>simp[semEvents,deafBehind]
def xuq(B:q9 X Wg C S D M)(h:dU P ty Wg C S D M c vals o X p rg r d 1 m [] b q gs v t)(R:gs[0]?=bO g0)(F:b.status= .running)(Q:QuitsD P m d b):
  rR P ty Wg C S D M c vals o X p rg r g0 1 m q gs v sl t:=by
 cases m with
 |zero=>rw[Q.1]at F;cases F
 |succ m=>
  rcases Q with⟨Y,_⟩|⟨_,K,E,N,k,I⟩;rw[Y]at F;cases F;have G:=Xh h.pos;have j:c<gs.size:=by rw[h.size];omega
  have O:∀y∈bD c b.frame.fn b.frame.place E,y.act.touch?=bN:=fun y f=>by
   obtain⟨e,H,rfl⟩:=zy f;exact touch_mute<|N e H
  have z:∀i,t.size<=i->(t++bD c b.frame.fn b.frame.place E).g? i=bO c->¬(t++bD c b.frame.fn b.frame.place E).counts i:=fun i hi hg W=>by
   obtain⟨x,hx,_⟩:=W;rcases Zo hx with⟨Z,_⟩|⟨_,y,f,_,n⟩
   omega;rw[O y f]at n;cases n
  obtain⟨rr,hp,J⟩:=h.rel (by omega);refine⟨deafBehind d E,1,[],_,v,sl,_,m,K,LU h<|k v,.right _<|by omega,⟨_,IY G R,.inr ⟨b,K,rfl⟩,fun _ _ x=>by omega⟩,h.next (by simp) (by simp[j]) JO fZ (.out I) h.kc h.pay h.chan h.nV h.lefts h.wg h.kH h.kG
   (h.tp.mutes fZ O fun y f e=>?_) (by rw[Deaf_own,h.eD]) (fun _=>⟨rr,hp,J.app z⟩),fun w V=>V,fun _ rr J=>J.app z⟩
  obtain⟨L,H,rfl⟩:=zy f;have T:=Wc e;have U:=N L H;obtain⟨l,a,s⟩:=L;cases T;simp[Event.mute]at U
end
section
variable [Payload] {P:aV} {ty:TypeId} {Wg C:Nat} {S:Nat->Prop} {D M c:Nat} {vals:List Value} {o:Nat->Obj} {X:Nat->Prop} {p rg r:Nat}
variable {d st m:Nat} {left:List Value} {b g0:aS} {q:Nat->Nat} {gs:Array aS} {v:World} {t:Trace} {sl:Option<|Nat×Nat}
def Gw(B:q9 X Wg C S D M)(h:dU P ty Wg C S D M c vals o X p rg r 0 st m [] b q gs v t)(g:st=8\/st=7)(z:gs[0]?=bO g0){v0 v1:Zv}{N m1 n:Nat}(J:st=8\/n=N+m1)
  (w:Goes P bK (RW ty Wg D 3 0 0) (DWs Wg rY rY D 3 1) (AtR0 P ty Wg D 3 0 1 v0) N b v)(y:Goes P bK (RW ty Wg D 3 0 1) (DWs Wg rY rY D 3 2) (AtR0 P ty Wg D 3 0 2 v1) m1 b v):
  rR P ty Wg C S D M c vals o X p rg r g0 st n q gs v sl t:=by
 rcases Yl Y9 w with l|⟨n0,b',v',Q,rfl,l,L,Y⟩;exact Ho B h g z (.inl rfl) l n;rcases Yl Y9 y with f|⟨n1,b1,w1,R,rfl,f,E,F⟩;exact Ho B h g z (.inr rfl) f n;rw[l]at f;cases f;obtain⟨dr,rfl⟩:=AM L.1 E.1 h.pay;have K:Wg<v.heap.size:=(za.1 h.wg).1;have d:∀e∈Q,(∀x,(aU e).touch?=bO x->qX Wg x.loc/\x.kind= .atomic)/\e.loc≠ .mark .disable/\e.loc≠ .mark .enable/\e.loc≠ .mark (.release<|stA Wg):=fun e i=>by
  obtain⟨T,U,V,W⟩:=L.2 e i;refine⟨fun x k=>?_,U,V,W⟩;rcases(T 0 "").2 x k with⟨⟨a,G,Z⟩,H,I⟩|x|⟨x,_⟩
  refine⟨⟨a,G,Z⟩,?_⟩;cases hk:x.kind with
  |plain=>exact absurd hk H
  |said=>exact absurd hk I
  |atomic=>rfl
  exact x.elim;exact x.elim
 refine⟨_,_,_,BL B h z l (.dn Y F) ?_ ?_ ⟨JV (by omega)<|by omega,JU (by omega)<|by omega⟩ (by omega) (by omega) ?_ (deafBehind_still (fun e i=>⟨(d e i).2.1,(d e i).2.2.1⟩) 0) fun x=>by omega⟩;rcases g with rfl|rfl
 exact .left _ _ (by omega);rcases J with x|rfl
 omega;exact .right _ (by omega);rcases g with rfl|rfl<;>rfl
 ·refine h.tp.app B.apart (.inr rfl) fZ (fun O j x k hm=>?_) (fun O j x k=>?_) (fun O j e=>?_) BI
  all_goals obtain⟨s,i,rfl⟩:=zy j
  obtain⟨k1,k2⟩:=(d s i).1 x k;exact .inr<|.inl ⟨k1,.inl k2⟩;obtain⟨⟨a,e,G⟩,_⟩:=(d s i).1 x k;rw[e];show a.block<_;rw[G];exact K;exact(d s i).c<|Wc e
def Oi(B:q9 X Wg C S D M)(h:dU P ty Wg C S D M c vals o X p rg r d st m left b q gs v t)(f:gs[0]?=bO g0)(s:offersAt g0 C bK=[])(E:b.status= .running):rR P ty Wg C S D M c vals o X p rg r g0 st m q gs v sl t:=by
 have j:WgLive ty Wg v:=⟨_,_,h.wg⟩;cases h.ch with
 | @send F vs m b w hG=>
  rcases Yl (fun _ x=>x) hG with e|⟨n,g,l,i,rfl,e,hD,a⟩;exact xsl B h f s e;exact⟨_,_,_,LJ B h f e hD (.send a) (by omega)<|by omega⟩
 |cls hG=>
  rcases Yl (fun _ x=>x) hG with e|⟨n,g,l,i,rfl,e,hD,a⟩;exact xtr B h f e;exact⟨_,_,_,LJ B h f e hD (.cls a) (by omega)<|by omega⟩
 |fin hG=>
  rcases Yl (fun _ x=>x) hG with e|⟨n,g,l,i,rfl,e,hD,a⟩;obtain⟨F,I,G,H,y,z⟩:=e.2 j;exact Gw B h (.inl rfl) f (.inl rfl) y z;exact⟨_,_,_,LJ B h f e hD (.fin a) (by omega)<|by omega⟩
 |dn y z=>exact Gw B h (.inr rfl) f (.inr rfl) y z
 | @rel k m b w hk hG=>
  rcases Yl Y9 hG with e|⟨n,g,l,i,rfl,e,⟨rfl,rfl⟩,a⟩;exact xxa B h f hk e m;exact⟨_,_,_,BL B h f e (.rel hk a) (.right _<|by omega) rfl ⟨rfl,rfl⟩ (.inr rfl) id (by simpa[ofEvents_eq]using h.tp) rfl fun _=>rfl⟩
 | @deaf k m b w hk hG=>
  rcases Yl Y9 hG with e|⟨n,g,l,i,rfl,e,⟨rfl,rfl⟩,a⟩;exact xw2 B h f hk e m;exact⟨_,_,_,BL B h f e (.deaf hk a) (.right _<|by omega) rfl ⟨rfl,rfl⟩ (.inr rfl) id (by simpa[ofEvents_eq]using h.tp) rfl fun _=>rfl⟩
 | @d2 k m b w hk hG=>
  rcases Yl Y9 hG with e|⟨n,g,l,i,rfl,e,⟨rfl,rfl⟩,a⟩;exact xw3 B h f hk e m;exact⟨_,_,_,BL B h f e (.d2 hk a) (.right _<|by omega) rfl ⟨rfl,rfl⟩ (.inr rfl) id (by simpa[ofEvents_eq]using h.tp) rfl fun _=>rfl⟩
 | @d3 k m b w hk hG=>
  rcases Yl Y9 hG with e|⟨n,g,l,i,rfl,e,⟨rfl,rfl⟩,a⟩;exact xw4 B h f hk e m;exact⟨_,_,_,BL B h f e (.d3 hk a) (.right _<|by omega) rfl ⟨rfl,rfl⟩ (.inr rfl) id (by simpa[ofEvents_eq]using h.tp) rfl fun _=>rfl⟩
 | @d4 k m b w hk hG=>
  rcases Yl Y9 hG with e|⟨n,g,l,i,rfl,e,⟨rfl,rfl⟩,a⟩;exact xw5 B h f e m;exact⟨_,_,_,BL B h f e (.d4 hk a) (.right _<|by omega) rfl ⟨rfl,rfl⟩ (.inr rfl) id (by simpa[ofEvents_eq]using h.tp) rfl fun _=>rfl⟩
 |out hq=>exact xuq B h f E hq
def VH(B:q9 X Wg C S D M)(h:dU P ty Wg C S D M c vals o X p rg r d st m left b q gs v t)(dr:Nat):dU P ty Wg C S D M c vals o X p rg r d st m left b q gs (v.at dr) t:=
 ⟨h.pos,h.size,h.hb,h.old,h.above,h.ch.rely h.kc B.sd (fun _ _=>rfl) ⟨_,_,h.wg⟩,h.kc,h.pay,h.chan,h.nV,h.lefts,h.wg,h.kH,h.kG,h.tp,h.deaf0,h.eD,h.rel,h.pt⟩
def YQ(h:dU P ty Wg C S D M c vals o X p rg r d st m left b q gs v t)(h0:gs[0]?=bO g0){i:Nat}{g1:Zg}(F:0<i)(E:i<c)(R:gs[i]?=bO g1)(n:g1.status= .running):
  ∃gs' ops q',runT P (crowd gs v sl) i=(.next<|crowd gs' v sl,ops)/\sumTo c q'<sumTo c q/\(∃g0',gs'[0]?=bO g0'/\(g0'=g0\/∃a a',g0'=woken P a a' v g0))/\dU P ty Wg C S D M c vals o X p rg r d st m left b q' gs' v (t++ops)/\∀rr,Rel (stA Wg) c t rr->Rel (stA Wg) c (t++ops) rr:=by
 have L:=h.old i g1 F E R;have T:(i==0)=bK:=by simp;omega
 have W:i<gs.size:=(za.1 R).1;cases hqi:q i with
 |zero=>rw[hqi]at L;rw[L.1]at n;cases n
 |succ k=>
  rw[hqi]at L;rcases L with⟨hf,_⟩|⟨_,g',O,hm,H,Y⟩
  rw[hf]at n;cases n;have z:=runT_crowd_go (sl:=sl) R (by rw[T];exact H v);have ba:sumTo c (upd q i k)+(k+1)=sumTo c q+k:=by
   have:=sumTo_upd q k id E;simpa[hqi]using this
  have hn:∀J∈bD i g1.frame.fn g1.frame.place O,J.act.touch?=bN:=fun J f=>by
   obtain⟨e,Q,rfl⟩:=zy f;exact touch_mute<|hm e Q
  have K:∀N,t.size<=N->(t++bD i g1.frame.fn g1.frame.place O).g? N=bO c->¬(t++bD i g1.frame.fn g1.frame.place O).counts N:=fun N bb hg hc=>by
   obtain⟨x,B,_⟩:=hc;rcases Zo B with⟨bc,_⟩|⟨_,J,f,_,I⟩
   omega;rw[hn J f]at I;cases I
  refine⟨_,_,upd q i k,z,by omega,?_,⟨h.pos,by simp[h.size],?_,fun j x U V B=>?_,fun j U=>?_,h.ch,h.kc,h.pay,h.chan,h.nV,h.lefts,h.wg,h.kH,h.kG,h.tp.mutes fZ hn fun J f e=>?_,?_,?_,fun h6=>?_,by have:=h.pt;simp;omega⟩,fun rr Z=>Z.app K⟩;exact⟨woken P g1 g' v g0,by rw[zd<|by omega,jj,h0];rfl,.inr ⟨g1,g',rfl⟩⟩;rw[zd<|by omega,jj,h.hb];simp only[js,zp];rcases h.ch.awake with e|e
  exact woken_run e;cases h.ch with
  |out hq2=>exact woken_quitsD hq2
  |_=>
   rename_i hG
   first
    |(have:=qr (fun _ _ x=>x.1) (fun _ x=>x) hG;rw[e]at this;cases this)
    |(have:=qr (fun _ _ x=>x.1) Y9 hG;rw[e]at this;cases this)
  by_cases w:i=j;subst w;rw[zx<|by simpa using W]at B;obtain rfl:=jf B;rw[upd_same,Deaf_own];exact Y;rw[zd w,jj]at B;obtain⟨y,hy,rfl⟩:=zt.1 B;have G:=h.old j y U V hy;rw[woken_quitsD G,upd_ne q k<|aL w,aG t w _ fZ];exact G;rw[aG t (g':=i) (by omega) _ fZ];exact h.above j U;obtain⟨ev,Q,rfl⟩:=zy f;have h1:=Wc e;have h2:=hm ev Q;obtain⟨l,a,s⟩:=ev;cases h1;simp[Event.mute]at h2;rw[aG t (g':=i) (by omega) _ fZ];exact h.deaf0;rw[aG t (g':=i) (by omega) _ fZ];exact h.eD;obtain⟨rr,hp,Z⟩:=h.rel h6;exact⟨rr,hp,Z.app K⟩
end
end
end
section
open Go.ConcN (sumTo upd sumTo_upd upd_ne upd_same RW DWs AtR0 AtK1 AtD1 WgLive PayAt Has AsideCell EvW ShN)
open Go.ConcR (KK wgBlock WgAt stA smA rd wr mk Payload DC0)
variable [pn:Pn]
section
variable {w:Zy} {es:Array Event} {z:Zv} {g':Zg} {Stop:Zg→Zy→Prop}
section
variable [Payload] {P:aV} {F:Array Func} {dm:Frame} {ty:TypeId} {Wg C:Nat} {S:Nat->Prop} {D M c:Nat} {vals:List Value} {o:Nat->Obj} {X:Nat->Prop} {p rg r:Nat}
variable {d st m:Nat} {left:List Value} {b g0:aS} {q:Nat->Nat} {gs:Array aS} {v:World} {t:Trace} {sl:Option<|Nat×Nat}
def q9.xs(B:q9 X Wg C S D M):∀x,S x\/x=M->X x:=fun x b=>by
 rcases B.apart.th (.cell<|zq x 0) (.inl ⟨_,rfl,b⟩)with⟨a,e,h⟩|⟨r,e,_⟩;cases e;exact h;cases e
def q9.xd(B:q9 X Wg C S D M):X D:=B.xs D<|.inl B.sd
def Fv(B:q9 X Wg C S D M)(h:dU P ty Wg C S D M c vals o X p rg r d st m left b q gs v t)(h0:gs[0]?=bO g0){H:Zy}(hk:∀x,X x->H.heap[x]?=v.heap[x]?)(k:∀e∈es,qI X H.heap.size e)(T:v.heap.size<=H.heap.size)
  {f:Zg->Zg}(Y:f=woken P g0 g' H\/f=id):
  dU P ty Wg C S D M c vals o X p rg r d st m left b q ((gs.map f).setIfInBounds 0 g') H (t++bD 0 g0.frame.fn g0.frame.place es):=by
 have s:c≠0:=Xh h.pos;have G:∀{n d} {x:Zg},QuitsD P n d x->f x=x:=fun F=>by
  rcases Y with rfl|rfl;exact woken_quitsD F;rfl
 have O:∀{x:Zg},x.status= .running->f x=x:=fun F=>by
  rcases Y with rfl|rfl;exact woken_run F;rfl
 refine⟨h.pos,by simp[h.size],?_,fun i g Z Q I=>?_,fun j hj=>?_,h.ch.rely h.kc B.sd (fun x l=>hk x<|B.xs x l) ⟨_,_,h.wg.of_block<|hk Wg B.xw⟩,fun x l=>(hk x<|B.xs x l).trans<|h.kc x l,?_,(hk C B.xc).trans h.chan,h.nV,h.lefts,h.wg.of_block<|hk Wg B.xw,h.kH,h.kG,?_,?_,?_,fun h6=>?_,by have:=h.pt;simp;omega⟩;rw[zd<|aL s,jj,h.hb];simp only[js,zp];rcases h.ch.awake with e|e
 exact O e;cases h.ch with
 |out hq2=>exact G hq2
 |_=>
  rename_i hG
  first
   |(have:=qr (fun _ _ x=>x.1) (fun _ x=>x) hG;rw[e]at this;cases this)
   |(have:=qr (fun _ _ x=>x.1) Y9 hG;rw[e]at this;cases this)
 rw[zd<|by omega,jj]at I;obtain⟨y,hy,rfl⟩:=zt.1 I;have F:=h.old i y Z Q hy;rw[G F,aG t (g':=0) (by omega) _ fZ];exact F;rw[aG t (g':=0) (by omega) _ fZ];exact h.above j hj;obtain⟨cs,e,hs⟩:=h.pay;exact⟨cs,(hk D B.xd).trans e,hs⟩
 ·refine(h.tp.mono T).app B.apart (.inl rfl) fZ (fun op w x l J=>?_) (fun op w x l=>?_) (fun op w e=>?_) BI
  all_goals obtain⟨L,E,rfl⟩:=zy w
  obtain⟨_,K⟩:=IV (k L E) l;refine .inl ⟨rfl,.inl (K J).1,fun U=> .inl ?_,fun⟨r1,e,R⟩ _=>(K J).2 r1 e R⟩;rcases U with⟨a,e,N⟩|⟨x1,e,N⟩
  exact absurd ⟨a,e,B.xs _ N⟩ (K J).1;exact(K J).2 x1 e<|B.xs x1 N;exact(IV (k L E) l).1;exact(JF<|k L E).2.2 _<|Wc e
 rw[Deaf_own,deafBehind_still fun e E=>⟨(JF<|k e E).1,(JF<|k e E).2.1⟩];exact h.deaf0;rw[aG t (g':=0) (aL s) _ fZ];exact h.eD;obtain⟨rr,hp,hr⟩:=h.rel h6;refine⟨rr,hp,hr.app fun i Z I _=>?_⟩;obtain⟨z,hz,V⟩:=zt.1 I;rcases getElem?_append_cases hz with⟨ba,_⟩|⟨_,W⟩
 omega;exact s<|V.symm.trans<|fZ z W
def Yi(B:q9 X Wg C S D M):BD P X (JC P ty Wg C S D M c vals o X p rg r) where
 awake k gs v t hJ i g hi hg:=by
  obtain⟨d,st,m,left,b,q,h,_⟩:=hJ;have F:i<c+1:=by have:=(za.1 hg).1;rwa[h.size]at this
  by_cases e:i=c;subst e;rw[h.hb]at hg;cases hg;exact awake_of<|h.ch.awake.elim .inl fun x=> .inr (.inr x);exact awake_of<|(h.old i g hi (by omega) hg).status.elim .inl fun x=> .inr (.inr x)
 drawn k gs v t dr hJ:=by
  obtain⟨d,st,m,left,b,q,h,hk⟩:=hJ;exact⟨d,st,m,left,b,q,VH B h dr,hk⟩
 other k gs v t i g g0 sl hJ hi hg hrun h0 hrun0 hdy:=by
  obtain⟨d,st,m,left,b,q,h,rfl⟩:=hJ;have F:i<c+1:=by have:=(za.1 hg).1;rwa[h.size]at this
  by_cases e:i=c;subst e;rw[h.hb]at hg;cases hg;obtain⟨Q,H,n,l,K,G,s,R,O,y,I,⟨j,z,f,_⟩,E,N,_⟩:=Oi (sl:=sl) B h h0 (offersAt_of_not_blocked (by rw[hrun0];simp) _ _) hrun;have:j=g0:=by
   rcases f with e|⟨a,L,e⟩;exact e;rw[e];exact woken_run hrun0
  subst this;exact⟨l,K,G,s,_,y,I,z,⟨Q,H,R,n,O,q,E,rfl⟩,N⟩;obtain⟨l,s,J,y,I,⟨j,z,f⟩,E,_⟩:=YQ (sl:=sl) h h0 hi (by omega) hg hrun;have:j=g0:=by
   rcases f with e|⟨a,L,e⟩;exact e;rw[e];exact woken_run hrun0
  subst this;exact⟨l,v,sl,s,(st,m+sumTo c J),y,.right _<|by omega,z,⟨d,st,m,left,b,J,E,rfl⟩,fun w h=>h⟩
 own k gs v t g0 g' K es hJ h0 hst hrun hrun' hk hes hsz:=by
  obtain⟨d,st,m,left,b,q,h,rfl⟩:=hJ;exact⟨d,st,m,left,b,q,Fv B h h0 hk hes hsz<|.inl rfl,rfl⟩
end
section
variable [Payload] {P:aV} {ty:TypeId} {Wg C:Nat} {S:Nat->Prop} {D M c:Nat} {vals:List Value} {o:Nat->Obj} {X:Nat->Prop} {p rg r:Nat}
variable {d st m:Nat} {left:List Value} {b g0:aS} {q:Nat->Nat} {gs:Array aS} {v:World} {t:Trace} {sl:Option<|Nat×Nat}
def got(vals:Ze)(z:Zv)(r:Nat):Zv:=if r<vals.length then .tuple #[vals.getD r bJ,.bool bL]else .tuple #[z,.bool bK]
def vO(vals:Ze)(r:Nat):Nat:=if r<vals.length then r+1 else r
variable (P ty Wg C S D M c vals o X p rg)in
def wZ(r:Nat)(g₂:Zg)(z:Zv)(m:Machine)(t:Trace)(w:Zy):Prop:=
 ∃N gs' v' sl' t' k',runNT P N m t=(.next<|crowd gs' v' sl',t')/\JC P ty Wg C S D M c vals o X p rg (vO vals r) k' gs' v' t'/\gs'[0]?=bO (Conc.served g₂<|got vals z r)/\Sm P X (re w v'.tape v'.drawn) v'
def wZ.step{d:Zg}{m m1:Machine}{t e:Trace}{N:Nat}(h:runNT P N m t=(.next m1,e))(k:wZ P ty Wg C S D M c vals o X p rg r d z m1 e w):wZ P ty Wg C S D M c vals o X p rg r d z m t w:=by
 obtain⟨f,a,n,b,l,j,g,i⟩:=k;exact⟨N+f,a,n,b,l,j,ql h g,i⟩
def dU.recv(B:q9 X Wg C S D M)(h:dU P ty Wg C S D M c vals o X p rg r d st m left b q gs v t){r':Nat}{w:Array Zg}{I:Zy}{u:Trace}(Q:w.size=gs.size)(n:∀j,j≠0->w[j]?=gs[j]?)(F:∀op∈u,op.g=0)(K:∀op∈u,op.act.touch?=bN/\(∀a,op.act≠ .mark (.release a))/\op.act≠ .mark .disable/\op.act≠ .mark .enable)
  (k:∀x,x≠C->I.heap[x]?=v.heap[x]?)(R:I.heap.size=v.heap.size)
  (s:I.heap[C]?=bO (.chan vals.length ((vals.take<|vals.length-left.length).drop r').toArray (decide (st<=8)) (vals.length-left.length) r' bK))(H:r'<=vals.length-left.length):
  dU P ty Wg C S D M c vals o X p rg r' d st m left b q w I (t++u):=by
 have E:c≠0:=Xh h.pos;have N:∀x,S x\/x=M->I.heap[x]?=v.heap[x]?:=fun x L=>k x<|B.cs x L;have hd:Deaf (t++u) 0=Deaf t 0:=by
  obtain⟨l⟩:=u;rw[Deaf_append];have G:∀op∈l,op.act≠ .mark .disable/\op.act≠ .mark .enable:=fun op f=>(K op<|by simpa using f).2.2;clear F K;generalize Deaf t 0=x;induction l generalizing x with
  |nil=>rfl
  |cons y l ih=>
   rw[J4];have:deafStep 0 x y=x:=by
    obtain⟨h1,h2⟩:=G y (by simp);unfold deafStep;split<;>simp_all
   rw[this];exact ih (fun op f=>G op<|by simp[f]) x
 refine⟨h.pos,by rw[Q,h.size],by rw[n c E];exact h.hb,fun i g V O J=>?_,fun j Y=>?_,h.ch.rely h.kc B.sd N ⟨_,_,h.wg.of_block<|k Wg B.wc⟩,fun x L=>(N x L).trans<|h.kc x L,?_,s,H,h.lefts,h.wg.of_block<|k Wg B.wc,h.kH,h.kG,by rw[R];exact h.tp.mutes F (fun op f=>(K op f).1) fun op f=>(K op f).2.1 _,hd.trans h.deaf0,by rw[aG t (aL E) u F];exact h.eD,fun W=>?_,by have:=h.pt;simp;omega⟩;rw[n i<|by omega]at J;rw[aG t (g':=0) (by omega) u F];exact h.old i g V O J;rw[aG t (g':=0) (by omega) u F];exact h.above j Y;obtain⟨cs,e,Q⟩:=h.pay;exact⟨cs,(N D<|.inl B.sd).trans e,Q⟩;obtain⟨rr,hp,hr⟩:=h.rel W;refine⟨rr,hp,hr.app fun i V J _=>?_⟩;obtain⟨z,hz,T⟩:=zt.1 J;rcases getElem?_append_cases hz with⟨Z,_⟩|⟨_,U⟩
 omega;exact E<|T.symm.trans<|F z U
def YS(h:dU P ty Wg C S D M c vals o X p rg r d st m left b q gs v t)(f:Bool):partners (gs.setIfInBounds 0 ph) C f=[]:=partners_nil fun j x i=>by
 rcases getElem?_stand gs 0 j x i with⟨_,rfl⟩|⟨k,a⟩;exact offersAt_ph _ _;refine offersAt_of_not_blocked ?_ _ _;have g:j<c+1:=by have:=(za.1 a).1;rwa[h.size]at this
 by_cases e:j=c;subst e;rw[h.hb]at a;cases a;rcases h.ch.awake with e|e<;>rw[e]<;>simp
 rcases(h.old j x (by omega) (by omega) a).status with e|e<;>rw[e]<;>simp
def zt7(l:Ze):l.toArray.extract 1 l.toArray.size=(l.drop 1).toArray:=by
 apply Array.ext';simp only[Array.toList_extract,jg,XQ];exact qj<|by simp
def Fd(B:q9 X Wg C S D M)(h:dU P ty Wg C S D M c vals o X p rg r d st m left b q gs v t){n:Zg}(s:gs[0]?=bO g0)(l:aZ P bL g0 v= .comm n #[rcase C z] bL (.recv bL) v #[])(F:r<vals.length-left.length)(y:Sm P X (re w v.tape v.drawn) v):
  ∃gs' v' t',runT P (crowd gs v sl) 0=(.next<|crowd gs' v' sl,t')/\dU P ty Wg C S D M c vals o X p rg (r+1) d st m left b q gs' v' (t++t')/\gs'[0]?=bO (Conc.served n<|.tuple #[vals.getD r bJ,.bool bL])/\Sm P X (re w v'.tape v'.drawn) v':=by
 have f:((vals.take<|vals.length-left.length).drop r).length=vals.length-left.length-r:=by simp
 have e:=crowd_recv_buf (sl:=sl) s l h.chan (by simp only[jg,f];omega)<|YS h bL;have g:C<v.heap.size:=(za.1 h.chan).1;have i:0<gs.size:=(za.1 s).1;have G:((vals.take<|vals.length-left.length).drop r).toArray.getD 0 bJ=vals.getD r bJ:=by
  have k:r<vals.length:=by omega
  simp[Zj,Xo,F,k]
 rw[finishComm_recv,G]at e;refine⟨_,_,_,e,h.recv B (by simp) (fun j E=>by rw[zd<|aL E]) (fun I a=>?_) (fun I a=>?_) (fun x H=>?_) (by show(v.heap.setIfInBounds C _).size=_;simp) ?_<|by omega,by simp[i,recvd],RP (C:=C) y B.xc B.nc h.chan⟩;simp[ofEvents_eq]at a;rcases a with rfl|rfl<;>rfl
 simp[ofEvents_eq]at a;rcases a with rfl|rfl<;>simp[aR]
 show(v.heap.setIfInBounds C _)[x]?=_;rw[zd<|aL H];show(v.heap.setIfInBounds C _)[C]?=_;rw[zt7,Vx];simp[g]
def zyf(B:q9 X Wg C S D M)(h:dU P ty Wg C S D M c vals o X p rg r d st m left b q gs v t){k:Zg}(l:gs[0]?=bO g0)(i:aZ P bL g0 v= .comm k #[rcase C z] bL (.recv bL) v #[])(E:¬r<vals.length-left.length)(n:st<=8):
  ∃gs' t',runT P (crowd gs v sl) 0=(.next<|crowd gs' v sl,t')/\dU P ty Wg C S D M c vals o X p rg r d st m left b q gs' v (t++t')/\gs'[0]?=bO (Conc.served k<|.tuple #[z,.bool bK]):=by
 have s:((vals.take<|vals.length-left.length).drop r).toArray=#[]:=by
  have:((vals.take<|vals.length-left.length).drop r)=[]:=Yp (by simp;omega);rw[this]
 have f:=h.chan;rw[s,show decide (st<=8)=bL by simpa using n]at f;have e:=crowd_recv_closed (sl:=sl) l i f<|YS h bL;have g:0<gs.size:=(za.1 l).1;rw[finishComm_recv]at e;refine⟨_,_,e,h.recv B (by simp) (fun j w=>by rw[zd<|aL w]) (fun y a=>?_) (fun y a=>?_) (fun x F=>rfl) rfl h.chan h.nV,by simp[g,recvd]⟩;simp[ofEvents_eq]at a;subst a;rfl;simp[ofEvents_eq]at a;subst a;simp[aR]
end
section
variable [Payload] {P:aV} {ty:TypeId} {Wg C:Nat} {S:Nat->Prop} {D M c:Nat} {vals:List Value} {o:Nat->Obj} {X:Nat->Prop} {p rg r:Nat}
variable {d st m:Nat} {left:List Value} {b g0:aS} {q:Nat->Nat} {gs:Array aS} {v:World} {t:Trace} {sl:Option<|Nat×Nat}
def Nt{u:Trace}(c:∀op∈u,op.act≠ .mark .disable/\op.act≠ .mark .enable)(j:Nat):Deaf (t++u) j=Deaf t j:=by
 obtain⟨l⟩:=u;rw[Deaf_append];have b:∀op∈l,op.act≠ .mark .disable/\op.act≠ .mark .enable:=fun op a=>c op (by simpa using a);clear c;generalize Deaf t j=x;induction l generalizing x with
 |nil=>rfl
 |cons y l ih=>
  rw[J4];have:deafStep j x y=x:=by
   obtain⟨d,e⟩:=b y (by simp);unfold deafStep;split<;>simp_all
  rw[this];exact ih (fun op a=>b op<|by simp[a]) x
def TP.push{d:Loc->Prop}{a0:Addr}{b:Nat}(h:TP X d Wg C c a0 p b t){op:MemOp}(e:op.act.touch?=bN)(f:op.act≠ .mark (.release a0)):TP X d Wg C c a0 p b<|t++#[op]:=
 h.mutes (g:=op.g) (fun x a=>by simp at a;rw[a]) (fun x a=>by simp at a;rw[a];exact e) (fun x a=>by simp at a;rw[a];exact f)
def rI(B:q9 X Wg C S D M){a:Ze}{v0 z:Zv}{F:Zg}(h:dU P ty Wg C S D M c vals o X p rg r 0 (10+a.length) m (v0::a) b q gs v t)(hr:¬r<vals.length-(v0::a).length)(h0:gs[0]?=bO (parked F #[rcase C z]<|.recv bL))
  (hs:BV P C S M o v0 (xD P ty Wg C S D M o a) b v)(hS:Sm P X (re w v.tape v.drawn) v):
  ∃gs' v' ops m' b',runT P (crowd gs v sl) c=(.next<|crowd gs' v' sl,ops)/\dU P ty Wg C S D M c vals o X p rg (r+1) 0 (9+a.length) m' a b' q gs' v' (t++ops)/\gs'[0]?=bO (Conc.served F<|.tuple #[v0,.bool bL])/\Sm P X (re w v'.tape v'.drawn) v'/\r<vals.length/\vals.getD r bJ=v0:=by
 obtain⟨_,T,z',es,bf,J,H⟩:=hs;have n:c≠0:=Xh h.pos;have W:(c==0)=bK:=by have:=h.pos;simp;omega
 have L:c<gs.size:=by rw[h.size];omega
 have N:0<gs.size:=by omega
 have s:=h.chan;rw[show decide (10+a.length<=8)=bK by simp;omega]at s;obtain⟨e1,e2,e3⟩:=Rc h.lefts h.nV;have be:r=vals.length-(v0::a).length:=by have:=h.nV;omega
 have hp:partners (gs.setIfInBounds c ph) C bK=[(0,0)]:=by
  rw[partners_one (j:=0) (g:=parked F #[rcase C z]<|.recv bL) (stand_get (aL n) h0) fun j x U I=>?_];rw[offersAt_parked_recv];simp;rcases getElem?_stand gs c j x I with⟨_,rfl⟩|⟨bk,R⟩
  exact offersAt_ph _ _;refine offersAt_of_not_blocked ?_ _ _;have Z:j<c:=by have:=(za.1 R).1;rw[h.size]at this;omega
  rcases(h.old j x (by omega) Z R).status with e|e<;>rw[e]<;>simp
 have d:=crowd_send_meets (sl:=sl) h.hb (by rw[W];exact bf) s (aL n) h0 hp;rw[finishComm_send,finishComm_recv]at d;have bl:(v0::a).length<=vals.length:=by
  have:=congrArg List.length h.lefts;simp only[jb]at this;simp only[zh]at*;omega
 have bd:r<vals.length:=by simp only[zh]at*;omega
 have bj:vals.getD r bJ=v0:=by
  have:=congrArg (fun l=>l[0]?) h.lefts;rw[Xo];simp only[Xl,PK]at this;rw[be,<-Nat.add_zero<|vals.length-_,<-this];rfl
 generalize hv':v.setChan C vals.length ((vals.take<|vals.length-(v0::a).length).drop r).toArray bK (vals.length-(v0::a).length+1) (r+1) bK=v' at d;have V:C<v.heap.size:=(za.1 s).1;have k:∀x,x≠C->v'.heap[x]?=v.heap[x]?:=fun x I=>by
  rw[<-hv'];show(v.heap.setIfInBounds C _)[x]?=_;rw[zd<|aL I]
 have bg:v'.heap.size=v.heap.size:=by rw[<-hv'];show(v.heap.setIfInBounds C _).size=_;simp
 have K:Kc S M o v':=fun x I=>(k x<|B.cs x I).trans<|h.kc x I;obtain⟨m',ba⟩:=cR<|H v' K;have bh:=VN (fn:=b.frame.fn) (pos:=b.frame.place) B.apart h.tp h.kc J;generalize hu4:(#[{g:=c,fn:=T.frame.fn,pos:=T.frame.place,act:=MemAct.send C<|vals.length-(v0::a).length},{g:=0,fn:=F.frame.fn,pos:=F.frame.place,act:= .recv C r vals.length},
    {g:=c,fn:=T.frame.fn,pos:=T.frame.place,act:= .sendDone C (vals.length-(v0::a).length)},{g:=0,fn:=F.frame.fn,pos:=F.frame.place,act:= .recvDone C r}]:Trace)=u4 at d
 have O:∀E∈u4,E.act.touch?=bN/\E.act≠ .mark .disable/\E.act≠ .mark .enable:=fun E f=>by
  rw[<-hu4]at f;simp at f;rcases f with rfl|rfl|rfl|rfl<;>simp[aR]
 have Q:TP X (pK S M) Wg C c (stA Wg) p v.heap.size<|(t++bD c b.frame.fn b.frame.place es)++u4:=by
  have bi:u4=#[u4.getD 0 default]++#[u4.getD 1 default]++#[u4.getD 2 default]++#[u4.getD 3 default]:=by rw[<-hu4];rfl
  rw[bi,<-Zs,<-Zs,<-Zs];rw[<-hu4];exact(((bh.push (by simp[aR])<|by simp).push (by simp[aR])<|by simp).push (by simp[aR])<|by simp).push (by simp[aR])<|by simp
 have G:∀j,j≠c->Deaf (t++(bD c b.frame.fn b.frame.place es++u4)) j=Deaf t j:=fun j U=>by
  rw[<-Zs,Nt fun E f=>(O E f).2,aG t (aL U) _ fZ]
 refine⟨_,v',_,m',_,d,⟨h.pos,by simp[h.size],by simp[L],fun i g hi Y hg=>?_,fun j U=>?_,ba,K,?_,?_,by omega,e3,?_,fun x y=>by omega,fun x=>by have:=h.kG x;omega,?_,?_,?_,fun x=>by omega,by have:=h.pt;simp;omega⟩,?_,?_,bd,bj⟩;rw[zd<|by omega,zd<|by omega]at hg;rw[G i<|by omega];exact h.old i g hi Y hg;rw[G j<|by omega];exact h.above j U;obtain⟨cs,e,hs⟩:=h.pay;exact⟨cs,(k D<|B.cs D<|.inl B.sd).trans e,hs⟩;rw[show decide (9+a.length<=8)=bK by simp;omega,e2,<-hv'];show(v.heap.setIfInBounds C _)[C]?=_;have bb:(vals.take<|vals.length-(v0::a).length).drop r=[]:=Yp (by simp only[xt];omega);have bc:(vals.take<|vals.length-(v0::a).length+1).drop (r+1)=[]:=Yp (by simp only[xt];omega);rw[bb,bc];simp[V];rw[show iE rg (9+a.length)=iE rg (10+a.length)from JV (by omega)<|by omega,show gM rg (9+a.length)=gM rg (10+a.length)from JU (by omega)<|by omega];exact h.wg.of_block<|k Wg B.wc;rw[bg,<-Zs];exact Q;rw[G 0<|aL n];exact h.deaf0;rw[<-Zs,Nt fun E f=>(O E f).2,Deaf_own,h.eD,u_ J];rw[zd n];simp[N,recvd];rw[<-hv'];exact RP hS B.xc B.nc s
end
section
variable [Payload] {P:aV} {ty:TypeId} {Wg C:Nat} {S:Nat->Prop} {D M c:Nat} {vals:List Value} {o:Nat->Obj} {X:Nat->Prop} {p rg r:Nat}
variable {d st m:Nat} {left:List Value} {b g0:aS} {q:Nat->Nat} {gs:Array aS} {v:World} {t:Trace} {sl:Option<|Nat×Nat}
structure xJ(P:Zp)(C:Nat)(z:Zv)(g₂ g:Zg):Prop where
 run:g.status= .running
 dy:g.dying=bN
 st:∀v,aZ P bL g v= .comm g₂ #[rcase C z] bL (.recv bL) v #[]
def Ch.closed(h:Ch P ty Wg C S D M o d st m left b v)(a:st<=8):left=[]:=by
 cases h<;>first|rfl|omega
def Sc(B:q9 X Wg C S D M){j:Zg}(bh:xJ P C z j {parked j #[rcase C z] (.recv bL)with status:= .running}){k:Nat×Nat}
  (ih:∀k',vV k' k->(∀gs v sl t g,xJ P C z j g->JC P ty Wg C S D M c vals o X p rg r k' gs v t->gs[0]?=bO g->Sm P X (re w v.tape v.drawn) v->wZ P ty Wg C S D M c vals o X p rg r j z (crowd gs v sl) t w)/\
   (∀d st m left b q gs v sl t,k'=(st,m+sumTo c q)->dU P ty Wg C S D M c vals o X p rg r d st m left b q gs v t->9<=st->¬r<vals.length-left.length->gs[0]?=bO (parked j #[rcase C z]<|.recv bL)->Sm P X (re w v.tape v.drawn) v->wZ P ty Wg C S D M c vals o X p rg r j z (crowd gs v sl) t w))
  (hk:k=(st,m+sumTo c q))(h:dU P ty Wg C S D M c vals o X p rg r d st m left b q gs v t)(h9:9<=st)(hr:¬r<vals.length-left.length)(N:gs[0]?=bO (parked j #[rcase C z]<|.recv bL))(hS:Sm P X (re w v.tape v.drawn) v):
  wZ P ty Wg C S D M c vals o X p rg r j z (crowd gs v sl) t w:=by
 have bg:c≠0:=Xh h.pos;have F:b.status= .running:=by
  cases h.ch with
  |send h=>exact qr (fun _ _ x=>x.1) (fun _ x=>x) h
  |cls h=>exact qr (fun _ _ x=>x.1) (fun _ x=>x) h
  |_=>omega
 have ba:=h.chan;rw[show decide (st<=8)=bK by simp;omega]at ba;have hw:∀(a R:Zg) (E:Nat),woken P a R (v.at E) (parked j #[rcase C z]<|.recv bL)=parked j #[rcase C z] (.recv bL):=fun a R E=>woken_recv_open a R ba;have bf:∀g∈gs,awake g:=by
  intro g1 J;obtain⟨i,O,rfl⟩:=Z1.1 J;have G:gs[i]?=bO gs[i]:=xg O;rcases jl i with rfl|bd
  rw[N]at G;rw[<-jf G];exact awake_of<|.inr<|.inl rfl;by_cases e:i=c;subst e;rw[h.hb]at G;rw[<-jf G];exact awake_of<|.inl F;have:i<c:=by have:=h.size;omega
  exact awake_of<|(h.old i _ bd this G).status.elim .inl fun x=> .inr (.inr x)
 obtain⟨i,g1,E,y,O,J,bi⟩:=crowd_pick (P:=P) (w:=v) (sl:=sl) bf ⟨c,b,h.hb,F⟩;have hd:=VH B h E;have I:Sm P X (re w (v.at E).tape (v.at E).drawn)<|v.at E:=hS.re _ E;have K:∀{m1:Machine} {l:Trace},runT P (crowd gs (v.at E) y) i=(.next m1,l)->runNT P 1 (crowd gs v sl) t=(.next m1,t++l):=fun {m1 l} e=>by simp only[runNT,bi,e]
 have bk:i≠0:=by
  rintro rfl;rw[N]at O;cases O;cases J
 have bj:i<c+1:=by have:=(za.1 O).1;rwa[h.size]at this
 by_cases e:i=c;subst e;rw[h.hb]at O;cases O;have Q:∀{d' L:Nat} {f:Ze},TN P ty Wg C S D M i vals o X p rg r (parked j #[rcase C z]<|.recv bL) st m q gs (v.at E) y t d' L f->9<=L->f=left->wZ P ty Wg C S D M i vals o X p rg r j z (crowd gs v sl) t w:=fun {d' L f} hN be hl=>by
  obtain⟨Y,v',bl,l,m',b',T,Z,⟨W,U,V,_⟩,H,a5,_⟩:=hN;subst hl;have:W=parked j #[rcase C z] (.recv bL):=by
   rcases V with e|⟨a,R,e⟩;exact e;have bc:=H.chan;rw[show decide (L<=8)=bK by simp;omega]at bc;rw[e];exact woken_recv_open a R bc
  subst this;exact .step (K T)<|(ih _<|by rw[hk];exact Z).2 _ _ _ _ _ _ _ _ _ _ rfl H be hr U<|a5 w I
 have bb:=hd.ch;cases bb with
 | @send v0 vs m b w hG=>
  rcases Yl (fun _ x=>x) hG with hs|⟨n,b',v',es,rfl,hs,hD,hG'⟩;obtain⟨Y,v',l,m',b',T,Z,U,H,a5,a6⟩:=rI (sl:=y) B hd hr N hs I;refine⟨1,Y,v',y,_,(9+vs.length,m'+sumTo i q),K T,?_,?_,H⟩;rw[vO,aA a5];exact⟨_,_,_,_,_,_,Z,rfl⟩;rw[got,aA a5,a6];exact U;exact Q (LJ B hd N hs hD (.send hG') (by omega)<|by omega) (by omega) rfl
 |cls hG=>
  rcases Yl (fun _ x=>x) hG with hs|⟨n,b',v',es,rfl,hs,hD,hG'⟩;obtain⟨b',m',T,Z,U,H,a5⟩:=Ud (sl:=y) B hd N hs;refine .step (K T)<|(ih _<|by rw[hk];exact .left _ _<|by omega).1 _ _ _ _ _ bh ⟨_,_,_,_,_,_,H,rfl⟩ ?_<|a5 w I;rw[zd bg,jj,N];simp only[js,zp];unfold woken;rw[aA<|by simp[U,Z]];refine again_recv_closed (cap:=vals.length) (buf:=((vals.take<|vals.length-([]:Ze).length).drop r).toArray) (s:=vals.length-([]:Ze).length) (r:=r) (tm:=bK) ?_;have:=H.chan;exact this;exact Q (LJ B hd N hs hD (.cls hG') (by omega)<|by omega) (by omega) rfl
 |_=>omega
 obtain⟨Y,l,q',T,Z,⟨W,U,V⟩,H,_⟩:=YQ (sl:=y) hd N (by omega) (by omega) O J;have:W=parked j #[rcase C z] (.recv bL):=by
  rcases V with e|⟨a,R,e⟩;exact e;rw[e];exact hw a R E
 subst this;exact .step (K T)<|(ih _<|by rw[hk];exact .right _<|by omega).2 _ _ _ _ _ _ _ _ _ _ rfl H h9 hr U I
def Fc(B:q9 X Wg C S D M){H:Zg}(W:xJ P C z H {parked H #[rcase C z] (.recv bL)with status:= .running})(k:Nat×Nat):
  (∀gs v sl t g,xJ P C z H g->JC P ty Wg C S D M c vals o X p rg r k gs v t->gs[0]?=bO g->Sm P X (re w v.tape v.drawn) v->wZ P ty Wg C S D M c vals o X p rg r H z (crowd gs v sl) t w)/\
   (∀d st m left b q gs v sl t,k=(st,m+sumTo c q)->dU P ty Wg C S D M c vals o X p rg r d st m left b q gs v t->9<=st->¬r<vals.length-left.length->gs[0]?=bO (parked H #[rcase C z]<|.recv bL)->Sm P X (re w v.tape v.drawn) v->wZ P ty Wg C S D M c vals o X p rg r H z (crowd gs v sl) t w):=by
 induction k using BO.induction with
 |_ k ih=>
  refine⟨fun gs v sl t g G hJ n hS=>?_,fun d st m left b q gs v sl t hk h h9 J n hS=>Sc B W ih hk h h9 J n hS⟩;have bb:∀g∈gs,awake g:=by
   intro R I;obtain⟨i,L,rfl⟩:=Z1.1 I;rcases jl i with rfl|f
   have:gs[0]=g:=by simpa[xg L]using n
   rw[this];exact awake_of<|.inl G.run;exact(Yi B).awake k gs v t hJ i _ f<|xg L
  obtain⟨i,R,s,a,L,I,be⟩:=crowd_pick (P:=P) (w:=v) (sl:=sl) bb ⟨0,g,n,G.run⟩;have T:=(Yi B).drawn k gs v t s hJ;have y:Sm P X (re w (v.at s).tape (v.at s).drawn)<|v.at s:=hS.re _ s;have E:∀{m1:Machine} {F:Trace},runT P (crowd gs (v.at s) a) i=(.next m1,F)->runNT P 1 (crowd gs v sl) t=(.next m1,t++F):=fun {m1 F} e=>by simp only[runNT,be,e]
  rcases jl i with rfl|f;obtain rfl:R=g:=by rw[n]at L;exact(jf L).symm
  obtain⟨d,st,m,left,b,q,h,hk⟩:=T;by_cases J:r<vals.length-left.length;obtain⟨x,v',t',N,O,Q,Y⟩:=Fd (sl:=a) B h n (G.st _) J y;have l:r<vals.length:=by omega
  refine⟨1,x,v',a,_,(st,m+sumTo c q),E N,?_,?_,Y⟩;rw[vO,aA l];exact⟨_,_,_,_,_,_,O,rfl⟩;rw[got,aA l];exact Q;by_cases Z:st<=8;obtain⟨x,t',N,O,Q⟩:=zyf (sl:=a) B h n (G.st _) J Z;have hl:=h.ch.closed Z;have l:¬r<vals.length:=by rw[hl]at J;simpa using J
  refine⟨1,x,v.at s,a,_,(st,m+sumTo c q),E N,?_,?_,y⟩;rw[vO,aB l];exact⟨_,_,_,_,_,_,O,rfl⟩;rw[got,aB l];exact Q;have he:((vals.take<|vals.length-left.length).drop r).toArray=#[]:=by
   have:((vals.take<|vals.length-left.length).drop r)=[]:=Yp (by simp;omega);rw[this]
  have V:=h.chan;rw[he,show decide (st<=8)=bK by simpa using Z]at V;have K:=crowd_waits (sl:=a) n (G.st _) (fun cc U=>by
   simp at U;subst U;exact ways_recv_none V<|YS h bL)
  have bc:0<gs.size:=(za.1 n).1;have ba:dU P ty Wg C S D M c vals o X p rg r d st m left b q (gs.setIfInBounds 0<|parked H #[rcase C z]<|.recv bL) (v.at s) (t++bD 0 R.frame.fn R.frame.place #[]):=
   h.recv B (by simp) (fun j hj=>by rw[zd<|aL hj]) fZ (fun op bd=>by simp[ofEvents_eq]at bd) (fun _ _=>rfl) rfl h.chan h.nV
  exact .step (E K)<|Sc B W ih hk ba (by omega) J (by simp[bc]) y;obtain⟨x,v',bf,F,k',N,O,Q,Y,a5⟩:=(Yi B).other k gs (v.at s) t i R g a T f L I n G.run G.dy;exact .step (E N)<|(ih k' O).1 _ _ _ _ _ G Y Q<|a5 w y
end
section
variable [Payload] (P:aV) (ty:TypeId) (Wg:Nat) (Out:aS->Prop)
def R0(ty:Zt)(Wg:Nat)(w w₁:Zy):Prop:=WgLive ty Wg w->WgLive ty Wg w₁
def tN(Stop:Zg->Zy->Prop)(g:Zg):Prop:=∀w,WgLive ty Wg w->∃m,Goes P bL (R0 ty Wg) DC0 Stop m g w
def Ff(g:Zg)(_w:Zy):Prop:=g.status= .running/\Out g
def Fe(g:Zg)(w:Zy):Prop:=g.status= .running/\∃g',aZ P bL g w= .go g' w #[mk<|.acquire<|stA Wg]/\tN P ty Wg (Ff Out) g'
def OO(g:Zg)(w:Zy):Prop:=g.status= .running/\∃g',aZ P bL g w= .go g' w #[mk .enable]/\tN P ty Wg (Fe P ty Wg Out) g'
def Gl(g:Zg)(w:Zy):Prop:=g.status= .running/\(WgAt ty Wg w 0 0->∃g',aZ P bL g w= .go g' w #[rd<|stA Wg]/\tN P ty Wg (OO P ty Wg Out) g')
def Gj(g:Zg)(w:Zy):Prop:=g.status= .running/\g.offers=bN/\((∃s,WgAt ty Wg w s 0)->aZ P bL g w= .go {g with status:= .blocked} w #[])/\
 (WgAt ty Wg w 0 1->∃g',aZ P bL g w= .go g' (w.setCell (smA Wg)<|zu 0) (semEvents<|smA Wg)/\tN P ty Wg (Gl P ty Wg Out) g')
def Gm(g:Zg)(w:Zy):Prop:=g.status= .running/\∃g',aZ P bL g w= .go g' w #[⟨.mark<|.write<|smA Wg,bK,bL⟩]/\tN P ty Wg (Gj P ty Wg Out) g'
def VU(g:Zg)(w:Zy):Prop:=g.status= .running/\(WgAt ty Wg w 0 0->∃g',aZ P bL g w= .go g' w #[rd<|stA Wg]/\tN P ty Wg (OO P ty Wg Out) g')
def Gi(g:Zg)(w:Zy):Prop:=g.status= .running/\(WgAt ty Wg w KK 0->∃g',aZ P bL g w= .go g' (w.setCell (stA Wg)<|.int .u64<|KK+1) #[rd<|stA Wg,wr<|stA Wg]/\tN P ty Wg (Gm P ty Wg Out) g')/\
 (WgAt ty Wg w 0 0->∃g',aZ P bL g w= .go g' w #[rd<|stA Wg]/\tN P ty Wg (VU P ty Wg Out) g')
def WK(g:Zg)(w:Zy):Prop:=g.status= .running/\(WgAt ty Wg w KK 0->∃g',aZ P bL g w= .go g' w #[rd<|stA Wg]/\tN P ty Wg (Gi P ty Wg Out) g')/\
 (WgAt ty Wg w 0 0->∃g',aZ P bL g w= .go g' w #[rd<|stA Wg]/\tN P ty Wg (OO P ty Wg Out) g')
def Gh(g:Zg)(w:Zy):Prop:=g.status= .running/\∃g',aZ P bL g w= .go g' w #[mk .disable]/\tN P ty Wg (WK P ty Wg Out) g'
inductive W0:Nat->Nat->Nat->Nat->Zg->Zy->Prop
 |kd {st m g w} (h:Goes P bL (R0 ty Wg) DC0 (Gh P ty Wg Out) m g w):W0 9 0 st m g w
 |w1 {st m g w} (h:Goes P bL (R0 ty Wg) DC0 (WK P ty Wg Out) m g w):W0 8 4 st m g w
 |w2 {st m g w} (h:Goes P bL (R0 ty Wg) DC0 (Gi P ty Wg Out) m g w):W0 7 4 st m g w
 |w1b {m g w} (h:Goes P bL (R0 ty Wg) DC0 (VU P ty Wg Out) m g w):W0 6 4 1 m g w
 |wr {st m g w} (h:Goes P bL (R0 ty Wg) DC0 (Gm P ty Wg Out) m g w):W0 5 1 st m g w
 |w3 {st m g w} (h:Goes P bL (R0 ty Wg) DC0 (Gj P ty Wg Out) m g w):W0 4 1 st m g w
 |w4 {m g w} (h:Goes P bL (R0 ty Wg) DC0 (Gl P ty Wg Out) m g w):W0 3 2 1 m g w
 |ke {rg m g w} (hrg:rg=4\/rg=2) (h:Goes P bL (R0 ty Wg) DC0 (OO P ty Wg Out) m g w):W0 2 rg 1 m g w
 |acq {m g w} (h:Goes P bL (R0 ty Wg) DC0 (Fe P ty Wg Out) m g w):W0 1 0 1 m g w
 |fin {m g w} (h:Goes P bL (R0 ty Wg) DC0 (Ff Out) m g w):W0 0 0 1 m g w
end
section
variable [Payload] {P:aV} {ty:TypeId} {Wg C:Nat} {S:Nat->Prop} {D M c:Nat} {vals:List Value} {o:Nat->Obj} {X:Nat->Prop} {p rg r:Nat} {Out:aS->Prop}
variable {d st m:Nat} {left:List Value} {b g0:aS} {q:Nat->Nat} {gs:Array aS} {v:World} {t:Trace} {sl:Option<|Nat×Nat}
def W0.rely{i st f:Nat}{g:Zg}{w w₁:Zy}(h:W0 P ty Wg Out i rg st f g w)(l:WgLive ty Wg w₁):W0 P ty Wg Out i rg st f g w₁:=by
 have e:∀a b c,R0 ty Wg a b->R0 ty Wg b c->R0 ty Wg a c:=fun _ _ _ j k x=>k<|j x;have d:R0 ty Wg w w₁:=fun _=>l;cases h with
 |kd h=>exact .kd<|h.rely e d
 |w1 h=>exact .w1<|h.rely e d
 |w2 h=>exact .w2<|h.rely e d
 |w1b h=>exact .w1b<|h.rely e d
 |wr h=>exact .wr<|h.rely e d
 |w3 h=>exact .w3<|h.rely e d
 |w4 h=>exact .w4<|h.rely e d
 |ke hrg h=>exact .ke hrg<|h.rely e d
 |acq h=>exact .acq<|h.rely e d
 |fin h=>exact .fin<|h.rely e d
def zq8{R:Zy->Zy->Prop}{c:Zy->Zy->Array Event->Prop}(b:∀g w,Stop g w->g.status= .running)(a:∀w,R w w){m:Nat}{g:Zg}(h:Goes P bL R c Stop m g w):g.status= .running:=by
 cases m with
 |zero=>exact b _ _<|h w<|a w
 |succ m=>
  rcases h with h|⟨h,_⟩;exact b _ _<|h w<|a w;exact h
def W0.run{b st a:Nat}{g:Zg}(h:W0 P ty Wg Out b rg st a g w):g.status= .running:=by
 cases h<;>rename_i h<;>exact zq8 (fun _ _ x=>x.1) (fun _ x=>x) h
def Yt{R:Zy->Zy->Prop}{a:Zy->Zy->Array Event->Prop}(b:∀w,R w w){m:Nat}{g:Zg}(h:Goes P bL R a Stop m g w):
  Stop g w\/∃m' g' w' es,m=m'+1/\aZ P bL g w= .go g' w' es/\a w w' es/\Goes P bL R a Stop m' g' w':=by
 cases m with
 |zero=>exact .inl<|h w<|b w
 |succ m=>
  rcases h with h|⟨_,h⟩;exact .inl<|h w<|b w;right;have:=h w<|b w;cases hs:aZ P bL g w with
  |go g' w' es=>
   rw[hs,goes_go]at this;exact⟨m,g',w',es,rfl,rfl,this⟩
  |_=>rw[hs]at this;exact this.elim
def Ch.pos(h:Ch P ty Wg C S D M o d st m left b v):1<=st:=by
 cases h<;>omega
def dU.own0(B:q9 X Wg C S D M)(h:dU P ty Wg C S D M c vals o X p rg r d st m left b q gs v t)(h0:gs[0]?=bO g0){x y:Int}{rg':Nat}
  (E:∀e∈es,(∀z,(aU e).touch?=bO z->qX Wg z.loc/\(z.kind= .atomic\/z.kind= .said))/\∀a,e.loc≠ .mark (.release a))(hx:iE rg' st=x)(hy:gM rg' st=y)(N:1<st->st<5->rg'=1)(O:xU rg'->st<=1)(hd:deafBehind (e0 rg) es=e0 rg'):
  dU P ty Wg C S D M c vals o X p rg' r d st m left b q ((gs.map<|woken P g0 g' {v with heap:=v.heap.setIfInBounds Wg<|wgBlock ty x y}).setIfInBounds 0 g') {v with heap:=v.heap.setIfInBounds Wg<|wgBlock ty x y} (t++bD 0 g0.frame.fn g0.frame.place es):=by
 have n:c≠0:=Xh h.pos;have w:Wg<v.heap.size:=(za.1 h.wg).1;have l:∀z,z≠Wg->(v.heap.setIfInBounds Wg<|wgBlock ty x y)[z]?=v.heap[z]?:=fun z k=>by
  rw[zd<|aL k]
 have Q:(v.heap.setIfInBounds Wg<|wgBlock ty x y).size=v.heap.size:=by simp
 have G:WgAt ty Wg {v with heap:=v.heap.setIfInBounds Wg<|wgBlock ty x y} x y:=by
  show(v.heap.setIfInBounds Wg<|wgBlock ty x y)[Wg]?=_;simp[w]
 have I:∀z,S z\/z=M->(v.heap.setIfInBounds Wg<|wgBlock ty x y)[z]?=v.heap[z]?:=fun z k=>l z<|B.ws z k;have F:∀s∈bD 0 g0.frame.fn g0.frame.place es,∀z,s.act.touch?=bO z->qX Wg z.loc/\(z.kind= .atomic\/z.kind= .said):=fun s f z k=>by
  obtain⟨e,K,rfl⟩:=zy f;exact(E e K).1 z k
 refine⟨h.pos,by simp[h.size],?_,fun i g U L H=>?_,fun j hj=>?_,h.ch.rely h.kc B.sd I ⟨_,_,G⟩,fun z k=>(I z k).trans<|h.kc z k,?_,(l C<|aL B.wc).trans h.chan,h.nV,h.lefts,by rw[hx,hy];exact G,N,O,?_,by rw[Deaf_own,h.deaf0];exact hd,?_,fun h6=>?_,by have:=h.pt;simp;omega⟩;rw[zd<|aL n,jj,h.hb];simp only[js,zp];rcases h.ch.awake with e|e
 exact woken_run e;cases h.ch with
 |out hq2=>exact woken_quitsD hq2
 |_=>
  rename_i hG
  first
   |(have:=qr (fun _ _ x=>x.1) (fun _ x=>x) hG;rw[e]at this;cases this)
   |(have:=qr (fun _ _ x=>x.1) Y9 hG;rw[e]at this;cases this)
 rw[zd<|by omega,jj]at H;obtain⟨y,hy,rfl⟩:=zt.1 H;have V:=h.old i y U L hy;rw[woken_quitsD V,aG t (g':=0) (by omega) _ fZ];exact V;rw[aG t (g':=0) (by omega) _ fZ];exact h.above j hj;obtain⟨Y,e,hs⟩:=h.pay;exact⟨Y,(I D<|.inl B.sd).trans e,hs⟩;show TP X (pK S M) Wg C c (stA Wg) p (v.heap.setIfInBounds Wg<|wgBlock ty x y).size _;rw[Q];refine h.tp.app B.apart (.inl rfl) fZ (fun s f z k hm=>?_) (fun s f z k=>?_) (fun s f e=>?_) BI;obtain⟨k1,k2⟩:=F s f z k;exact .inr<|.inl ⟨k1,k2.imp id fun x=>⟨x,rfl⟩⟩;obtain⟨⟨W,e,J⟩,_⟩:=F s f z k;rw[e];show W.block<_;rw[J];exact w;obtain⟨Z,K,rfl⟩:=zy f;exact(E Z K).2 _<|Wc e;rw[aG t (g':=0) (aL n) _ fZ];exact h.eD;obtain⟨rr,hp,hr⟩:=h.rel h6;refine⟨rr,hp,hr.app fun i U H _=>?_⟩;obtain⟨z,k,R⟩:=zt.1 H;rcases getElem?_append_cases k with⟨ba,_⟩|⟨_,T⟩
 omega;exact n<|R.symm.trans<|fZ z T
end
section
variable [Payload] {P:aV} {ty:TypeId} {Wg C:Nat} {S:Nat->Prop} {D M c:Nat} {vals:List Value} {o:Nat->Obj} {X:Nat->Prop} {p rg r:Nat} {Out:aS->Prop}
variable {d st m:Nat} {left:List Value} {b g:aS} {q:Nat->Nat} {gs:Array aS} {v:World} {t:Trace} {sl:Option<|Nat×Nat}
def GK(Wg:Nat)(es:Array Event):Prop:=∀e∈es,(∀z,(aU e).touch?=bO z->qX Wg z.loc/\(z.kind= .atomic\/z.kind= .said))/\∀a,e.loc≠ .mark (.release a)
def a_(B:q9 X Wg C S D M)(h:dU P ty Wg C S D M c vals o X p rg r d st m left b q gs v t)(a:gs[0]?=bO g){x y:Int}{rg':Nat}(k:aZ P bL g v= .go g' {v with heap:=v.heap.setIfInBounds Wg<|wgBlock ty x y} es)
  (e:GK Wg es)(hx:iE rg' st=x)(hy:gM rg' st=y)(i:1<st->st<5->rg'=1)(j:xU rg'->st<=1)(hd:deafBehind (e0 rg) es=e0 rg'):
  ∃gs',runT P (crowd gs v sl) 0=(.next<|crowd gs' {v with heap:=v.heap.setIfInBounds Wg<|wgBlock ty x y} sl,bD 0 g.frame.fn g.frame.place es)/\gs'[0]?=bO g'/\
   dU P ty Wg C S D M c vals o X p rg' r d st m left b q gs' {v with heap:=v.heap.setIfInBounds Wg<|wgBlock ty x y} (t++bD 0 g.frame.fn g.frame.place es)/\∀w,Sm P X (re w v.tape v.drawn) v->Sm P X (re w v.tape v.drawn) {v with heap:=v.heap.setIfInBounds Wg<|wgBlock ty x y}:=by
 have f:0<gs.size:=(za.1 a).1;exact⟨_,runT_crowd_go a k,by simp[f],h.own0 B a e hx hy i j hd,fun w l=>Fy l B.xw B.nw h.wg x y⟩
def V5(B:q9 X Wg C S D M)(h:dU P ty Wg C S D M c vals o X p rg r d st m left b q gs v t)(s:gs[0]?=bO g){rg':Nat}(j:aZ P bL g v= .go g' v es)
  (a:GK Wg es)(hx:iE rg' st=iE rg st)(hy:gM rg' st=gM rg st)(f:1<st->st<5->rg'=1)(i:xU rg'->st<=1)(hd:deafBehind (e0 rg) es=e0 rg'):
  ∃gs',runT P (crowd gs v sl) 0=(.next<|crowd gs' v sl,bD 0 g.frame.fn g.frame.place es)/\gs'[0]?=bO g'/\dU P ty Wg C S D M c vals o X p rg' r d st m left b q gs' v (t++bD 0 g.frame.fn g.frame.place es):=by
 have e:=SE h.wg;obtain⟨gs',k,n,l,_⟩:=a_ (sl:=sl) (rg':=rg') (x:=iE rg st) (y:=gM rg st) B h s (by rw[e];exact j) a hx hy f i hd;rw[e]at k l;exact⟨gs',k,n,l⟩
def Bv:GK Wg #[]:=fun e a=>by simp at a
def r9{m':Mark}(c:(MemAct.mark m').touch?=bN)(d:∀a,m'≠ .release a):GK Wg #[mk m']:=fun e b=>by
 simp at b;subst b;refine⟨fun z f=>?_,fun a e=>?_⟩;have:(MemAct.mark m').touch?=bO z:=f;rw[c]at this;cases this;cases e;exact d a rfl
def DZ(b:∀e∈es,∃a w,e=(⟨.cell a,w,bL⟩:Event)/\a.block=Wg):GK Wg es:=fun e d=>by
 obtain⟨a,w,rfl,c⟩:=b e d;exact⟨fun z f=>by obtain⟨g,h⟩:=RL c f;exact⟨g,.inl h⟩,fun a=>by simp⟩
def Jn(Wg c p:Nat)(t:Trace):Prop:=∃rr q',p<=rr/\Rel (stA Wg) c t rr/\t.act? q'=bO (.mark<|.acquire<|stA Wg)/\t.g? q'=bO 0/\t.heard q'/\rr<q'
variable (P ty Wg C S D M c vals o X p r Out)in
def Fg(d st m:Nat)(left:Ze)(b:Zg)(q:Nat->Nat)(s0 m0:Nat)(gs:Array Zg)(v:Zy)(sl:Option<|Nat×Nat)(t:Trace):Prop:=
 ∃gs' v' ops s0' m0' fl rg' g',runT P (crowd gs v sl) 0=(.next<|crowd gs' v' sl,ops)/\dU P ty Wg C S D M c vals o X p rg' r d st m left b q gs' v' (t++ops)/\gs'[0]?=bO (if fl=0 then {g' with status:= .blocked}else g')/\
  (fl=1\/(fl=0/\s0'=4/\1<st/\g'.offers=bN))/\W0 P ty Wg Out s0' rg' st m0' g' v'/\(s0'=0->Jn Wg c p (t++ops))/\(s0'<s0\/(s0'=s0/\m0'+fl<m0+1))/\∀w,Sm P X (re w v.tape v.drawn) v->Sm P X (re w v'.tape v'.drawn) v'
def xmw(B:q9 X Wg C S D M)(h:dU P ty Wg C S D M c vals o X p rg r d st m left b q gs v t)(N:gs[0]?=bO g){T W:Nat}(hw:W0 P ty Wg Out T rg st W g v)(hj:T=0->Jn Wg c p t):
  (T=0/\Out g)\/Fg P ty Wg C S D M c vals o X p r Out d st m left b q T W gs v sl t:=by
 have k:WgLive ty Wg v:=⟨_,_,h.wg⟩;have be:=h.ch.pos;have s:∀{n:Nat} {l:Zg} {K:Zy} {L:Array Event},W=n+1->aZ P bL g v= .go l K L->DC0 v K L->W0 P ty Wg Out T rg st n l K->Fg P ty Wg C S D M c vals o X p r Out d st m left b q T W gs v sl t:=fun {n l K L} e f H bb=>by
  obtain⟨rfl,rfl⟩:=H;obtain⟨a,F,G,E⟩:=V5 (sl:=sl) B h N f Bv rfl rfl h.kH h.kG rfl;have e':t++bD 0 g.frame.fn g.frame.place #[]=t:=by simp[ofEvents_eq]
  exact⟨a,K,_,T,n,1,rg,l,F,E,by simpa using G,.inl rfl,bb,fun x=>by rw[e'];exact hj x,.inr ⟨rfl,by omega⟩,fun w I=>I⟩
 cases hw with
 |kd hG=>
  right;rcases Yt (fun _ x=>x) hG with⟨_,l,f,j⟩|⟨n,l,K,L,rfl,f,H,hG'⟩
  obtain⟨J,j⟩:=j v k;obtain⟨a,F,G,E⟩:=V5 (sl:=sl) (rg':=4) B h N f (r9 rfl<|by simp) (by simp[iE]) (by simp[gM]) (fun x y=>by have:=h.kH x y;omega) (fun x=>absurd rfl x.2.2) (by simp[mk,deafBehind,e0]);exact⟨a,v,_,8,J,1,4,l,F,E,by simpa using G,.inl rfl,.w1 j,fun x=>by omega,.inl<|by omega,fun w I=>I⟩;exact s rfl f H<|.kd hG'
 |w1 hG=>
  right;rcases Yt (fun _ x=>x) hG with⟨_,hs1,hs2⟩|⟨n,l,K,L,rfl,f,H,hG'⟩
  by_cases U:st<=1;obtain rfl:st=1:=by omega
  obtain⟨l,f,j⟩:=hs2 h.wg;obtain⟨J,j⟩:=j v k;obtain⟨a,F,G,E⟩:=V5 (sl:=sl) (rg':=4) B h N f (DZ CP) rfl rfl h.kH h.kG (by simp[rd,deafBehind]);exact⟨a,v,_,2,J,1,4,l,F,E,by simpa using G,.inl rfl,.ke (.inl rfl) j,fun x=>by omega,.inl<|by omega,fun w I=>I⟩;have O:=h.wg;rw[show iE 4 st=KK by simp[iE,U],show gM 4 st=0 by simp[gM]]at O;obtain⟨l,f,j⟩:=hs1 O;obtain⟨J,j⟩:=j v k;obtain⟨a,F,G,E⟩:=V5 (sl:=sl) (rg':=4) B h N f (DZ CP) rfl rfl h.kH h.kG (by simp[rd,deafBehind]);exact⟨a,v,_,7,J,1,4,l,F,E,by simpa using G,.inl rfl,.w2 j,fun x=>by omega,.inl<|by omega,fun w I=>I⟩;exact s rfl f H<|.w1 hG'
 |w2 hG=>
  right;rcases Yt (fun _ x=>x) hG with⟨_,hs1,hs2⟩|⟨n,l,K,L,rfl,f,H,hG'⟩
  by_cases U:st<=1;obtain rfl:st=1:=by omega
  obtain⟨l,f,j⟩:=hs2 h.wg;obtain⟨J,j⟩:=j v k;obtain⟨a,F,G,E⟩:=V5 (sl:=sl) (rg':=4) B h N f (DZ CP) rfl rfl h.kH h.kG (by simp[rd,deafBehind]);exact⟨a,v,_,6,J,1,4,l,F,E,by simpa using G,.inl rfl,.w1b j,fun x=>by omega,.inl<|by omega,fun w I=>I⟩;have O:=h.wg;rw[show iE 4 st=KK by simp[iE,U],show gM 4 st=0 by simp[gM]]at O;have h5:5<=st:=by
   apply jr;intro j;have:=h.kH (by omega) (by omega);omega
  obtain⟨l,f,j⟩:=hs1 O;rw[QI O]at f;obtain⟨a,F,G,E,Y⟩:=a_ (sl:=sl) (rg':=1) B h N f (DZ NR) (by simp[iE,h5]) (by simp[gM,U]) (fun _ _=>rfl) (fun x=>absurd rfl x.2.1) (by simp[rd,wr,deafBehind,e0]);obtain⟨J,j⟩:=j _ ⟨_,_,E.wg⟩;exact⟨a,_,_,5,J,1,1,l,F,E,by simpa using G,.inl rfl,.wr j,fun x=>by omega,.inl<|by omega,Y⟩;exact s rfl f H<|.w2 hG'
 |w1b hG=>
  right;rcases Yt (fun _ x=>x) hG with⟨_,hs2⟩|⟨n,l,K,L,rfl,f,H,hG'⟩
  obtain⟨l,f,j⟩:=hs2 h.wg;obtain⟨J,j⟩:=j v k;obtain⟨a,F,G,E⟩:=V5 (sl:=sl) (rg':=4) B h N f (DZ CP) rfl rfl h.kH h.kG (by simp[rd,deafBehind]);exact⟨a,v,_,2,J,1,4,l,F,E,by simpa using G,.inl rfl,.ke (.inl rfl) j,fun x=>by omega,.inl<|by omega,fun w I=>I⟩;exact s rfl f H<|.w1b hG'
 |wr hG=>
  right;rcases Yt (fun _ x=>x) hG with⟨_,l,f,j⟩|⟨n,l,K,L,rfl,f,H,hG'⟩
  obtain⟨J,j⟩:=j v k;obtain⟨a,F,G,E⟩:=V5 (sl:=sl) (rg':=1) B h N f (fun e V=>by
   simp at V;subst V;exact⟨fun z Q=>by
    simp only[aU,aR,zp]at Q;subst Q;exact⟨⟨_,rfl,rfl⟩,.inr rfl⟩,by simp⟩) rfl rfl h.kH h.kG<|by simp[deafBehind]
  exact⟨a,v,_,4,J,1,1,l,F,E,by simpa using G,.inl rfl,.w3 j,fun x=>by omega,.inl<|by omega,fun w I=>I⟩;exact s rfl f H<|.wr hG'
 |w3 hG=>
  right;rcases Yt (fun _ x=>x) hG with⟨hrun,hoff,hs1,hs2⟩|⟨n,l,K,L,rfl,f,H,hG'⟩
  by_cases U:st<=1;obtain rfl:st=1:=by omega
  have O:WgAt ty Wg v 0 1:=h.wg;obtain⟨l,f,j⟩:=hs2 O;rw[Pm O]at f;obtain⟨a,F,G,E,Y⟩:=a_ (sl:=sl) (rg':=2) B h N f (fun e V=>by
   simp[semEvents]at V;rcases V with rfl|rfl|rfl|rfl
   exact⟨fun z Q=>by simp[aU,aR]at Q,by simp⟩;exact⟨fun z Q=>by obtain⟨k1,k2⟩:=RL (Wg:=Wg) rfl Q;exact⟨k1,.inl k2⟩,by simp⟩;exact⟨fun z Q=>by obtain⟨k1,k2⟩:=RL (Wg:=Wg) rfl Q;exact⟨k1,.inl k2⟩,by simp⟩;exact⟨fun z Q=>by simp[aU,aR]at Q,by simp⟩) rfl rfl (fun x=>by omega) (fun _=>by omega)<|by simp[semEvents,deafBehind,e0]
  obtain⟨J,j⟩:=j _ ⟨_,_,E.wg⟩;exact⟨a,_,_,3,J,1,2,l,F,E,by simpa using G,.inl rfl,.w4 j,fun x=>by omega,.inl<|by omega,Y⟩;have O:=h.wg;rw[show gM 1 st=0 by simp[gM,U]]at O;have f:=hs1 ⟨_,O⟩;obtain⟨a,F,G,E⟩:=V5 (sl:=sl) (rg':=1) B h N f Bv rfl rfl h.kH h.kG rfl;exact⟨a,v,_,4,W,0,1,g,F,E,by simpa using G,.inr ⟨rfl,rfl,by omega,hoff⟩,.w3 hG,fun x=>by omega,.inr ⟨rfl,by omega⟩,fun w I=>I⟩;exact s rfl f H<|.w3 hG'
 |w4 hG=>
  right;rcases Yt (fun _ x=>x) hG with⟨_,hs2⟩|⟨n,l,K,L,rfl,f,H,hG'⟩
  obtain⟨l,f,j⟩:=hs2 h.wg;obtain⟨J,j⟩:=j v k;obtain⟨a,F,G,E⟩:=V5 (sl:=sl) (rg':=2) B h N f (DZ CP) rfl rfl h.kH h.kG (by simp[rd,deafBehind]);exact⟨a,v,_,2,J,1,2,l,F,E,by simpa using G,.inl rfl,.ke (.inr rfl) j,fun x=>by omega,.inl<|by omega,fun w I=>I⟩;exact s rfl f H<|.w4 hG'
 |ke hrg hG=>
  right;rcases Yt (fun _ x=>x) hG with⟨_,l,f,j⟩|⟨n,l,K,L,rfl,f,H,hG'⟩
  obtain⟨J,j⟩:=j v k;obtain⟨a,F,G,E⟩:=V5 (sl:=sl) (rg':=0) B h N f (r9 rfl<|by simp) (by rcases hrg with rfl|rfl<;>rfl) (by rcases hrg with rfl|rfl<;>rfl) (fun x=>by omega) (fun x=>absurd rfl x.1) (by rcases hrg with rfl|rfl<;>simp[mk,deafBehind,e0]);exact⟨a,v,_,1,J,1,0,l,F,E,by simpa using G,.inl rfl,.acq j,fun x=>by omega,.inl<|by omega,fun w I=>I⟩;exact s rfl f H<|.ke hrg hG'
 |acq hG=>
  right;rcases Yt (fun _ x=>x) hG with⟨_,l,f,j⟩|⟨n,l,K,L,rfl,f,H,hG'⟩
  obtain⟨J,j⟩:=j v k;obtain⟨a,F,G,E⟩:=V5 (sl:=sl) (rg':=0) B h N f (r9 rfl<|by simp) rfl rfl h.kH h.kG (by simp[mk,deafBehind,e0]);refine⟨a,v,_,0,J,1,0,l,F,E,by simpa using G,.inl rfl,.fin j,fun _=>?_,.inl<|by omega,fun w I=>I⟩;obtain⟨rr,hp,Z⟩:=E.rel (by omega);obtain⟨bh,_,bg⟩:=h.rel (by omega);obtain⟨rr,hp,Z⟩:=h.rel (by omega);have ba:rr<t.size:=lt_of_act? Z.act;have R:(t++bD 0 g.frame.fn g.frame.place #[mk<|.acquire<|stA Wg])[t.size]?=bO {g:=0,fn:=g.frame.fn,pos:=g.frame.place,act:= .mark (.acquire<|stA Wg)}:=by
   simp[ofEvents_eq,mk,aU]
  refine⟨rr,t.size,hp,Z.app fun i hi hg _=>?_,by rw[act?_of R],by simp[Trace.g?,R],⟨0,by simp[Trace.g?,R],?_⟩,ba⟩;obtain⟨z,Q,bc⟩:=zt.1 hg;rcases getElem?_append_cases Q with⟨bf,_⟩|⟨_,bd⟩
  omega;exact Xh h.pos<|bc.symm.trans<|fZ z bd;rw[deaf_old<|ze _];exact h.deaf0;exact s rfl f H<|.acq hG'
 |fin hG=>
  rcases Yt (fun _ x=>x) hG with⟨_,ho⟩|⟨n,l,K,L,rfl,f,H,hG'⟩;exact .inl ⟨rfl,ho⟩;exact .inr<|s rfl f H<|.fin hG'
end
section
variable [Payload] {P:aV} {ty:TypeId} {Wg C:Nat} {S:Nat->Prop} {D M c:Nat} {vals:List Value} {o:Nat->Obj} {X:Nat->Prop} {p rg r:Nat} {Out:aS->Prop}
variable {d st m:Nat} {left:List Value} {b g:aS} {q:Nat->Nat} {gs:Array aS} {v:World} {t:Trace} {sl:Option<|Nat×Nat}
abbrev eC:Nat×Nat×Nat->Nat×Nat×Nat->Prop:=Prod.Lex (·<·) (Prod.Lex (·<·) (·<·))
def xrl:WellFounded eC:=(Prod.lex Nat.lt_wfRel<|Prod.lex Nat.lt_wfRel Nat.lt_wfRel).wf
variable (P ty Wg C S D M c vals o X p r Out)in
def JW(k:Nat×Nat×Nat)(gs:Array Zg)(v:Zy)(t:Trace):Prop:=
 ∃s0 m0 fl rg d st m left b q g,dU P ty Wg C S D M c vals o X p rg r d st m left b q gs v t/\gs[0]?=bO (if fl=0 then {g with status:= .blocked}else g)/\(fl=1\/(fl=0/\s0=4/\1<st/\g.offers=bN))/\
  W0 P ty Wg Out s0 rg st m0 g v/\(s0=0->Jn Wg c p t)/\k=(s0+st,m+sumTo c q,m0+fl)
variable (P ty Wg C S D M c vals o X p r Out)in
def TR(m:Machine)(t:Trace)(w:Zy):Prop:=
 ∃N gs' v' sl' t' d mm left b q g,runNT P N m t=(.next<|crowd gs' v' sl',t')/\dU P ty Wg C S D M c vals o X p 0 r d 1 mm left b q gs' v' t'/\gs'[0]?=bO g/\Out g/\Jn Wg c p t'/\Sm P X (re w v'.tape v'.drawn) v'
def TR.step{m m1:Machine}{t f:Trace}{N:Nat}(h:runNT P N m t=(.next m1,f))(k:TR P ty Wg C S D M c vals o X p r Out m1 f w):TR P ty Wg C S D M c vals o X p r Out m t w:=by
 obtain⟨i,a,v,e,s,d,n,left,b,q,g,j,l⟩:=k;exact⟨N+i,a,v,e,s,d,n,left,b,q,g,ql h j,l⟩
def W0.child{b st' a:Nat}{w w₁:Zy}(h:W0 P ty Wg Out b rg st a g w)(c:WgLive ty Wg w₁)(d:st'<=st)(e:1<=st'):W0 P ty Wg Out b rg st' a g w₁:=by
 have h:=h.rely c;cases h with
 |kd h=>exact .kd h
 |w1 h=>exact .w1 h
 |w2 h=>exact .w2 h
 |w1b h=>
      obtain rfl:st'=1:=by omega
      exact .w1b h
 |wr h=>exact .wr h
 |w3 h=>exact .w3 h
 |w4 h=>
      obtain rfl:st'=1:=by omega
      exact .w4 h
 |ke hrg h=>
        obtain rfl:st'=1:=by omega
        exact .ke hrg h
 |acq h=>
      obtain rfl:st'=1:=by omega
      exact .acq h
 |fin h=>
      obtain rfl:st'=1:=by omega
      exact .fin h
def Ch.out1(h:Ch P ty Wg C S D M o d st m left b v)(a:st<=1):QuitsD P m d b:=by
 cases h<;>first|assumption|omega
def W0.four{st a:Nat}(h:W0 P ty Wg Out 4 rg st a g w):rg=1:=by cases h;rfl
def W0.zero{st a:Nat}(h:W0 P ty Wg Out 0 rg st a g w):st=1/\rg=0:=by cases h;exact⟨rfl,rfl⟩
def Jn.app{u:Trace}(h:Jn Wg c p t)(l:∀rr,Rel (stA Wg) c t rr->Rel (stA Wg) c (t++u) rr):Jn Wg c p<|t++u:=by
 obtain⟨rr,d,e,f,b,i,j,k⟩:=h;have a:d<t.size:=lt_of_act? b;exact⟨rr,d,e,l rr f,by rw[act?_old a];exact b,by rw[g?_old a];exact i,(heard_old a).2 j,k⟩
def Tv{d:Nat}{a a':Zg}{j:Zy}{c:Zg}(b:g.status= .running)(i:d=1\/(d=0/\g.offers=bN))(h:c=(if d=0 then {g with status:= .blocked}else g)\/∃a a',c=woken P a a' j (if d=0 then {g with status:= .blocked}else g)):
  ∃fl',c=(if fl'=0 then {g with status:= .blocked}else g)/\(fl'=1\/fl'=0/\d=0):=by
 rcases i with rfl|⟨rfl,f⟩;refine⟨1,?_,.inl rfl⟩;rcases h with e|⟨a,a',e⟩;simpa using e;rw[e];simpa using woken_run b;rcases h with e|⟨a,a',e⟩;exact⟨0,e,.inr ⟨rfl,rfl⟩⟩;unfold woken at e;split at e;refine⟨1,?_,.inl rfl⟩;rw[e];simpa using ConcR.again_blocked b f j;exact⟨0,e,.inr ⟨rfl,rfl⟩⟩
theorem Hv(B:q9 X Wg C S D M)(k:Nat×Nat×Nat):∀gs v sl t,JW P ty Wg C S D M c vals o X p r Out k gs v t->Sm P X (re w v.tape v.drawn) v->TR P ty Wg C S D M c vals o X p r Out (crowd gs v sl) t w:=by
 induction k using xrl.induction with
 |_ k ih=>
  intro gs v sl t hJ hS;obtain⟨s0,m0,V,rg,d,st,m,left,b,q,g,h,L,j,hw,hj,hk⟩:=hJ;have f:=hw.run;have y:V=1\/(V=0/\g.offers=bN):=j.imp id fun x=>⟨x.1,x.c⟩;have bk:V=0->b.status= .running:=fun e=>by
   have bg:1<st:=j.elim (fun x=>by omega) fun x=>x.2.2.1;cases h.ch with
   |out _=>omega
   |_=>
    rename_i hG
    first
     |exact qr (fun _ _ x=>x.1) (fun _ x=>x) hG
     |exact qr (fun _ _ x=>x.1) Y9 hG
  have bj:∀g∈gs,awake g:=by
   intro g1 z;obtain⟨i,H,rfl⟩:=Z1.1 z;have E:gs[i]?=bO gs[i]:=xg H;rcases jl i with rfl|F
   rw[L]at E;rw[<-jf E];split;exact awake_of<|.inr<|.inl rfl;exact awake_of<|.inl f;by_cases e:i=c;subst e;rw[h.hb]at E;rw[<-jf E];exact awake_of<|h.ch.awake.elim .inl fun x=> .inr (.inr x);have:i<c:=by have:=h.size;omega
   exact awake_of<|(h.old i _ F this E).status.elim .inl fun x=> .inr (.inr x)
  have Q:∃(i:Nat) (g:Zg),gs[i]?=bO g/\g.status= .running:=by
   rcases j with rfl|⟨rfl,_⟩;exact⟨0,g,by simpa using L,f⟩;exact⟨c,b,h.hb,bk rfl⟩
  obtain⟨i,g1,K,G,H,z,bg⟩:=crowd_pick (P:=P) (w:=v) (sl:=sl) bj Q;have hd:=VH B h K;have N:Sm P X (re w (v.at K).tape (v.at K).drawn)<|v.at K:=hS.re _ K;have R:=hw.rely (w₁:=v.at K) ⟨_,_,h.wg⟩;have U:∀{m1:Machine} {l:Trace},runT P (crowd gs (v.at K) G) i=(.next m1,l)->runNT P 1 (crowd gs v sl) t=(.next m1,t++l):=fun {m1 l} e=>by simp only[runNT,bg,e]
  have bm:i<c+1:=by have:=(za.1 H).1;rwa[h.size]at this
  have bl:offersAt (if V=0 then {g with status:= .blocked}else g) C bK=[]:=by
   rcases y with rfl|⟨rfl,bf⟩;exact offersAt_of_not_blocked (by simp[f]) _ _;simp[offersAt,bf]
  rcases jl i with rfl|F;have be:V=1:=by
   rcases j with x|⟨rfl,_⟩;exact x;rw[L]at H;cases H;cases z
  subst be;rcases xmw (sl:=G) B hd (by simpa using L) R hj with⟨rfl,ho⟩|⟨bd,v',l,s0',m0',s,rg',g',W,Y,Z,J,a5,a6,a7,a8⟩
  obtain⟨rfl,rfl⟩:=hw.zero;exact⟨0,gs,v,sl,t,d,m,left,b,q,g,rfl,h,by simpa using L,ho,hj rfl,hS⟩;refine .step (U W)<|ih _ ?_ _ _ _ _ ⟨s0',m0',s,rg',d,st,m,left,b,q,g',Y,Z,J,a5,a6,rfl⟩<|a8 w N;rw[hk];rcases a7 with x|⟨rfl,x⟩
  exact .left _ _ (by omega);exact .right _ (.right _<|by omega);by_cases e:i=c;subst e;rw[h.hb]at H;cases H;obtain⟨d',bi,T,bd,v',bn,l,m',b',W,Y,⟨bc,Z,I,ba⟩,J,a5,a6⟩:=Oi (sl:=G) B hd L bl z;have bh:bi<=st:=by
   cases Y with
   |left _ _ h=>omega
   |right _ h=>exact ze _
  obtain⟨s,e1,n⟩:=Tv (a:=g) (a':=g) f y I;have O:=J.ch.pos;refine .step (U W)<|ih _ ?_ _ _ _ _ ⟨s0,m0,s,rg,d',bi,m',T,b',q,g,J,by rw[Z,e1],?_,R.child ⟨_,_,J.wg⟩ bh O,fun x=>(hj x).app<|a6<|by subst x;obtain⟨rfl,_⟩:=hw.zero;omega,rfl⟩<|a5 w N;rw[hk];cases Y with
  |left _ _ h=>exact .left _ _<|by omega
  |right _ h=>exact .right _<|.left _ _ h
  rcases n with n|⟨n,e3⟩;exact .inl n;right;obtain⟨rfl,h4,h5,h6⟩:V=0/\s0=4/\1<st/\g.offers=bN:=by
   rcases j with x|x;omega;exact x
  refine⟨n,h4,?_,h6⟩;apply jr;intro hn;subst h4;obtain⟨bb,k1,k2,k3,k4⟩:=ba hw.four (by omega) h5;have k5:bc=g:=by
   rw[k4];unfold woken;rw[aA<|by simp[k1,k2,k3]];simpa using ConcR.again_blocked f h6 v'
  rw[e1,n]at k5;have:=congrArg Goroutine.status k5;rw[f]at this;simp at this;obtain⟨bd,l,q',W,Y,⟨bc,Z,I⟩,J,a6⟩:=YQ (sl:=G) hd L F (by omega) H z;obtain⟨s,e1,n⟩:=Tv (a:=g) (a':=g) f y I;refine .step (U W)<|ih _ ?_ _ _ _ _ ⟨s0,m0,s,rg,d,st,m,left,b,q',g,J,by rw[Z,e1],?_,R,fun x=>(hj x).app a6,rfl⟩ N;rw[hk];exact .right _ (.left _ _<|by omega);rcases n with n|⟨n,e3⟩
  exact .inl n;rcases j with x|x
  omega;exact .inr ⟨n,x.2⟩
theorem zyz(B:q9 X Wg C S D M){X':ZP}(f:∀x,X x->¬(S x\/x=M)->X' x){z:Nat}(h:dU P ty Wg C S D M c vals o X p 0 r d 1 z left b q gs v t)(E:Jn Wg c p t)(T:∃g,gs[0]?=bO g):
  ∃k,JL P X' k gs v t:=by
 obtain⟨rr,U,K,L,N,O,Q,R⟩:=E;have J:QuitsD P z d b:=h.ch.out1<|ze _;refine⟨_,fun i=>if i=c then z else q i,⟨fun i g H m=>?_,fun j E=>?_⟩,h.tp.join B.apart L K N O Q R h.deaf0 (fun l n s=>?_) fun l n s=>?_,rfl⟩;have I:i<c+1:=by have:=(za.1 m).1;rwa[h.size]at this
 by_cases e:i=c;subst e;rw[h.hb]at m;cases m;simp only[if_true,h.eD];exact J;simp only[e,if_false];exact h.old i g H (by omega) m;exact h.above j (by have:=h.size;omega);obtain⟨a,e,G⟩:=n;exact⟨a,e,f _ G fun y=>s<|.inl ⟨a,e,y⟩⟩;obtain⟨F,e,w⟩:=n;exact⟨F,e,f _ w fun y=>s<|.inr ⟨F,e,y⟩⟩
end
end
end
section
open Go.RowKit Go.Conc.Lib Go.ConcR.Gen Go.ConcN.Gen
open Go.ConcN (WgLive)
open Go.ConcR (KK wgBlock WgAt stA smA rd wr mk Payload DC0)
variable [pn:Pn]
section
variable {cs:List Zf}
section
variable [Payload] {L:WgLink} {P:aV} {Wg:Nat} {Out:aS->Prop}
def zm{ty:Zt}{w w₁:Zy}(h:WgLive ty Wg w)(r:R0 ty Wg w w₁):WgLive ty Wg w₁:=r h
def YB{b c:Zf}{a:Act}{todo:List Item}{w:Zy}{fn:Func}(f:b.kind= .deferred)(hd:a.defers=[])(e:P.funcs[b.fn]?=bO fn)(d:fn.results=#[]):
  aZ P bL (G {b.at a todo with mode:= .returning} (c::cs)) w= .go (G {c with mode:=settle c.mode} cs) w:=by
 simp only[G,aZ,aI,doReturn,Frame.at,f,hd,e,zg,results_none d _ P w,events_results_none d _ _,seen_none];unfold settle;split<;>(try split)<;>simp_all [bA]
def _root_.Go.Conc.Goes.up{main:Bool}{b:Zy->Zy->Prop}{a:Zy->Zy->Array Event->Prop}{Stop:Zg->Zy->Prop}{n k:Nat}{g:Zg}{w:Zy}(h:Goes P main b a Stop n g w)(hk:n<=k):Goes P main b a Stop k g w:=by
 induction hk with
 |refl=>exact h
 |step _ ih=>exact ih.more
def Gg(L:WgLink)(Wg:Nat)(c:Zf)(cs:List Zf)(g:Zg):Prop:=
 ∃T:Za,g=G ((baseD L.wait).at ⟨T,[]⟩ [.code<|L7 L,.inLoop<|L7 L,.inBlock 0]) (c::cs)/\T.size=84/\T[0]?=bO (zo Wg)
def xn3(H:WgLib P L){c:Zf}(i:Out<|G {c with mode:=settle c.mode} cs){g:Zg}(j:Gg L Wg c cs g)(w:Zy)(a:WgLive L.tWg Wg w):Goes P bL (R0 L.tWg Wg) DC0 (VU P L.tWg Wg Out) 40 g w:=by
 lib_facts
 obtain⟨T,rfl,d,f⟩:=j;obtain⟨v0,v1,v2,v3,v4,v5,v6,v7,v8,v9,k,l,m,n,o,p,q,r,s,t,x,y,z,B,C,D,E,F,I,J,K,M,N,O,Q,R,S,U,V,W,X,Y,Z,ba,bb,bc,bd,be,bf,bg,bh,bi,bj,bk,bl,bm,bn,bo,bp,bq,br,bs,bt,bu,bv,bw,bx,bz,b0,b1,b2,b3,b4,b5,b6,b7,b8,b9,ca,cb,cc,cd,ce,cf,rfl⟩:=array84 T d;simp only[q8,Xl,zp]at f;subst f;simp only[L7,body_wait,waitFn,jv]
 u_c stepG_block zm a
 u_c aO zm a
 u_reg zm a
 iterate 3 (u_op zm a)
 u_call H.f_uLoad (nm_uLoad L) uLoadFn zm a
 iterate 9 (first|u_c aO zm a|u_reg zm a|u_c bB zm a|u_op zm a)
 refine Goes.stop fun h b=>?_;clear b a;refine⟨rfl,fun e=>?_⟩;refine⟨_,stepG_load_atomic (v:=0) rfl rfl (by k_ne) rfl H.f_loadU64 (x_loadU64_n L) (x_loadU64_b L) (x_loadU64_x L) .u64 (x_loadU64_f L) rfl e.cellSt,fun w a=>⟨60,?_⟩⟩;clear e
 walk_nrm
 u_op zm a
 u_c bB zm a
 u_c stepG_ret' zm a
 u_leave1 H.f_uLoad zm a
 iterate 22 (first|u_c bB zm a|u_c aO zm a|u_reg zm a|u_op zm a)
 u_cond bL zm a
 u_c aO zm a
 u_cond bL zm a
 u_c aO zm a
 u_reg zm a
 refine Goes.stop fun h b=>?_;clear b a;refine⟨rfl,_,stepG_mark0 .enable (by simp) rfl rfl (by k_ne) rfl H.f_enable (x_enable_n L) (x_enable_b L) (x_enable_x L)<|x_enable_f L,fun w a=>⟨12,?_⟩⟩
 walk_nrm
 u_c bB zm a
 u_reg zm a
 u_op zm a
 u_conv H.underlying_tWgP H.room_tWg (Go.ConcN.Gen.WgLive.cell0 a).choose_spec zm a
 refine Goes.stop fun h b=>?_;clear b a;refine⟨rfl,_,stepG_markAt .acquire (by simp) rfl rfl (by k_ne) rfl H.f_acquire (x_acquire_n L) (x_acquire_b L) (x_acquire_x L) (x_acquire_f L)<|by simp[Act.eval,stA],fun w a=>⟨40,?_⟩⟩
 walk_nrm
 iterate 16 (first|u_c bB zm a|u_c aO zm a|u_reg zm a|u_skip zm a|u_op zm a)
 u_cond bK zm a
 u_c stepG_skip zm a
 u_c stepG_ret' zm a
 refine Goes.step rfl fun _ b=>?_;rw[YB rfl rfl H.f_wait rfl];simp only[goes_go];exact⟨⟨rfl,rfl⟩,Goes.stop fun _ _=>⟨rfl,i⟩⟩
def xn2(H:WgLib P L){c:Zf}(h:Out<|G {c with mode:=settle c.mode} cs){g:Zg}(k:Gg L Wg c cs g)(w:Zy)(a:WgLive L.tWg Wg w):Goes P bL (R0 L.tWg Wg) DC0 (WK P L.tWg Wg Out) 40 g w:=by
 lib_facts
 obtain⟨T,rfl,f,j⟩:=k;obtain⟨v0,v1,v2,v3,v4,v5,v6,v7,v8,v9,l,m,o,p,q,r,s,t,x,y,z,B,C,D,E,F,I,J,K,M,N,O,Q,R,S,U,V,W,X,Y,Z,ba,bb,bc,bd,be,bf,bg,bh,bi,bj,bk,bl,bm,bn,bo,bp,bq,br,bs,bt,bu,bv,bw,bx,bz,b0,b1,b2,b3,b4,b5,b6,b7,b8,b9,ca,cb,cc,cd,ce,cf,cg,ch,rfl⟩:=array84 T f;simp only[q8,Xl,zp]at j;subst j;simp only[L7,body_wait,waitFn,jv]
 u_c stepG_block zm a
 u_c aO zm a
 u_reg zm a
 iterate 3 (u_op zm a)
 u_call H.f_uLoad (nm_uLoad L) uLoadFn zm a
 iterate 9 (first|u_c aO zm a|u_reg zm a|u_c bB zm a|u_op zm a)
 refine Goes.stop fun e b=>?_;clear b a;refine⟨rfl,fun d=>?_,fun d=>?_⟩;rotate_left
 ·skip
  refine⟨_,stepG_load_atomic (v:=0) rfl rfl (by k_ne) rfl H.f_loadU64 (x_loadU64_n L) (x_loadU64_b L) (x_loadU64_x L) .u64 (x_loadU64_f L) rfl d.cellSt,fun w a=>⟨60,?_⟩⟩;clear d
  walk_nrm
  u_op zm a
  u_c bB zm a
  u_c stepG_ret' zm a
  u_leave1 H.f_uLoad zm a
  iterate 22 (first|u_c bB zm a|u_c aO zm a|u_reg zm a|u_op zm a)
  u_cond bL zm a
  u_c aO zm a
  u_cond bL zm a
  u_c aO zm a
  u_reg zm a
  refine Goes.stop fun e b=>?_;clear b a;refine⟨rfl,_,stepG_mark0 .enable (by simp) rfl rfl (by k_ne) rfl H.f_enable (x_enable_n L) (x_enable_b L) (x_enable_x L)<|x_enable_f L,fun w a=>⟨12,?_⟩⟩
  walk_nrm
  u_c bB zm a
  u_reg zm a
  u_op zm a
  u_conv H.underlying_tWgP H.room_tWg (Go.ConcN.Gen.WgLive.cell0 a).choose_spec zm a
  refine Goes.stop fun e b=>?_;clear b a;refine⟨rfl,_,stepG_markAt .acquire (by simp) rfl rfl (by k_ne) rfl H.f_acquire (x_acquire_n L) (x_acquire_b L) (x_acquire_x L) (x_acquire_f L)<|by simp[Act.eval,stA],fun w a=>⟨40,?_⟩⟩
  walk_nrm
  iterate 16 (first|u_c bB zm a|u_c aO zm a|u_reg zm a|u_skip zm a|u_op zm a)
  u_cond bK zm a
  u_c stepG_skip zm a
  u_c stepG_ret' zm a
  refine Goes.step rfl fun _ b=>?_;rw[YB rfl rfl H.f_wait rfl];simp only[goes_go];exact⟨⟨rfl,rfl⟩,Goes.stop fun _ _=>⟨rfl,h⟩⟩
 refine⟨_,stepG_load_atomic (v:=4294967296) rfl rfl (by k_ne) rfl H.f_loadU64 (x_loadU64_n L) (x_loadU64_b L) (x_loadU64_x L) .u64 (x_loadU64_f L) rfl d.cellSt,fun w a=>⟨80,?_⟩⟩;clear d
 walk_nrm
 u_op zm a
 u_c bB zm a
 u_c stepG_ret' zm a
 u_leave1 H.f_uLoad zm a
 iterate 22 (first|u_c bB zm a|u_c aO zm a|u_reg zm a|u_op zm a)
 u_cond bK zm a
 u_c stepG_skip zm a
 u_c aO zm a
 u_reg zm a
 iterate 6 (u_op zm a)
 u_call H.f_uCas (nm_uCas L) uCasFn zm a
 iterate 11 (first|u_c aO zm a|u_reg zm a|u_c bB zm a|u_op zm a)
 refine Goes.stop fun e b=>?_;clear b a;refine⟨rfl,fun d=>?_,fun d=>?_⟩;rotate_left;skip;refine⟨_,stepG_cas_miss (v:=0) (old:=4294967296) (n:=4294967297) rfl rfl (by k_ne) rfl H.f_casU64 (x_casU64_n L) (x_casU64_b L) (x_casU64_x L) .u64 (x_casU64_f L) rfl rfl rfl d.cellSt (d.thaw 0)<|by decide,fun w a=>⟨60,?_⟩⟩;clear d
 walk_nrm
 u_op zm a
 u_c bB zm a
 u_c stepG_ret' zm a
 u_leave1 H.f_uCas zm a
 u_c bB zm a
 u_cond bK zm a
 u_c stepG_skip zm a
 u_c stepG_inBlock zm a
 u_c stepG_inLoop zm a
 exact(xn3 H h ⟨_,rfl,by simp,by simp⟩ _ a).up (by omega);refine⟨_,(stepG_cas_hit (v:=4294967296) (n:=4294967297) rfl rfl (by k_ne) rfl H.f_casU64 (x_casU64_n L) (x_casU64_b L) (x_casU64_x L) .u64 (x_casU64_f L) rfl rfl rfl d.cellSt<|d.thaw 0).trans<|by rfl,fun w a=>⟨60,?_⟩⟩;clear d
 walk_nrm
 u_op zm a
 u_c bB zm a
 u_c stepG_ret' zm a
 u_leave1 H.f_uCas zm a
 u_c bB zm a
 u_cond bL zm a
 iterate 8 (first|u_c aO zm a|u_reg zm a|u_c bB zm a|u_op zm a)
 u_cond bL zm a
 u_reg zm a
 iterate 3 (u_op zm a)
 u_conv H.underlying_tPU32 H.room_tU32 (Go.ConcN.Gen.WgLive.cell1 a).choose_spec zm a
 refine Goes.stop fun e b=>?_;clear b a;refine⟨rfl,_,stepG_markAt .write (by simp) rfl rfl (by k_ne) rfl H.f_raceWrite (x_raceWrite_n L) (x_raceWrite_b L) (x_raceWrite_x L) (x_raceWrite_f L) (ad:=smA Wg)<|by simp[Act.eval,smA],fun w a=>⟨40,?_⟩⟩
 walk_nrm
 iterate 15 (first|u_c bB zm a|u_c aO zm a|u_reg zm a|u_skip zm a|u_op zm a)
 u_cond bK zm a
 u_c stepG_skip zm a
 u_c aO zm a
 u_reg zm a
 iterate 4 (u_op zm a)
 refine Goes.stop fun e b=>?_;clear b a;refine⟨rfl,rfl,fun⟨st,d⟩=>stepG_semacquire_wait rfl rfl rfl H.f_semacquire (x_semacquire_n L) (x_semacquire_b L) (x_semacquire_x L) (x_semacquire_f L) (by simp[Act.eval,smA]) d.cellSm,fun i=>?_⟩;refine⟨_,(stepG_semacquire (n:=1) rfl rfl (by k_ne) rfl H.f_semacquire (x_semacquire_n L) (x_semacquire_b L) (x_semacquire_x L) (x_semacquire_f L) (by simp[Act.eval,smA]) i.cellSm (by k_ne)<|i.thaw 1).trans<|by rfl,fun w a=>⟨30,?_⟩⟩;clear i
 walk_nrm
 u_c bB zm a
 u_c aO zm a
 u_reg zm a
 iterate 3 (u_op zm a)
 u_call H.f_uLoad (nm_uLoad L) uLoadFn zm a
 iterate 9 (first|u_c aO zm a|u_reg zm a|u_c bB zm a|u_op zm a)
 refine Goes.stop fun e b=>?_;clear b a;refine⟨rfl,fun d=>?_⟩;refine⟨_,stepG_load_atomic (v:=0) rfl rfl (by k_ne) rfl H.f_loadU64 (x_loadU64_n L) (x_loadU64_b L) (x_loadU64_x L) .u64 (x_loadU64_f L) rfl d.cellSt,fun w a=>⟨60,?_⟩⟩;clear d
 walk_nrm
 u_op zm a
 u_c bB zm a
 u_c stepG_ret' zm a
 u_leave1 H.f_uLoad zm a
 iterate 2 (u_op zm a)
 u_c bB zm a
 u_c aO zm a
 u_cond bL zm a
 u_c aO zm a
 u_reg zm a
 refine Goes.stop fun e b=>?_;clear b a;refine⟨rfl,_,stepG_mark0 .enable (by simp) rfl rfl (by k_ne) rfl H.f_enable (x_enable_n L) (x_enable_b L) (x_enable_x L)<|x_enable_f L,fun w a=>⟨12,?_⟩⟩
 walk_nrm
 u_c bB zm a
 u_reg zm a
 u_op zm a
 u_conv H.underlying_tWgP H.room_tWg (Go.ConcN.Gen.WgLive.cell0 a).choose_spec zm a
 refine Goes.stop fun e b=>?_;clear b a;refine⟨rfl,_,stepG_markAt .acquire (by simp) rfl rfl (by k_ne) rfl H.f_acquire (x_acquire_n L) (x_acquire_b L) (x_acquire_x L) (x_acquire_f L)<|by simp[Act.eval,stA],fun w a=>⟨40,?_⟩⟩
 walk_nrm
 iterate 6 (first|u_c bB zm a|u_c aO zm a|u_reg zm a|u_op zm a)
 u_cond bK zm a
 u_c stepG_skip zm a
 u_c stepG_ret' zm a
 refine Goes.step rfl fun _ b=>?_;rw[YB rfl rfl H.f_wait rfl];simp only[goes_go];exact⟨⟨rfl,rfl⟩,Goes.stop fun _ _=>⟨rfl,h⟩⟩
def i_(H:WgLib P L){c:Zf}(b:Out<|G {c with mode:=settle c.mode} cs)(w:Zy)(a:WgLive L.tWg Wg w):
  Goes P bL (R0 L.tWg Wg) DC0 (Gh P L.tWg Wg Out) 3
   (G ((baseD L.wait).at ⟨#[zo Wg]++aW 83 bJ,[]⟩ [.code<|body_wait L]) (c::cs)) w:=by
 lib_facts
 simp only[body_wait,waitFn,jv,qw,qx,Z7,Zi,jk,jc]
 u_c aO zm a
 u_cond bL zm a
 u_reg zm a
 refine Goes.stop fun e d=>?_;clear d a;refine⟨rfl,_,stepG_mark0 .disable (by simp) rfl rfl (by k_ne) rfl H.f_disable (x_disable_n L) (x_disable_b L) (x_disable_x L)<|x_disable_f L,fun w a=>⟨50,?_⟩⟩
 walk_nrm
 u_c bB zm a
 u_c stepG_block zm a
 u_c stepG_loop zm a
 exact(xn2 H b ⟨_,rfl,by simp,by simp⟩ _ a).up<|by omega
end
end
end
section
open Go.Conc.Lib
variable [pn:Pn]
abbrev ED:WgLink:={add:=210,done:=212,wait:=209,relMerge:=252,disable:=242,enable:=244,inBubble:=250,associate:=253,fatal:=254,uOr:=255,uAdd:=256,raceRead:=257,uLoad:=243,uStore:=258,disassociate:=248,semrelease:=259,acquire:=245,isAssociated:=246,uCas:=247,raceWrite:=249,semacquire:=251,orU64:=298,addU64:=299,loadU64:=296,storeU64:=300,casU64:=297,tWgP:=324,tUP:=327,tAssoc:=333,tWg:=286,tAU:=284,tU64:=255,tUint:=108,tU32:=232,tPU32:=331,tPAU:=367,tPU64:=369,tNoCopy:=280,tANoCopy:=281,tAlign64:=282}
open Tryz in
theorem OM:WgLib bM ED:=
 ⟨func210,func212,func209,func252,func242,func244,func250,func253,func254,func255,func256,func257,func243,func258,func248,func259,func245,func246,func247,func249,func251,func298,func299,func296,func300,func297,underlying324,runUnderlying324,sizeOf324,isAgg324,zeroValue324,underlying327,runUnderlying327,sizeOf327,isAgg327,zeroValue327,underlying333,runUnderlying333,sizeOf333,isAgg333,zeroValue333,underlying286,runUnderlying286,sizeOf286,isAgg286,zeroValue286,underlying284,runUnderlying284,sizeOf284,isAgg284,zeroValue284,underlying255,runUnderlying255,sizeOf255,isAgg255,zeroValue255,underlying108,runUnderlying108,sizeOf108,isAgg108,zeroValue108,underlying232,runUnderlying232,sizeOf232,isAgg232,zeroValue232,underlying331,runUnderlying331,sizeOf331,isAgg331,zeroValue331,underlying367,runUnderlying367,sizeOf367,isAgg367,zeroValue367,underlying369,runUnderlying369,sizeOf369,isAgg369,zeroValue369,underlying0,runUnderlying0,sizeOf0,isAgg0,zeroValue0,underlying3,runUnderlying3,sizeOf3,isAgg3,zeroValue3,underlying4,runUnderlying4,sizeOf4,isAgg4,zeroValue4,underlying9,runUnderlying9,sizeOf9,isAgg9,zeroValue9,underlying20,runUnderlying20,sizeOf20,isAgg20,zeroValue20,underlying21,runUnderlying21,sizeOf21,isAgg21,zeroValue21,(by kernel_rfl),(by kernel_rfl)⟩
end
section
open Go.ConcR (Payload)
variable [pn:Pn] [py:Go.ConcR.Payload]
section
variable {ops:Array aD} {rest:List Nat}
section
variable (P:aV) (S:Nat->Prop) (M:Nat) (o:Nat->Obj)
def Cg(Stop:Zg->Zy->Prop)(m:Nat)(g:Zg):Prop:=∀w,Kc S M o w->Goes P bK (RS S M o) (DS S M) Stop m g w
variable {P S M o} {Stop:aS->World->Prop} {m:Nat} {b:Frame} {a:Act} {k:List Item} {cs:List Frame}
def Cg.goes{g:Zg}(f:g.status= .running)(h:∀w,Kc S M o w->(aZ P bK g w).goes fun g' w' es=>(w'=w/\∀e∈es,xQ S M e)/\Cg P S M o Stop m g'):Cg P S M o Stop (m+1) g:=by
 intro w hk;refine Goes.step f fun b a=>?_;have:=h b<|a hk;revert this;cases aZ P bK g b<;>simp only[GStep.goes]<;>(try exact id)
 rintro⟨⟨rfl,c⟩,d⟩;exact⟨⟨rfl,c⟩,d _<|a hk⟩
theorem Cg.ctl{g g':Zg}(b:g.status= .running)(h:∀w,aZ P bK g w= .go g' w)(a:Cg P S M o Stop m g'):Cg P S M o Stop (m+1) g:=
 Cg.goes b fun w hk=>by rw[h w];exact⟨⟨rfl,by simp⟩,a⟩
def Cg.exit{id:Nat}{k':List Item}(h:exitTo id k=bO k')(c:Cg P S M o Stop m<|G (b.at a k') cs):Cg P S M o Stop (m+1)<|G (b.at a (.code (.exit id)::k)) cs:=Cg.ctl rfl (fun _=>stepG_exit h) c
def Cg.stop{g:Zg}(h:∀w,Kc S M o w->Stop g w):Cg P S M o Stop m g:=fun w hk=>Goes.stop fun b a=>h b<|a hk
def Cg.value{i:Nat}{op:aD}(v:Zv)(ho:ops[i]?=bO op)(hw:aX op (yielded ops a.tmps)=bL)(hk:b.kind≠ .early)
  (g:∀w,Kc S M o w->(bG a.eval op).run P w= .ok (.value v) w)(d:∀w,Kc S M o w->∀e∈(bG a.eval op).events P w #[],xQ S M e)
  (f:Cg P S M o Stop m<|G (b.at (a.put op.dst v) (.inRegion ops rest::k)) cs):Cg P S M o Stop (m+1)<|G (b.at a (.inRegion ops (i::rest)::k)) cs:=
 Cg.goes rfl fun w c=>by rw[stepG_value ho hw hk<|g w c];exact⟨⟨rfl,fun e h=>d w c e<|mem_listed h⟩,f⟩
def Cg.pure{i:Nat}{op:aD}(v:Zv)(ho:ops[i]?=bO op)(hw:aX op (yielded ops a.tmps)=bL)(hk:b.kind≠ .early)
  (f:∀w,(bG a.eval op).run P w= .ok (.value v) w)(c:∀w,(bG a.eval op).events P w #[]=#[])
  (d:Cg P S M o Stop m<|G (b.at (a.put op.dst v) (.inRegion ops rest::k)) cs):Cg P S M o Stop (m+1)<|G (b.at a (.inRegion ops (i::rest)::k)) cs:=
 Cg.value v ho hw hk (fun w _=>f w) (fun w _ e h=>by rw[c w]at h;simp at h) d
def Cg.call{i:Nat}{op:aD}{f:FuncId}{fn:Func}{c:Code}{args:Array Operand}{ats:Array Zt}
  (ho:ops[i]?=bO op)(hw:aX op (yielded ops a.tmps)=bL)(hk:b.kind≠ .early)(hop:op.op= .call {callee:= .value (.func f),args,argTypes:=ats})
  (g:P.funcs[f]?=bO fn)(d:(fn.name== "runtime.NumGoroutine")=bK)(e:fn.body=bO c)
  (j:Cg P S M o Stop m<|G ((base f).at {tmps:=args.map a.eval++aW (fn.ntmps-(args.map a.eval).size) bJ,defers:=[]} [.code c]) (b.at a (.inRegion ops (i::rest)::k)::cs)):
  Cg P S M o Stop (m+1) (G (b.at a (.inRegion ops (i::rest)::k)) cs):=
 Cg.goes rfl fun w h=>goes_call ho hw hk hop g d e ⟨⟨rfl,by simp⟩,j⟩
section
variable {fn:Func} {todo:List Item} {b₀:Frame} {a₀:Act} {ops:Array aD} {i:Nat} {rest:List Nat}
def Cg.leave0(e:b.kind= .normal)(hd:a.defers=[])(d:P.funcs[b.fn]?=bO fn)(c:fn.results=#[])
  (f:Cg P S M o Stop m (G (b₀.at (a₀.put ((ops[i]?).bind (·.dst))<|.tuple #[]) (.inRegion ops rest::k)) cs)):
  Cg P S M o Stop (m+1) (G {b.at a todo with mode:= .returning} (b₀.at a₀ (.inRegion ops (i::rest)::k)::cs)):=
 .ctl rfl (fun w=>by rw[stepG_leave e hd d (results_none c _ P w)<|events_results_none c _ _,IB]) f
def Cg.leave1{t:Tmp}(e:b.kind= .normal)(hd:a.defers=[])(d:P.funcs[b.fn]?=bO fn)(c:fn.results=#[.tmp t])
  (f:Cg P S M o Stop m (G (b₀.at (a₀.put ((ops[i]?).bind (·.dst))<|a.tmps.getD t bJ) (.inRegion ops rest::k)) cs)):
  Cg P S M o Stop (m+1) (G {b.at a todo with mode:= .returning} (b₀.at a₀ (.inRegion ops (i::rest)::k)::cs)):=
 .ctl rfl (fun w=>by rw[stepG_leave e hd d (results_tmp c _ P w)<|events_results_tmp c _ _,IB]) f
end
def t_{x:Addr}(h:S x.block\/x.block=M):xQ S M ⟨.cell x,bK,bK⟩:=by
 refine⟨fun y a=>?_,by simp,by simp,by simp⟩;simp only[ofEvent_cell0,aR,zp]at a;subst a;exact⟨.inl ⟨x,rfl,h⟩,rfl,rfl⟩
def xml{x:Nat}(h:S x\/x=M):xQ S M ⟨.obj x,bK,bK⟩:=by
 refine⟨fun y a=>?_,by simp,by simp,by simp⟩;simp only[show aU ⟨.obj x,bK,bK⟩= .access ⟨.obj x,bK,bK⟩from rfl,aR,zp]at a;subst a;exact⟨.inr ⟨x,rfl,h⟩,rfl,rfl⟩
end
def eZ(e:aK):Prop:=∃(k f:Int) (s:ByteArray),e.key=zi k/\e.val= .agg #[.string s,zi f]
def textOf:Zv->ByteArray
 | .agg cs=>match cs.getD 0 bJ with| .string s=>s|_=> .empty
 |_=> .empty
def fileAt(n:Int):List aK->Zv
 |[]=> .agg #[.string ⟨#[]⟩,zi 0]
 |e::es=>match e.key with
  | .int _ k=>if n=k then e.val else fileAt n es
  |_=>fileAt n es
def cB(n:Int)(es:List aK):ByteArray:=textOf<|fileAt n es
def Mg{n:Int}:∀{es:List aK},(∀e∈es,eZ e)->∃f:Int,fileAt n es= .agg #[.string<|cB n es,zi f]
 |[],_=>⟨0,rfl⟩
 |e::es,h=>by
  obtain⟨k,f,s,hk,d⟩:=h e (by simp);obtain⟨b,g⟩:=Mg (n:=n) (es:=es) fun e c=>h e (by simp[c]);by_cases a:n=k;exact⟨f,by simp[cB,fileAt,hk,a,d,textOf]⟩;exact⟨b,by simpa[cB,fileAt,hk,a]using g⟩
def Mh{n:Int}:∀(es:List aK) (i:Nat),(∀e∈es,eZ e)->∃r,Instr.findNow (.int .i64) (zi n) es i=bO r/\
  (match r with|some (_,v)=>v|none=>(.agg #[.string ⟨#[]⟩,zi 0]:Zv))=fileAt n es
 |[],i,_=>⟨bN,rfl,rfl⟩
 |e::es,i,h=>by
  obtain⟨k,f,s,hk,j⟩:=h e (by simp);obtain⟨r,b,c⟩:=Mh es (i+1) fun e g=>h e (by simp[g]);by_cases a:n=k;exact⟨bO (i,e.val),by simp[Instr.findNow,Instr.sameNow,hk,a],by simp[fileAt,hk,a]⟩;have d:(n==k)=bK:=by simpa using a
  exact⟨r,by simp only[Instr.findNow,Instr.sameNow,hk,if_true,d];exact b,by simpa[fileAt,hk,a]using c⟩
section
variable {P:aV} {w:World} {t kt et:TypeId} {M clock:Nat} {es:Array aK} {n:Int}
def JE(hk:P.underlying kt=bO (.int .i64))(m:Nat):∀w em,(Instr.checkKey em (m+1) kt<|zi n).run P w= .ok () w:=fun w em=>by simp[Instr.checkKey,xm hk,aY]
def ztz(hk:P.underlying kt=bO (.int .i64))(m:Nat):∀w em z,(Instr.checkKey em (m+1) kt<|zi n).events P w z=z:=fun w em z=>by simp[Instr.checkKey,xm hk,Xr]
def zxl(m:P.underlying t=bO (.map kt et))(hk:P.underlying kt=bO (.int .i64))(o:∀w,(zeroValue et).run P w= .ok (.agg #[.string ⟨#[]⟩,zi 0]) w)
  (h:w.heap[M]?=bO (.map es clock))(b:∀e∈es.toList,eZ e):
  (Instr.lookup t (.map<|bO M) (zi n) bK).run P w= .ok (fileAt n es.toList) w/\(Instr.lookup t (.map<|bO M) (zi n) bK).events P w #[]=#[⟨.obj M,bK,bK⟩]:=by
 obtain⟨r,f,g⟩:=Mh (n:=n) es.toList 0 b;have l:(getObj M).run P w= .ok (.map es clock) w:=by simp[getObj,Sem.run,h]
 have d:∀z,(getObj M).events P w z=z.push ⟨.obj M,bK,bK⟩:=fun z=>by simp[getObj,Sem.events,Sem.runT,h,Obj.isChan,-Sem.runT_eq]
 have i:=JE (n:=n) hk 9999;have a:=ztz (n:=n) hk 9999;have k:(aT kt (zi n) es.toList).run P w= .ok r w:=by simp[aT,xm hk,aY,f]
 have c:∀z,(aT kt (zi n) es.toList).events P w z=z:=fun z=>by simp[aT,xm hk,Xr,f]
 constructor;simp only[Instr.lookup,Sem.run_bind,xm m,aY,l,i,k,DT];cases r with
 |none=>simp only[Sem.run_bind,o,aY,DT];rw[<-g];rfl
 |some x=>obtain⟨j,v⟩:=x;simp only[DT];rw[<-g];rfl
 simp only[Instr.lookup,Xr,Sem.run_bind,xm m,aY,l,d,i,a,k,c,DT,Result.evThen_ok,events_underlying];cases r with
 |none=>simp[Xr,o]
 |some x=>obtain⟨j,v⟩:=x;simp[Xr]
end
end
end
section
open Go.RowKit Go.Conc.Lib Go.ConcR.Gen Go.ConcN.Gen
open Go.ConcR (Payload)
variable [pn:Pn] [py:Go.ConcR.Payload]
section
variable {w:Zy} {ops:Array aD} {fr tt:Int}
structure Kn(D M Bd Bs C:Nat)(es:Array aK)(S:ZP)(o:Nat->Obj):Prop where
 sd:S D
 sb:S Bd
 ss:S Bs
 disk:∃rm nx,o D= .cells #[rm,.map<|bO M,nx] py.ety
 box:o Bd= .cells #[zo D] 89
 nW:o Bs= .cells #[.chan<|bO C] 278
 files:∃clock,o M= .map es clock
 V_:∀e∈es.toList,eZ e
section
variable {D M Bd Bs C Wg:Nat} {es:Array aK} {S:Nat->Prop} {o:Nat->Obj} {Stop:aS->World->Prop} {m:Nat}
def Kn.xX(K:Kn D M Bd Bs C es S o)(hk:Kc S M o w):w.cell? (zq D 1)=bO (.map<|bO M):=by
 obtain⟨b,a,h⟩:=K.disk;have:=hk D<|.inl K.sd;simp[aQ,this,h]
def Kn.tZ(K:Kn D M Bd Bs C es S o)(hk:Kc S M o w):w.cell? (zq Bd 0)=bO (zo D):=by
 have:=hk Bd<|.inl K.sb;simp[aQ,this,K.box]
def Kn.oL(K:Kn D M Bd Bs C es S o)(hk:Kc S M o w):w.cell? (zq Bs 0)=bO (.chan<|bO C):=by
 have:=hk Bs<|.inl K.ss;simp[aQ,this,K.nW]
def Kn.look(K:Kn D M Bd Bs C es S o)(hk:Kc S M o w)(n:Int):
  (Instr.lookup 134 (.map<|bO M) (zi n) bK).run bM w= .ok (fileAt n es.toList) w/\(Instr.lookup 134 (.map<|bO M) (zi n) bK).events bM w #[]=#[⟨.obj M,bK,bK⟩]:=by
 obtain⟨a,h⟩:=K.files;exact zxl Tryz.underlying134 Tryz.underlying3 Tryz.zeroValue139 ((hk M<|.inr rfl).trans<|by rw[h]) K.V_
noncomputable def R8:Code:=Tryz.f76.body.getD .skip
noncomputable def EL:Code:=Tryz.f213.body.getD .skip
noncomputable def EK:Code:=Tryz.f211.body.getD .skip
def zzt(K:Kn D M Bd Bs C es S o)(n:Int){d:Zf}{c:Act}{i:Nat}{rest:List Nat}{k:List Item}{cs:List Zf}
  (j:Cg bM S M o Stop m (G (d.at (c.put ((ops[i]?).bind (·.dst))<|.string<|cB n es.toList) (.inRegion ops rest::k)) cs)):
  Cg bM S M o Stop (m+17) (G ((base 76).at ⟨#[zo D,zi n,bJ,bJ,bJ,bJ,bJ,bJ,bJ,bJ,bJ,bJ],[]⟩ [.code R8]) (d.at c (.inRegion ops (i::rest)::k)::cs)):=by
 obtain⟨f,h⟩:=Mg (n:=n) K.V_;simp only[R8,Tryz.f76,jv];refine Cg.ctl rfl (fun _=>aO) ?_;refine Cg.ctl rfl (fun _=>stepG_region) ?_
 (refine Cg.pure _ rfl rfl (by k_ne) (fun _=>by go_simp<;>rfl) (fun _=>by simp[go_sem, *]) ?_;walk_nrm)
 refine Cg.ctl rfl (fun _=>bB) ?_;refine Cg.ctl rfl (fun _=>aO) ?_;refine Cg.ctl rfl (fun _=>stepG_region) ?_
 iterate 3 (refine Cg.pure _ rfl rfl (by k_ne) (fun _=>by go_simp<;>rfl) (fun _=>by simp[go_sem, *]) ?_;walk_nrm)
 refine Cg.value (.map<|bO M) rfl rfl (by k_ne) (fun w hk=>by have g:=K.xX hk;go_simp) (fun w hk e a=>by have g:=K.xX hk;simp[go_sem, *]at a;subst a;exact t_<|.inl K.sd) ?_
 walk_nrm
 (refine Cg.pure _ rfl rfl (by k_ne) (fun _=>by go_simp<;>rfl) (fun _=>by simp[go_sem, *]) ?_;walk_nrm)
 refine Cg.value (fileAt n es.toList) rfl rfl (by k_ne) (fun w hk=>by have b:=(K.look hk n).1;simp[bG,Act.eval,b]) (fun w hk e a=>by have b:=(K.look hk n).2;simp[bG,Act.eval,b,Xr]at a;subst a;exact xml<|.inr rfl) ?_
 walk_nrm
 rw[h]
 (refine Cg.pure _ rfl rfl (by k_ne) (fun _=>by go_simp<;>rfl) (fun _=>by simp[go_sem,Instr.field,part,asAgg,Xr, *]) ?_;walk_nrm)
 (refine Cg.pure _ rfl rfl (by k_ne) (fun _=>by go_simp<;>rfl) (fun _=>by simp[go_sem, *]) ?_;walk_nrm)
 refine Cg.ctl rfl (fun _=>bB) ?_;refine Cg.ctl rfl (fun _=>stepG_ret') ?_;refine Cg.leave1 rfl rfl Tryz.func76 rfl ?_;exact j
def TQ(ty:Zt)(Wg C:Nat)(S:ZP)(D M:Nat)(o:Nat->Obj):Ze->Zg->Zy->Prop
 |[]=>MB bM ty Wg C S D M o
 |v::vs=>BV bM C S M o v<|xD bM ty Wg C S D M o vs
def cS{ty:Zt}{a:Ze}{g:Zg}(h:Cg bM S M o (TQ ty Wg C S D M o a) m g)(hk:Kc S M o w):xD bM ty Wg C S D M o a g w:=by
 cases a<;>exact⟨m,h w hk⟩
noncomputable def CK:=Ql<|Qk<|Qb<|Qa EL
noncomputable def GL:=Qb EL
noncomputable def VJ:Array aD:=match EK with| .seq _ (.region _ ops _)=>ops|_=>#[]
noncomputable def uX:Zf:={(default:Zf)with fn:=Tryz.prog.funcs.size,defers:=[],mode:= .panicking [goexitEntry]}
noncomputable def GM(D Bd Bs C Wg:Nat)(fr tt:Int):Zf:=(baseD 211).at ⟨#[zi fr,zi tt,zo Wg,zo Bs,zo Bd,bJ,bJ,.chan<|bO C,zo D,zi fr,zi tt,bJ],[dcall 212 #[zo Wg]]⟩ [.inRegion VJ [4]]
def dY(es:Array aK):Int->Nat->Ze
 |_,0=>[]
 |n,k+1=> .agg #[zi n,.string<|cB n es.toList]::dY es (n+1) k
def Du(D Bd Bs C Wg:Nat)(fr tt n:Int)(g:Zg):Prop:=
 ∃v2 v4 v5 v6 v7 v9 v10 v11 v12 v13 v14 v15 v16 v17 v18 v19 v20 v21:Zv,g=G ((base 213).at ⟨#[.chan<|bO C,zo D,v2,zi tt,v4,v5,v6,v7,zi n,v9,v10,v11,v12,v13,v14,v15,v16,v17,v18,v19,v20,v21],[]⟩ [.code CK,.inLoop CK,.inBlock 0,.code GL]) [GM D Bd Bs C Wg fr tt,uX]
def Rz(T:Za):QuitsD bM 2 0<|G {(baseD 211).at ⟨T,[]⟩ []with mode:= .returning} [uX]:=by
 refine QuitsD.ctl (g':=G uX []) rfl (fun w=>?_) ?_;simp[G,aZ,aI,doReturn,aN,Frame.at,baseD,uX,Tryz.func211,Tryz.f211,seen,bA,goexitEntry];refine QuitsD.ctl (g':={G uX []with status:= .finished}) rfl (fun w=>?_) ⟨rfl,rfl⟩;simp[G,aZ,aI,uX,goexitEntry,Frame.catches];rfl
def P0(K:Kn D M Bd Bs C es S o){T:Za}:Cg bM S M o (WJ bM 286 Wg D) 6<|G ((base 213).at ⟨T,[]⟩ [.inRegion ops []]) [GM D Bd Bs C Wg fr tt,uX]:=by
 simp only[GM,VJ,EK,Tryz.f211,jv];refine Cg.ctl rfl (fun _=>bB) ?_;refine Cg.ctl rfl (fun _=>stepG_end) ?_;refine Cg.leave0 rfl rfl Tryz.func213 rfl ?_
 walk_nrm
 refine Cg.ctl rfl (fun _=>bB) ?_;refine Cg.ctl rfl (fun _=>stepG_end) ?_;refine Cg.ctl rfl (fun _=>stepG_unwind_enter rfl Tryz.func212 (nm_done ED) rfl) ?_;refine Cg.stop fun w hk=>⟨rfl,fun a=>?_⟩;obtain⟨c,d,b⟩:=K.disk;have hd:=hk D<|.inl K.sd;rw[b]at hd;refine⟨c,.map<|bO M,23,23,?_,?_⟩;exact Go.ConcN.Gen.doneN OM (k:=1) rfl (Rz _) w ⟨a,by simp[Go.ConcN.Has,aQ,hd]⟩;exact Go.ConcN.Gen.doneN OM (k:=2) rfl (Rz _) w ⟨a,by simp[Go.ConcN.Has,aQ,hd]⟩
def xna:(Tryz.prog.funcs[(base 213).fn]?).any (·.norace)=bK:=by kernel_rfl
def zzz(K:Kn D M Bd Bs C es S o){fr tt n:Int}(B:tt<n){g:Zg}(e:Du D Bd Bs C Wg fr tt n g):Cg bM S M o (TQ 286 Wg C S D M o []) 14 g:=by
 obtain⟨E,F,G,H,I,J,h,i,j,k,l,m,p,q,t,v,x,y,rfl⟩:=e;simp only[CK,GL,EL,Tryz.f213,jv];have f:¬(n<=tt):=by omega
 refine Cg.ctl rfl (fun _=>aO) ?_;refine Cg.ctl rfl (fun _=>aO) ?_;refine Cg.ctl rfl (fun _=>stepG_region) ?_
 iterate 3 (refine Cg.pure _ rfl rfl (by k_ne) (fun _=>by go_simp<;>rfl) (fun _=>by simp[go_sem, *]) ?_;walk_nrm)
 refine Cg.ctl rfl (fun _=>bB) ?_
 (refine Cg.ctl rfl (fun _=>stepG_cond rfl) ?_;simp only[xu,if_false,↓reduceIte])
 refine Cg.exit rfl ?_;refine Cg.ctl rfl (fun _=>stepG_region) ?_
 (refine Cg.pure _ rfl rfl (by k_ne) (fun _=>by go_simp<;>rfl) (fun _=>by simp[go_sem, *]) ?_;walk_nrm)
 refine Cg.stop fun w hk=>?_;refine⟨rfl,rfl,fun c b s r d=>⟨_,stepG_close rfl rfl (by k_ne) rfl rfl d xna,rfl,fun z a=>⟨6,?_⟩⟩⟩;exact P0 K z a
def Qe(n:Int)(s:ByteArray)(w:Zy):(Instr.build 289 #[(0,zi n),(1,.string s)]).run bM w= .ok (.agg #[zi n,.string s]) w:=run_build w 289 _ _<|by kernel_rfl
def ztx(n:Int)(s:ByteArray)(w:Zy):(Instr.build 289 #[(0,zi n),(1,.string s)]).events bM w #[]=#[]:=by kernel_rfl
def SZ{b:Zf}{a:Act}{k:List Item}{cs:List Zf}{i:Nat}{rest:List Nat}{op:aD}{x y:Operand}{v:Zv}{c:Zg->Zy->Prop}(ho:ops[i]?=bO op)(hw:aX op (yielded ops a.tmps)=bL)(hk:b.kind≠ .early)(hop:op.op= .send x y)
  (hx:a.eval x= .chan (bO C))(hy:a.eval y=v)(next:∀w',Kc S M o w'->c (G (b.at (a.put op.dst bJ) (.inRegion ops rest::k)) cs) w')(w:Zy):
  BV bM C S M o v c (G (b.at a (.inRegion ops (i::rest)::k)) cs) w:=by
 refine⟨rfl,G (b.at a (.inRegion ops (i::rest)::k)) cs,.tuple #[],#[],?_,by simp,?_⟩;rw[stepG_comm (cases:=#[scase C v<|.tuple #[]]) (blocking:=bL) (shape:= .send) (w':=w) ho hw hk<|by simp[bG,hop,hx,hy,scase]];have d:(bG a.eval op).events bM w #[]=#[]:=by
  unfold bG;simp only[hop];rfl
 unfold listed;rw[d];simp[seen];have e:Conc.served (G (b.at a (.inRegion ops (i::rest)::k)) cs) bJ=G (b.at (a.put op.dst bJ) (.inRegion ops rest::k)) cs:=by
  rw[served_G];simp[ho]
 rw[e];exact next
def rK(K:Kn D M Bd Bs C es S o)(T:tt<9223372036854775807)(Q:-9223372036854775808<=fr):∀(k:Nat) (n:Int),n+k=tt+1->fr<=n->∃m,∀g,Du D Bd Bs C Wg fr tt n g->Cg bM S M o (TQ 286 Wg C S D M o<|dY es n k) m g:=by
 intro k;induction k with
 |zero=>exact fun n R _=>⟨14,fun g N=>zzz K (by omega) N⟩
 |succ k ih=>
  intro n R L;obtain⟨m,J⟩:=ih (n+1) (by omega) (by omega);refine⟨40,?_⟩;rintro g ⟨s,t,v,x,y,z,a,b,d,e,f,h,i,j,l,p,q,r,rfl⟩;have O:n<=tt:=by omega
  have I:IntKind.i64.wrap (n+1)=n+1:=by rw[xn];omega
  have H:∀s t v x y z a b d e f h i j l p q r:Zv,Cg bM S M o (TQ 286 Wg C S D M o<|dY es (n+1) k) m<|G ((base 213).at ⟨#[.chan<|bO C,zo D,s,zi tt,t,v,x,y,zi<|n+1,z,a,b,d,e,f,h,i,j,l,p,q,r],[]⟩ [.code CK,.inLoop CK,.inBlock 0,.code GL]) [GM D Bd Bs C Wg fr tt,uX]:=
   fun s t v x y z a b d e f h i j l p q r=>J _ ⟨s,t,v,x,y,z,a,b,d,e,f,h,i,j,l,p,q,r,rfl⟩
  clear J ih;simp only[CK,GL,EL,Tryz.f213,jv]at H⊢;refine Cg.ctl rfl (fun _=>aO) ?_;refine Cg.ctl rfl (fun _=>aO) ?_;refine Cg.ctl rfl (fun _=>stepG_region) ?_
  iterate 3 (refine Cg.pure _ rfl rfl (by k_ne) (fun _=>by go_simp<;>rfl) (fun _=>by simp[go_sem, *]) ?_;walk_nrm)
  refine Cg.ctl rfl (fun _=>bB) ?_
  (refine Cg.ctl rfl (fun _=>stepG_cond rfl) ?_;simp only[if_true])
  refine Cg.ctl rfl (fun _=>stepG_skip) ?_;refine Cg.ctl rfl (fun _=>aO) ?_;refine Cg.ctl rfl (fun _=>stepG_block) ?_;refine Cg.ctl rfl (fun _=>stepG_region) ?_
  iterate 4 (refine Cg.pure _ rfl rfl (by k_ne) (fun _=>by go_simp<;>rfl) (fun _=>by simp[go_sem, *]) ?_;walk_nrm)
  refine Cg.call (c:=R8) rfl rfl (by k_ne) rfl Tryz.func76 (by kernel_rfl) rfl ?_
  walk_nrmf Tryz.f76
  refine zzt K n ?_
  walk_nrm
  refine Cg.pure (.agg #[zi n,.string<|cB n es.toList]) rfl rfl (by k_ne) (fun w=>by have E:=Qe n (cB n es.toList) w;simp[bG,Act.eval,E]) (fun w=>by have E:=Qe n (cB n es.toList) w;have F:=ztx n (cB n es.toList) w;simp[bG,Act.eval,E,F,Xr]) ?_
  walk_nrm
  refine Cg.stop fun w hk=>?_;change BV bM C S M o (.agg #[zi n,.string<|cB n es.toList]) (xD bM 286 Wg C S D M o<|dY es (n+1) k) _ w;apply SZ
  case ho=>exact rfl
  case hw=>exact rfl
  case hk=>k_ne
  case hop=>exact rfl
  case hx=>exact rfl
  case hy=>exact rfl
  intro U B;refine cS (m:=m+8) ?_ B
  walk_nrm
  refine Cg.ctl rfl (fun _=>bB) ?_;refine Cg.ctl rfl (fun _=>stepG_inBlock) ?_;refine Cg.ctl rfl (fun _=>stepG_region) ?_
  iterate 3 (refine Cg.pure _ rfl rfl (by k_ne) (fun _=>by go_simp<;>rfl) (fun _=>by simp[go_sem, *]) ?_;walk_nrm)
  refine Cg.ctl rfl (fun _=>bB) ?_;refine Cg.ctl rfl (fun _=>stepG_inLoop) ?_;exact H _ _ _ _ _ _ _ _ _ _ _ _ _ _ _ _ _ _
def call211(Bd Bs Wg:Nat)(fr tt:Int):Deferred:={target:= .fn (.func 211) #[zo Wg,zo Bs,zo Bd],args:=#[zi fr,zi tt]}
def JT(Bd Bs Wg:Nat)(fr tt:Int)(w:Zy):aZ bM bK (born bM<|call211 Bd Bs Wg fr tt) w=
  .go (G ((baseD 211).at ⟨#[zi fr,zi tt,zo Wg,zo Bs,zo Bd,bJ,bJ,bJ,bJ,bJ,bJ,bJ],[]⟩ [.code EK]) [uX]) w #[]:=by
 simp[born,call211,aZ,aI,callDeferred,invoke,callFunc,Tryz.func211,Tryz.f211,seen,bA,G,bF,Frame.at,baseD,uX,EK]
def zwm(K:Kn D M Bd Bs C es S o)(g:tt<9223372036854775807)(f:-9223372036854775808<=fr)(k:Nat)(i:fr+k=tt+1)(hk:Kc S M o w):
  xD bM 286 Wg C S D M o (dY es fr k) (born bM<|call211 Bd Bs Wg fr tt) w:=by
 obtain⟨m,h⟩:=rK (Wg:=Wg) K g f k fr i<|Int.le_refl _;refine cS (m:=m+19) ?_ hk;refine Cg.ctl rfl (fun w=>JT Bd Bs Wg fr tt w) ?_;simp only[EK,Tryz.f211,jv];refine Cg.ctl rfl (fun _=>aO) ?_;refine Cg.ctl rfl (fun _=>stepG_region) ?_;refine Cg.ctl rfl (fun _=>stepG_defer rfl rfl (by k_ne) rfl) ?_
 walk_nrm
 refine Cg.ctl rfl (fun _=>bB) ?_;refine Cg.ctl rfl (fun _=>stepG_region) ?_;refine Cg.value (.chan<|bO C) rfl rfl (by k_ne) (fun w hk=>by have d:=K.oL hk;go_simp) (fun w hk e a=>by have d:=K.oL hk;simp[go_sem, *]at a;subst a;exact t_<|.inl K.ss) ?_
 walk_nrm
 refine Cg.value (zo D) rfl rfl (by k_ne) (fun w hk=>by have d:=K.tZ hk;go_simp) (fun w hk e a=>by have d:=K.tZ hk;simp[go_sem, *]at a;subst a;exact t_<|.inl K.sb) ?_
 walk_nrm
 iterate 2 (refine Cg.pure _ rfl rfl (by k_ne) (fun _=>by go_simp<;>rfl) (fun _=>by simp[go_sem, *]) ?_;walk_nrm)
 refine Cg.call (c:=EL) rfl rfl (by k_ne) rfl Tryz.func213 (by kernel_rfl) rfl ?_
 walk_nrmf Tryz.f213
 have b:=h _ ⟨zi fr,bJ,bJ,bJ,bJ,zi fr,bJ,bJ,bJ,bJ,bJ,bJ,bJ,bJ,bJ,bJ,bJ,bJ,rfl⟩;clear h;simp only[CK,GL,EL,Tryz.f213,GM,VJ,EK,Tryz.f211,jv]at b⊢;refine Cg.ctl rfl (fun _=>aO) ?_;refine Cg.ctl rfl (fun _=>aO) ?_;refine Cg.ctl rfl (fun _=>stepG_region) ?_
 iterate 2 (refine Cg.pure _ rfl rfl (by k_ne) (fun _=>by go_simp<;>rfl) (fun _=>by simp[go_sem, *]) ?_;walk_nrm)
 refine Cg.ctl rfl (fun _=>bB) ?_;refine Cg.ctl rfl (fun _=>stepG_block) ?_;refine Cg.ctl rfl (fun _=>stepG_loop) ?_;exact b
end
end
end
section
open Go.ConcN (sumTo upd sumTo_upd upd_ne upd_same)
variable [pn:Pn]
section
variable {P:aV} {X:Nat->Prop} {B B':Nat} {Z:Touch->Prop} {t u:Trace} {e:Nat}
structure We(X:ZP)(B:Nat)(Z:Touch->Prop)(e:Nat)(t:Trace):Prop where
 clean:∀said,¬Race said t
 known:∀i a,touchAt t i=bO a->a.loc.isMemory=bL->Knows t 0 i\/(oI X a.loc/\a.kind= .atomic)\/(rZ X a.loc/\a.write=bK)
 over:t.HandedOver
 deaf:Deaf t 0=e
 seen:∀i a,touchAt t i=bO a->a.loc.low B
 EE:∀i a,touchAt t i=bO a->Z a
def qD.mL(h:qD X B t)(b:∀a:Touch,a.loc.low B->Z a):We X B Z 0 t:=⟨h.clean,h.known,h.over,h.hears,h.seen,fun i a c=>b a<|h.seen i a c⟩
def We.mono(h:We X B Z e t)(b:B<=B'):We X B' Z e t:=⟨h.clean,h.known,h.over,h.deaf,fun i a c=>Loc.low_mono b<|h.seen i a c,h.EE⟩
def UK(X:ZP)(B:Nat)(Z:Touch->Prop)(e:Event):Prop:=∀x,(aU e).touch?=bO x->(oI X x.loc->x.kind≠ .plain)/\(rZ X x.loc->x.write=bK)/\x.loc.low B/\Z x
def We.own(h:We X B Z e t){fn:FuncId}{pos:String}{es:Array Event}(r:∀e∈es,UK X B Z e):We X B Z (deafBehind e es)<|t++bD 0 fn pos es:=by
 have s:∀d∈bD 0 fn pos es,d.g=0:=fun d c=>by obtain⟨e,_,rfl⟩:=zy c;rfl
 have q:∀d∈bD 0 fn pos es,∀x,d.act.touch?=bO x->(oI X x.loc->x.kind≠ .plain)/\(rZ X x.loc->x.write=bK)/\x.loc.low B/\Z x:=fun d c x p=>by
  obtain⟨e,w,rfl⟩:=zy c;exact r e w x p
 refine⟨fun said=>noRace_append (h.clean said) s fun i a k d c b v o=>?_,fun i a k y=>?_,handedOver_app h.over fun d c=> .inl (s d c),?_,fun i a k=>?_,fun i a k=>?_⟩;rcases h.known i a k o.2.1 with hk|⟨m,j⟩|⟨m,j⟩
 exact hk;have l:=(q d c b v).1<|o.1▸m;rcases o.c with x|x|⟨_,x,_⟩
 rw[j]at x;cases x;exact absurd x l;rw[j]at x;cases x;have l:=(q d c b v).2.1<|o.1▸m;rcases o.2.2.1 with x|x
 rw[j]at x;cases x;rw[l]at x;cases x;rcases Zo k with⟨_,f⟩|⟨_,d,c,p,_⟩
 exact(h.known i a f y).imp (·.app _) id;have:=knows_own p;rw[s d c]at this;exact .inl this;rw[Deaf_own,h.deaf];rcases Zo k with⟨_,f⟩|⟨_,d,c,p,n⟩
 exact h.seen i a f;exact(q d c a n).2.2.1;rcases Zo k with⟨_,f⟩|⟨_,d,c,p,n⟩
 exact h.EE i a f;exact(q d c a n).c
def We.mute(h:We X B Z e t){g:Nat}(r:g≠0){fn:FuncId}{pos:String}{es:Array Event}(m:∀e∈es,e.mute=bL):We X B Z e<|t++bD g fn pos es:=by
 have o:∀f∈bD g fn pos es,f.g=g:=fun f c=>by obtain⟨e,_,rfl⟩:=zy c;rfl
 have l:∀f∈bD g fn pos es,f.act.touch?=bN:=fun f c=>by obtain⟨e,q,rfl⟩:=zy c;exact touch_mute<|m e q
 refine⟨fun said=>noRace_append (h.clean said) o fun i a _ f c b n _=>(by rw[l f c]at n;cases n),fun i a k m=>?_,handedOver_app h.over fun f c=> .inr (l f c),(aG t r _ o).trans h.deaf,fun i a k=>?_,fun i a k=>?_⟩;rcases Zo k with⟨_,j⟩|⟨_,f,c,p,d⟩
 exact(h.known i a j m).imp (·.app _) id;rw[l f c]at d;cases d;rcases Zo k with⟨_,j⟩|⟨_,f,c,p,d⟩
 exact h.seen i a j;rw[l f c]at d;cases d;rcases Zo k with⟨_,j⟩|⟨_,f,c,p,d⟩
 exact h.EE i a j;rw[l f c]at d;cases d
def Bo{g:Zg}{Nx:Zg->Zy->Prop}{e':Nat}(m:g.status= .running){q:Nat->Nat}{gs:Array Zg}{v:Zy}{sl:Option<|Nat×Nat}(I:gs[0]?=bO g)(D:Leavers P t gs q)(U:We X B Z e t)
  (h:∀d,∃g' v' es,aZ P bL g (v.at d)= .go g' v' es/\(∀e∈es,UK X B Z e)/\deafBehind e es=e'/\Nx g' v'):
  ∃N gs' v' sl' t' q' g',runNT P N (crowd gs v sl) t=(.next<|crowd gs' v' sl',t')/\gs'[0]?=bO g'/\Nx g' v'/\Leavers P t' gs' q'/\We X B Z e' t'/\gs'.size=gs.size:=by
 induction hk:sumTo gs.size q using Nat.strongRecOn generalizing gs q v sl t with
 |_ k ih=>
  have K:∀g∈gs,awake g:=by
   intro f c;obtain⟨i,n,rfl⟩:=Z1.1 c;rcases jl i with rfl|l
   have:gs[0]=g:=by simpa[xg n]using I
   rw[this];exact awake_of<|.inl m;exact awake_of<|(D.old i _ l<|xg n).status.elim .inl fun x=> .inr (.inr x)
  obtain⟨i,f,d,sl',n,c,F⟩:=crowd_pick (P:=P) (w:=v) (sl:=sl) K ⟨0,g,I,m⟩;have r:i<gs.size:=(za.1 n).1;rcases jl i with rfl|l
  obtain rfl:f=g:=by rw[I]at n;exact(jf n).symm
  obtain⟨g',v',es,hs,M,L,hn⟩:=h d;have b:=runT_crowd_go (sl:=sl') n (show aZ P _ f _=_ from hs);refine⟨1,(gs.map<|woken P f g' v').setIfInBounds 0 g',v',sl',t++bD 0 f.frame.fn f.frame.place es,q,g',by simp only[runNT,F,b],by simp[r],hn,⟨fun j x o C=>?_,fun j o=>?_⟩,?_,by simp⟩;have s:0≠j:=by omega
  rw[zd s,jj]at C;obtain⟨y,R,rfl⟩:=zt.1 C;have z:=D.old j y o R;rw[woken_quitsD z,aG t (by omega) _ fun S a=>by obtain⟨e,_,rfl⟩:=zy a;rfl];exact z;rw[aG t (g':=0) (by simp at o;omega) _ fun S a=>by obtain⟨e,_,rfl⟩:=zy a;rfl];exact D.above j (by simpa using o);rw[<-L];exact U.own M;have z:=D.old i f l n;have O:(i==0)=bK:=by simp;omega
  cases hqi:q i with
  |zero=>rw[hqi]at z;rw[z.1]at c;cases c
  |succ k'=>
   rw[hqi]at z;rcases z with⟨hf,_⟩|⟨_,g',es,hm,G,Q⟩
   rw[hf]at c;cases c;have b:=runT_crowd_go (sl:=sl') n (by rw[O];exact G<|v.at d);have H:((gs.map<|woken P f g'<|v.at d).setIfInBounds i g').size=gs.size:=by simp
   have V:sumTo gs.size (upd q i k')+(k'+1)=sumTo gs.size q+k':=by
    have:=sumTo_upd q k' id r;simpa[hqi]using this
   obtain⟨N,J,v2,T,t2,q2,g2,W,Y,b3,b4,b5,b6⟩:=ih (sumTo gs.size<|upd q i k') (by omega) (q:=upd q i k') (t:=t++bD i f.frame.fn f.frame.place es) (gs:=(gs.map<|woken P f g'<|v.at d).setIfInBounds i g') (v:=v.at d) (sl:=sl')
    (by
     have s:i≠0:=by omega
     rw[zd s,jj,I];simp[woken_run m])
    ⟨fun j x o C=>by
     by_cases p:i=j;subst p;rw[zx<|by simpa using r]at C;obtain rfl:=jf C;rw[upd_same,Deaf_own];exact Q;rw[zd p,jj]at C;obtain⟨y,R,rfl⟩:=zt.1 C;have E:=D.old j y o R;rw[woken_quitsD E,upd_ne q k'<|aL p,aG t p _ fun S a=>by obtain⟨e,_,rfl⟩:=zy a;rfl];exact E,fun j o=>by
     rw[aG t (g':=i) (by simp at o;omega) _ fun S a=>by obtain⟨e,_,rfl⟩:=zy a;rfl];exact D.above j<|by simpa using o⟩
    (U.mute (by omega) hm) (fun d'=>h d') (by rw[H])
   exact⟨1+N,J,v2,T,t2,q2,g2,ql (by simp only[runNT,F,b]) W,Y,b3,b4,b5,b6.trans H⟩
def RY{E:Event->Prop}(b:∀e,E e->xR X B e/\∀x,(aU e).touch?=bO x->Z x){Stop:Zg->Zy->Prop}:∀(n:Nat) {a:Zg} {v:Zy} {t:Trace} {q:Nat->Nat} {gs:Array Zg} {sl:Option<|Nat×Nat},Goes P bL AtRel (DE E) Stop n a v->gs[0]?=bO a->Leavers P t gs q->We X B Z e t->
  ∃N gs' v' sl' t' q' a',runNT P N (crowd gs v sl) t=(.next<|crowd gs' v' sl',t')/\gs'[0]?=bO a'/\(∀d,Stop a'<|v'.at d)/\Leavers P t' gs' q'/\We X B Z e t'/\gs'.size=gs.size
 |0,a,v,t,q,gs,sl,h,h0,hL,hP=>⟨0,gs,v,sl,t,q,a,rfl,h0,fun d=>h _ ⟨d,rfl⟩,hL,hP,rfl⟩
 |n+1,a,v,t,q,gs,sl,h,h0,hL,hP=>by
  rcases h with h|⟨K,h⟩;exact⟨0,gs,v,sl,t,q,a,rfl,h0,fun d=>h _ ⟨d,rfl⟩,hL,hP,rfl⟩;obtain⟨N,I,T,i,S,R,Q,m,o,p,r,s,w⟩:=Bo (Nx:=fun H v'=>Goes P bL AtRel (DE E) Stop n H v') (e':=e) (sl:=sl) K h0 hL hP (fun d=>by
   have:=h _ ⟨d,rfl⟩;revert this;cases hst:aZ P bL a (v.at d)<;>simp only[GStep.goes]<;>(try exact False.elim)
   rintro⟨hd,J⟩;exact⟨_,_,_,rfl,fun e c x f=>⟨((b e<|hd e c).1.1 x f).1,((b e<|hd e c).1.1 x f).2.1,((b e<|hd e c).1.1 x f).2.2,(b e<|hd e c).2 x f⟩,deafBehind_still (fun e c=>(b e<|hd e c).1.2) _,J⟩)
  obtain⟨k,g,O,j,M,L,l,y,z,C,D,F,G⟩:=RY b n (sl:=i) p o r s;exact⟨N+k,g,O,j,M,L,l,ql m y,z,C,D,F,G.trans w⟩
end
end
section
open Go.ConcN (sumTo)
variable [pn:Pn]
section
variable {sl:Option<|Nat×Nat}
section
variable {P:aV} {X:Nat->Prop} {B:Nat} {Z:Touch->Prop} {t:Trace} {e:Nat}
def s_{a:Event}(h:(aU a).touch?=bN):UK X B Z a:=fun x b=>by rw[h]at b;cases b
def Ci{m:Mark}(j:(aU<|Go.ConcX.mk m).touch?=bN){b:Zg->Zy->Prop}{a:Zg}{v:Zy}{q:Nat->Nat}{gs:Array Zg}(h:∀d,Go.ConcX.AtMkS P m b a<|v.at d)(f:gs[0]?=bO a)(g:Leavers P t gs q)(i:We X B Z e t):
  ∃N gs' v' sl' t' q' a',runNT P N (crowd gs v sl) t=(.next<|crowd gs' v' sl',t')/\gs'[0]?=bO a'/\b a' v'/\Leavers P t' gs' q'/\We X B Z (deafBehind e #[Go.ConcX.mk m]) t'/\gs'.size=gs.size:=
 Bo (h 0).1 f g i fun d=>by
  obtain⟨_,a',l,k⟩:=h d;exact⟨a',_,_,l,fun n c=>by rw[Array.mem_singleton]at c;subst c;exact s_ j,rfl,k⟩
def xpz{E:Event->Prop}(c:∀e,E e->xR X B e/\∀x,(aU e).touch?=bO x->Z x){Stop:Zg->Zy->Prop}{n:Nat}{a:Zg}{v:Zy}{q:Nat->Nat}{gs:Array Zg}
  (h:Goes P bL AtRel (DE E) (Go.ConcX.AtMkS P .disable fun a w=>∃n,Goes P bL AtRel (DE E) (Go.ConcX.AtMkS P .enable fun a w=>∃n,Goes P bL AtRel (DE E) Stop n a w) n a w) n a v)
  (h0:gs[0]?=bO a)(hL:Leavers P t gs q)(hP:We X B Z 0 t):
  ∃N gs' v' sl' t' q' a',runNT P N (crowd gs v sl) t=(.next<|crowd gs' v' sl',t')/\gs'[0]?=bO a'/\(∀d,Stop a'<|v'.at d)/\Leavers P t' gs' q'/\We X B Z 0 t'/\gs'.size=gs.size:=by
 obtain⟨s,Y,v1,f,t1,q1,a1,r1,L,S,l,F,z1⟩:=RY (sl:=sl) c n h h0 hL hP;obtain⟨y,ba,v2,g,t2,q2,a2,r2,M,⟨n2,T⟩,m,G,z2⟩:=Ci (sl:=f) rfl S L l F;obtain⟨z,bb,v3,i,t3,q3,a3,r3,O,U,o,H,z3⟩:=RY (sl:=g) c n2 T M m G;obtain⟨C,bc,v4,j,t4,q4,a4,r4,Q,⟨n4,V⟩,p,I,z4⟩:=Ci (sl:=i) rfl U O o H;obtain⟨D,b,v5,k,t5,q5,K,r5,R,W,r,J,z5⟩:=RY (sl:=j) c n4 V Q p I;refine⟨s+(y+(z+(C+D))),b,v5,k,t5,q5,K,ql r1<|ql r2<|ql r3<|ql r4 r5,R,W,r,?_,by rw[z5,z4,z3,z2,z1]⟩;exact J
@[reducible] def Ie(X:ZP)(B Wg C:Nat)(hW:Wg<B)(hC:C<B)(hX:¬X C):Go.ConcX.Shy Wg C where
 ok a:=∀x,a.touch?=bO x->(oI X x.loc->x.kind≠ .plain)/\(rZ X x.loc->x.write=bK)/\x.loc.low B/\∀r,x.loc≠ .obj r
 atomicWg a wr h x hx:=by
  simp only[aR,zp]at hx;subst hx;exact⟨fun _=>by simp,fun⟨r,e,_⟩=>(by cases e),(by simp only[Loc.low];omega),fun r e=>(by cases e)⟩
 readWg a h x hx:=by
  simp only[aR,zp]at hx;subst hx;exact⟨fun _=>by simp,fun⟨r,e,_⟩=>(by cases e),(by simp only[Loc.low];omega),fun r e=>(by cases e)⟩
 writeWg a h x hx:=by
  simp only[aR,zp]at hx;subst hx;exact⟨fun _=>by simp,fun⟨r,e,_⟩=>(by cases e),(by simp only[Loc.low];omega),fun r e=>(by cases e)⟩
 theirs a wr h x hx:=by
  simp only[aR,zp]at hx;subst hx;refine⟨fun⟨r,e,hr⟩=>?_,fun⟨r,e,_⟩=>(by cases e),(by simp only[Loc.low];omega),fun r e=>(by cases e)⟩;cases e;rw[h]at hr;exact absurd hr hX
 disable x hx:=by cases hx
 enable x hx:=by cases hx
 relMerge x hx:=by cases hx
 acquire x hx:=by cases hx
 go1 x hx:=by cases hx
 start x hx:=by cases hx
 stop _ _:=True
end
section
variable {P:aV} {X:Nat->Prop}
theorem Sm.FW{w v:Zy}(h:Sm P X w v){r:Nat}{a:Obj}(g:v.heap[r]?=bO a)(ho:dL P<|bO a):Sm P (fun x=>X x/\x≠r) {w with heap:=w.heap.setIfInBounds r a} v:=by
 have d:r<w.heap.size:=by rw[<-h.size];exact(za.1 g).1
 refine⟨by simp[h.size],fun x c=>?_,fun x c=>?_,fun x=>?_,h.tape,h.drawn,h.os,h.output,⟨by simp only[Xf];exact h.pin.1,fun x c i=>by
  rw[show({w with heap:=w.heap.setIfInBounds r a}:Zy).heap=w.heap.setIfInBounds r a from rfl,zd<|aL c.2];exact h.pin.2 x c.1 i⟩⟩
 by_cases b:r=x;subst b;rw[show({w with heap:=w.heap.setIfInBounds r a}:Zy).heap=w.heap.setIfInBounds r a from rfl,zx d];exact g;rw[show({w with heap:=w.heap.setIfInBounds r a}:Zy).heap=w.heap.setIfInBounds r a from rfl,zd b];exact h.out x fun f=>c ⟨f,fun e=>b e.symm⟩;rw[show({w with heap:=w.heap.setIfInBounds r a}:Zy).heap=w.heap.setIfInBounds r a from rfl,zd<|aL c.2];exact h.dead x c.1;by_cases b:r=x;subst b;rw[show({w with heap:=w.heap.setIfInBounds r a}:Zy).heap=w.heap.setIfInBounds r a from rfl,zx d];exact ho;rw[show({w with heap:=w.heap.setIfInBounds r a}:Zy).heap=w.heap.setIfInBounds r a from rfl,zd b];exact h.oks x
end
end
end
section
variable [pn:Pn]
section
variable {a:Act} {K:Act→Zy→Prop}
section
variable {P:aV} {main:Bool} {R:World->World->Prop} {D:World->World->Array Event->Prop} {S:World->Prop} {ops:Array aD} {b:Frame} {k:List Item} {cs:List Frame} {Stop:aS->World->Prop} {n last:Nat} {I:Nat->Array Bool->Act->Prop}
def zx9(T:Terms R D)(s:∀x y,S x->R x y->S y)(hk:b.kind≠ .early)(E:∀l a,¬I 0 l a)(z:∀m l a,I (m+1) l a->Region.ready .any ops l≠[])
  (f:∀m l a,I (m+1) l a->∀i∈Region.ready .any ops l,
   (∃o v,ops[i]?=bO o/\aX o (yielded ops a.tmps)=bL/\(∀w,S w->(bG a.eval o).run P w= .ok (.value v) w/\D w w (listed P b.fn a o w))/\I m (l.setIfInBounds i bL) (a.put o.dst v))\/
   (i=last/\Region.ready .any ops (l.setIfInBounds i bL)=[]/\∀w,S w->Goes P main R D Stop n (G (b.at a (.inRegion ops [last]::k)) cs) w)):
  ∀(m t:Nat) (l:Array Bool) (a:Act) (w:Zy),I m l a->S w->Goes P main R D Stop (n+m) (G (b.at a (.inRegion ops (aC .any ops m t l [])::k)) cs) w:=by
 intro m;induction m with
 |zero=>exact fun t l a w p=>absurd p<|E _ _
 |succ m ih=>
  intro t l a w p B;have F:aC .any ops (m+1) t l []=match(Region.ready .any ops l)[t%(Region.ready .any ops l).length]?with
   |some i=>aC .any ops m (t/(Region.ready .any ops l).length) (l.setIfInBounds i bL) [i]
   |none=>[].reverse:=rfl
  rw[F];have j:t%(Region.ready .any ops l).length<(Region.ready .any ops l).length:=Nat.mod_lt _ (by
   cases q:Region.ready .any ops l with
   |nil=>exact absurd q<|z _ _ _ p
   |cons x xs=>simp)
  rw[Yh j];simp only[];rw[linearise_go_acc,XW,Wm];rcases f m l a p _ (Zn j)with⟨o,v,H,J,q,r⟩|⟨e,c,g⟩
  have:n+(m+1)=(n+m)+1:=by omega
  rw[this];refine Goes.step rfl fun C K=>?_;have d:=s _ _ B K;rw[stepG_value H J hk (q C d).1];exact⟨(q C d).2,ih _ _ _ _ r d⟩;rw[e]at c⊢;have h:aC .any ops m (t/(Region.ready .any ops l).length) (l.setIfInBounds last bL) []=[]:=by
   cases m with
   |zero=>rfl
   |succ m=>
    have:aC .any ops (m+1) (t/(Region.ready .any ops l).length) (l.setIfInBounds last bL) []=match(Region.ready .any ops<|l.setIfInBounds last bL)[t/(Region.ready .any ops l).length%(Region.ready .any ops<|l.setIfInBounds last bL).length]?with
     |some i=>aC .any ops m (t/(Region.ready .any ops l).length/(Region.ready .any ops<|l.setIfInBounds last bL).length) ((l.setIfInBounds last bL).setIfInBounds i bL) [i]
     |none=>[].reverse:=rfl
    rw[this,c];rfl
  rw[h];exact(g w B).mono<|by omega
def zu0(T:Terms R D)(hd:LetsDraw D)(f:∀w:Zy,S w->S {w with drawn:=w.drawn+1})(e:Region.departs ops=bK)(d:∀x y,S x->R x y->S y)(hk:b.kind≠ .early)(h:∀l a,¬I 0 l a)(g:∀m l a,I (m+1) l a->Region.ready .any ops l≠[])
  (c:∀m l a,I (m+1) l a->∀i∈Region.ready .any ops l,
   (∃o v,ops[i]?=bO o/\aX o (yielded ops a.tmps)=bL/\(∀w,S w->(bG a.eval o).run P w= .ok (.value v) w/\D w w (listed P b.fn a o w))/\I m (l.setIfInBounds i bL) (a.put o.dst v))\/
   (i=last/\Region.ready .any ops (l.setIfInBounds i bL)=[]/\∀w,S w->Goes P main R D Stop n (G (b.at a (.inRegion ops [last]::k)) cs) w))
  {id:Nat}{w:Zy}(j:I ops.size (aW ops.size bK) a)(p:S w):Goes P main R D Stop (n+ops.size+1) (G (b.at a (.code (.region id ops bL)::k)) cs) w:=by
 refine Goes.step rfl fun s r=>?_;rw[stepG_region_draw];refine⟨hd _,?_⟩;have q:∀t,Region.schedule (P.follows .mixedOrders) ops t=Region.linearise .any ops t:=fun t=>by simp[Region.schedule,e]
 rw[q];exact zx9 T d hk h g c _ _ _ a _ j<|f _<|d _ _ p r
end
section
variable {P:aV} {main:Bool} {R:World->World->Prop} {D:World->World->Array Event->Prop} {ops:Array aD} {b:Frame} {k:List Item} {cs:List Frame} {Stop:aS->World->Prop} {n:Nat} {I:Nat->Array Bool->Act->World->Prop}
def vL(P:Zp)(main:Bool)(D:Zy->Zy->Array Event->Prop)(b:Zf)(k:List Item)(cs:List Zf)(ops:Array aD)(i:Nat)(a:Act)(w:Zy)(K:Act->Zy->Prop):Prop:=
 ∃a' w' es,(∀rest,aZ P main (G (b.at a (.inRegion ops (i::rest)::k)) cs) w= .go (G (b.at a' (.inRegion ops rest::k)) cs) w' es)/\D w w' es/\K a' w'
def vL.value{i:Nat}{o:aD}{w w':Zy}{v:Zv}(hk:b.kind≠ .early)(ho:ops[i]?=bO o)(hw:aX o (yielded ops a.tmps)=bL)(d:(bG a.eval o).run P w= .ok (.value v) w')(hd:D w w'<|listed P b.fn a o w)(h:K (a.put o.dst v) w'):vL P main D b k cs ops i a w K:=
 ⟨_,_,_,fun c=>stepG_value ho hw hk d,hd,h⟩
def vL.none{i:Nat}{o:aD}{w w':Zy}(hk:b.kind≠ .early)(ho:ops[i]?=bO o)(hw:aX o (yielded ops a.tmps)=bL)(d:(bG a.eval o).run P w= .ok .skip w')(hd:D w w'<|listed P b.fn a o w)(h:K (a.put o.dst bJ) w'):vL P main D b k cs ops i a w K:=
 ⟨_,_,_,fun c=>stepG_none ho hw hk d,hd,h⟩
def zwr(o:∀m l a w w₁,I m l a w->R w w₁->I m l a w₁)
  (d:∀m l a w,I m l a w->Region.ready .any ops l=[]->Goes P main R D Stop n (G (b.at a (.inRegion ops []::k)) cs) w)(j:∀l a w,I 0 l a w->Region.ready .any ops l=[])
  (e:∀m l a w,I (m+1) l a w->∀i∈Region.ready .any ops l,vL P main D b k cs ops i a w<|I m<|l.setIfInBounds i bL):
  ∀(m t:Nat) (l:Array Bool) (a:Act) (w:Zy),I m l a w->Goes P main R D Stop (n+m) (G (b.at a (.inRegion ops (aC .any ops m t l [])::k)) cs) w:=by
 intro m;induction m with
 |zero=>exact fun t l a w f=>d _ _ _ _ f<|j _ _ _ f
 |succ m ih=>
  intro t l a w f;have p:aC .any ops (m+1) t l []=match(Region.ready .any ops l)[t%(Region.ready .any ops l).length]?with
   |some i=>aC .any ops m (t/(Region.ready .any ops l).length) (l.setIfInBounds i bL) [i]
   |none=>[].reverse:=rfl
  rw[p];by_cases c:Region.ready .any ops l=[];rw[c];exact(d _ _ _ _ f c).mono (by omega);have g:t%(Region.ready .any ops l).length<(Region.ready .any ops l).length:=Nat.mod_lt _ (by
   cases hr:Region.ready .any ops l with
   |nil=>exact absurd hr c
   |cons x xs=>simp)
  rw[Yh g];simp only[];rw[linearise_go_acc,XW,Wm];have:n+(m+1)=(n+m)+1:=by omega
  rw[this];refine Goes.step rfl fun w₁ r=>?_;obtain⟨s,y,v,q,hd,h⟩:=e m l a w₁ (o _ _ _ _ _ f r) _<|Zn g;rw[q];exact⟨hd,ih _ _ _ _ h⟩
def zt4(hd:LetsDraw D)(d:Region.departs ops=bK)(g:∀m l a w w₁,I m l a w->R w w₁->I m l a w₁)(f:∀m l a (w:Zy),I m l a w->I m l a {w with drawn:=w.drawn+1})
  (e:∀m l a w,I m l a w->Region.ready .any ops l=[]->Goes P main R D Stop n (G (b.at a (.inRegion ops []::k)) cs) w)(h:∀l a w,I 0 l a w->Region.ready .any ops l=[])
  (c:∀m l a w,I (m+1) l a w->∀i∈Region.ready .any ops l,vL P main D b k cs ops i a w<|I m<|l.setIfInBounds i bL)
  {id:Nat}{w:Zy}(j:I ops.size (aW ops.size bK) a w):Goes P main R D Stop (n+ops.size+1) (G (b.at a (.code (.region id ops bL)::k)) cs) w:=by
 refine Goes.step rfl fun w₁ p=>?_;rw[stepG_region_draw];refine⟨hd _,?_⟩;have o:∀t,Region.schedule (P.follows .mixedOrders) ops t=Region.linearise .any ops t:=fun t=>by simp[Region.schedule,d]
 rw[o];exact zwr g e h c _ _ _ a _<|f _ _ _ _<|g _ _ _ _ _ j p
end
end
end
section
open Go.RowKit Go.Conc.Lib
variable [pn:Pn] [py:Go.ConcR.Payload]
section
variable {o:aD} {a:Act} {w:Zy} {cs:List Zf} {Stop:Zg→Zy→Prop}
noncomputable def vF:Code:=Tryz.f136.body.getD .skip
noncomputable def nO:Array aD:=match vF with| .seq _ (.seq _<|.seq _<|.seq _<|.seq _<|.seq (.region _ ops _) _)=>ops|_=>#[]
section
variable {Lb Bd Bs Wg:Nat} {bs ls:Int} {E:Event->Prop}
structure SL(Lb:Nat)(bs ls:Int)(w:Zy):Prop where
 base:w.cell? (zq Lb 11)=bO (zi bs)
 last:w.cell? (zq Lb 12)=bO (zi ls)
abbrev Ox(E:Event->Prop)(a:Act)(o:aD)(v:Zv)(w:Zy):Prop:=(bG a.eval o).run bM w= .ok (.value v) w/\DE E w w (listed bM 136 a o w)
abbrev CZ(ops:Array aD)(i:Nat)(d:Option Tmp)(op:Op):Prop:=(ops[i]?.map fun o=>(o.guard.isNone,o.dst,o.op))=bO (bL,d,op)
def CZ.get{ops:Array aD}{i:Nat}{d:Option Tmp}{op:Op}(h:CZ ops i d op):∃o,ops[i]?=bO o/\o.dst=d/\o.op=op/\∀y,aX o y=bL:=by
 unfold CZ at h;cases e:ops[i]?with
 |none=>rw[e]at h;cases h
 |some o=>
  rw[e]at h;simp only[js,zp,qg,Option.isNone_iff_eq_none]at h;exact⟨o,rfl,h.2.1,h.2.2,fun y=>by simp[aX,h.1]⟩
section
variable {o:aD} {a:Act} {w:World} {v:Value} {n j:Nat}
def OH(hop:o.op= .move (.tmp n))(h:a.eval (.tmp n)=v):Ox E a o v w:=by
 constructor
 ·unfold bG;simp only[hop,h];simp[go_sem]
 intro e c;have b:=mem_listed c;unfold bG at b;simp only[hop,h]at b;simp[go_sem]at b
def OJ(hop:o.op= .nilCheck (.tmp n)){x:Addr}(h:a.eval (.tmp n)= .pointer (bO x)):Ox E a o (.pointer<|bO x) w:=by
 constructor
 ·unfold bG;simp only[hop,h];simp[go_sem]
 intro e c;have b:=mem_listed c;unfold bG at b;simp only[hop,h]at b;simp[go_sem]at b
def OD(d:j=7\/j=8)(hop:o.op= .fieldAddr 147 (.tmp n) j)(h:a.eval (.tmp n)=zo Lb):Ox E a o (zk Lb<|j+4) w:=by
 rcases d with rfl|rfl
 all_goals
  constructor
  ·unfold bG;simp only[hop,h];simp[go_sem]
  intro e c;have b:=mem_listed c;unfold bG at b;simp only[hop,h]at b;simp[go_sem]at b
def OG(d:∀x:Addr,x.block=Lb->E ⟨.cell x,bK,bK⟩){z:Int}(hop:o.op= .load 3 (.tmp n))(h:a.eval (.tmp n)=zk Lb j)(c:w.cell? (zq Lb j)=bO (zi z)):Ox E a o (zi z) w:=by
 constructor
 ·unfold bG;simp only[hop,h];simp[go_sem,c]
 intro e f;have b:=mem_listed f;unfold bG at b;simp only[hop,h]at b;simp[go_sem,c]at b;subst b;exact d _ rfl
def xr1(hw:IntKind.i64.wrap (bs+1)=bs+1)(hop:o.op= .binOp .add 3 (.tmp n) (.const<|zi 1) 3)(h:a.eval (.tmp n)=zi bs):Ox E a o (zi<|bs+1) w:=by
 constructor
 ·unfold bG;simp only[hop,h];simp[go_sem,hw]
 intro e c;have b:=mem_listed c;unfold bG at b;simp only[hop,h]at b;simp[go_sem,hw]at b
def xus(hop:o.op= .makeFunc (.func 211) #[] #[.tmp 5,.tmp 4,.tmp 3]):Ox E a o (.func (.func 211) #[] #[a.eval<|.tmp 5,a.eval<|.tmp 4,a.eval<|.tmp 3]) w:=by
 constructor
 ·unfold bG;simp only[hop];simp[go_sem,Instr.makeFunc]
 intro e c;have b:=mem_listed c;unfold bG at b;simp only[hop]at b;simp[go_sem,Instr.makeFunc,Xr]at b
end
def Ly:Terms AtRel<|DE E:=⟨atRel_trans,fun w e a=>by simp at a⟩
def Bu:LetsDraw<|DE E:=fun w e a=>by simp at a
def SL.at{w w₁:Zy}(h:SL Lb bs ls w)(r:AtRel w w₁):SL Lb bs ls w₁:=by obtain⟨d,rfl⟩:=r;exact⟨h.base,h.last⟩
abbrev l5(r p q:Nat):Array Bool:=#[decide (1<=r),decide (1<=p),decide (2<=p),decide (3<=p),decide (4<=p),decide (5<=p),decide (1<=q),decide (2<=q),decide (3<=q),decide (4<=q),bK]
def Al(r:Nat)(d:r<2)(p:Nat)(b:p<6)(q:Nat)(c:q<5):Region.ready .any nO (l5 r p q)≠[]/\∀i∈Region.ready .any nO (l5 r p q),(i=0/\r=0)\/(i=p+1/\p<5)\/(i=q+6/\q<4)\/(i=10/\r=1/\p=5/\q=4):=by
 have h:∀(r:_root_.Fin 2) (p:_root_.Fin 6) (q:_root_.Fin 5),(!(Region.ready .any nO<|l5 r p q).isEmpty&&(Region.ready .any nO<|l5 r p q).all fun i=>decide ((i=0/\r.val=0)\/(i=p+1/\p.val<5)\/(i=q+6/\q.val<4)\/(i=10/\r.val=1/\p.val=5/\q.val=4)))=bL:=by decide+kernel
 have:=h ⟨r,d⟩ ⟨p,b⟩ ⟨q,c⟩;rw[xl,PY]at this;exact⟨fun e=>(by rw[e]at this;cases this.1),fun i a=>Xj<|this.2 i a⟩
def I5(Lb Bd Bs Wg:Nat)(bs ls:Int)(y1 y2 y6 y7 y8 y9 nY y11 y12 y13 y14 y15 y16 y17 y18 y19 y20 y21 y22 y23 y24 y25 y26 y27 y28 y29 y30 y31 y32 gV y34:Zv)(ds:List Deferred)(m:Nat)(l:Array Bool)(a:Act):Prop:=∃r p q,r<2/\p<6/\q<5/\l=l5 r p q/\m+(r+p+q)=11/\a=⟨#[zo Lb,y1,y2,zo Bd,zo Bs,zo Wg,y6,y7,y8,y9,nY,y11,y12,y13,y14,y15,y16,y17,(if 1<=r then .func (.func 211) #[] #[zo Wg,zo Bs,zo Bd]else y18),(if 1<=p then zo Lb else y19),(if 2<=p then zo Lb else y20),(if 3<=p then zk Lb 11 else y21),(if 4<=p then zi bs else y22),(if 5<=p then zi (bs+1)else y23),(if 1<=q then zo Lb else y24),(if 2<=q then zo Lb else y25),(if 3<=q then zk Lb 12 else y26),(if 4<=q then zi ls else y27),y28,y29,y30,y31,y32,gV,y34],ds⟩
def S5(J:∀x:Addr,x.block=Lb->E ⟨.cell x,bK,bK⟩)(hw:IntKind.i64.wrap (bs+1)=bs+1){k:List Item}{n:Nat}{y1 y2 y6 F H y9 g j t y z B C y17 y18 y19 y20 y21 y22 y23 y24 y25 y26 y27 y28 y29 y30 y31 y32 gV y34:Zv}{D:List Deferred}
(f:∀w',AtRel w w'->Goes bM bL AtRel (DE E) Stop n (G ((base 136).at ⟨#[zo Lb,y1,y2,zo Bd,zo Bs,zo Wg,y6,F,H,y9,g,j,t,y,z,B,C,y17,.func (.func 211) #[] #[zo Wg,zo Bs,zo Bd],zo Lb,zo Lb,zk Lb 11,zi bs,zi<|bs+1,zo Lb,zo Lb,zk Lb 12,zi ls,y28,y29,y30,y31,y32,gV,y34],D⟩ (.inRegion nO [10]::k)) cs) w')(R:SL Lb bs ls w):
  Goes bM bL AtRel (DE E) Stop (n+11+1) (G ((base 136).at ⟨#[zo Lb,y1,y2,zo Bd,zo Bs,zo Wg,y6,F,H,y9,g,j,t,y,z,B,C,y17,y18,y19,y20,y21,y22,y23,y24,y25,y26,y27,y28,y29,y30,y31,y32,gV,y34],D⟩ (.code (.region 5 nO bL)::k)) cs) w:=by
 refine zu0 (S:=fun w'=>SL Lb bs ls w'/\AtRel w w') (I:=I5 Lb Bd Bs Wg bs ls y1 y2 y6 F H y9 g j t y z B C y17 y18 y19 y20 y21 y22 y23 y24 y25 y26 y27 y28 y29 y30 y31 y32 gV y34 D) (last:=10) Ly Bu (fun w h=>⟨h.1.at ⟨_,rfl⟩,atRel_trans _ _ _ h.2 ⟨_,rfl⟩⟩) (by kernel_rfl) (fun _ _ h r=>⟨h.1.at r,atRel_trans _ _ _ h.2 r⟩) (by decide) ?_ ?_ ?_ ?_ ⟨R,atRel_refl _⟩;rintro l a ⟨r,p,q,_,_,_,_,_,_⟩;omega;rintro m l a ⟨r,p,q,b,e,c,rfl,_⟩;exact(Al r b p e q c).1;rintro m l a ⟨r,p,q,b,e,c,rfl,V,rfl⟩ i T;have K:∀{a:Act} (d op) {v} {I:Act->Prop} {S:Zy->Prop},(nO[i]?.map fun o=>(o.guard.isNone,o.dst,o.op))=bO (bL,d,op)->(∀o,o.op=op->∀w,S w->Ox E a o v w)->I (a.put d v)->∃o v,nO[i]?=bO o/\aX o (yielded nO a.tmps)=bL/\(∀w,S w->Ox E a o v w)/\I (a.put o.dst v):=by
  intro a d op v I S h U Q;obtain⟨o,M,rfl,N,O⟩:=CZ.get h;exact⟨o,v,M,O _,U o N,Q⟩
 rcases(Al r b p e q c).2 i T with⟨rfl,rfl⟩|⟨rfl,h⟩|⟨rfl,h⟩|⟨rfl,rfl,rfl,rfl⟩
 exact .inl<|K (bO 18) _ (by kernel_rfl) (fun o h w _=>xus h) ⟨1,p,q,by omega,e,c,rfl,by omega,rfl⟩;obtain rfl|rfl|rfl|rfl|rfl:p=0\/p=1\/p=2\/p=3\/p=4:=by omega
 exact .inl<|K (bO 19) (.move<|.tmp 0) (by kernel_rfl) (fun o h w _=>OH h rfl) ⟨r,1,q,b,by omega,c,rfl,by omega,rfl⟩;exact .inl<|K (bO 20) (.nilCheck<|.tmp 19) (by kernel_rfl) (fun o h w _=>OJ h rfl) ⟨r,2,q,b,by omega,c,rfl,by omega,rfl⟩;exact .inl<|K (bO 21) (.fieldAddr 147 (.tmp 20) 7) (by kernel_rfl) (fun o h w _=>OD (.inl rfl) h rfl) ⟨r,3,q,b,by omega,c,rfl,by omega,rfl⟩;exact .inl<|K (bO 22) (.load 3<|.tmp 21) (by kernel_rfl) (fun o h w s=>OG J h rfl s.1.base) ⟨r,4,q,b,by omega,c,rfl,by omega,rfl⟩;exact .inl<|K (bO 23) (.binOp .add 3 (.tmp 22) _ 3) (by kernel_rfl) (fun o h w _=>xr1 hw h rfl) ⟨r,5,q,b,by omega,c,rfl,by omega,rfl⟩;obtain rfl|rfl|rfl|rfl:q=0\/q=1\/q=2\/q=3:=by omega
 exact .inl<|K (bO 24) (.move<|.tmp 0) (by kernel_rfl) (fun o h w _=>OH h rfl) ⟨r,p,1,b,e,by omega,rfl,by omega,rfl⟩;exact .inl<|K (bO 25) (.nilCheck<|.tmp 24) (by kernel_rfl) (fun o h w _=>OJ h rfl) ⟨r,p,2,b,e,by omega,rfl,by omega,rfl⟩;exact .inl<|K (bO 26) (.fieldAddr 147 (.tmp 25) 8) (by kernel_rfl) (fun o h w _=>OD (.inr rfl) h rfl) ⟨r,p,3,b,e,by omega,rfl,by omega,rfl⟩;exact .inl<|K (bO 27) (.load 3<|.tmp 26) (by kernel_rfl) (fun o h w s=>OG J h rfl s.1.last) ⟨r,p,4,b,e,by omega,rfl,by omega,rfl⟩;exact .inr ⟨rfl,(by kernel_rfl),fun w' L=>f w' L.2⟩;exact⟨0,0,0,by decide,by decide,by decide,rfl,rfl,rfl⟩
end
noncomputable def Va:Array aD:=match vF with| .seq _ (.seq (.region _ ops _) _)=>ops|_=>#[]
section
variable {Lb Bd:Nat} {bs ls:Int} {cp:Nat} {E:Event->Prop}
def El(hw:IntKind.i64.wrap (ls-bs)=(cp:Int))(hop:o.op= .binOp .sub 3 (.tmp 10) (.tmp 14) 3)(h:a.eval (.tmp 10)=zi ls)(c:a.eval (.tmp 14)=zi bs):Ox E a o (zi cp) w:=by
 constructor
 ·unfold bG;simp only[hop,h,c];simp[go_sem,hw]
 intro e d;have b:=mem_listed d;unfold bG at b;simp only[hop,h,c]at b;simp[go_sem,hw]at b
def E3:(((Tryz.prog.info? 289).getD default).bytes:Int)=24:=by kernel_rfl
abbrev mQ(cp:Nat):Obj:= .chan cp #[] bK 0 0 bK
abbrev lQ(v:Zv):Obj:= .cells #[v] 278
def xue(g:cp<=1000000000)(hop:o.op=Op.makeChan 278 (Operand.tmp 15))(b:a.eval (.tmp 15)=zi cp)(w:Zy):(bG a.eval o).run bM w= .ok (.value<|.chan<|bO w.heap.size) (w.alloc<|mQ cp)/\DE E w (w.alloc<|mQ cp) (listed bM 136 a o w):=by
 have f:=E3;have d:=run_makeChan (w:=w) Tryz.underlying278 (by kernel_rfl) .i64 cp (by omega) (by rw[f];omega);have i:=events_makeChan (w:=w) Tryz.underlying278 (by kernel_rfl) .i64 cp (by omega) (by rw[f];omega) #[];constructor;unfold bG;simp only[hop,b];simp[d];intro e h;have c:=mem_listed h;unfold bG at c;simp only[hop,b]at c;simp[d,i,Xr]at c
def xrx(hop:o.op=Op.alloc 278)(w:Zy):(bG a.eval o).run bM w= .ok (.value<|zo w.heap.size) (w.alloc<|lQ<|.chan bN)/\DE E w (w.alloc<|lQ<|.chan bN) (listed bM 136 a o w):=by
 constructor
 ·unfold bG
  simp only[hop];simp[go_sem]
 intro e c;have b:=mem_listed c;unfold bG at b;simp only[hop]at b;simp[go_sem]at b
def Ei{C Bs:Nat}(h:E ⟨.cell<|zq Bs 0,bL,bK⟩)(hop:o.op=Op.store 278 (Operand.tmp 4) (Operand.tmp 16))(d:a.eval (.tmp 4)=zo Bs)(b:a.eval (.tmp 16)= .chan (bO C))(f:w.cell? (zq Bs 0)=bO (.chan bN))(g:w.frozen? (zq Bs 0)=bK):
  (bG a.eval o).run bM w= .ok .skip (w.setCell (zq Bs 0)<|.chan<|bO C)/\DE E w (w.setCell (zq Bs 0)<|.chan<|bO C) (listed bM 136 a o w):=by
 constructor
 ·unfold bG
  simp only[hop,d,b];simp[go_sem,stored,f,g]
 intro e i;have c:=mem_listed i;unfold bG at c;simp only[hop,d,b]at c;simp[go_sem,storedEv,f,g]at c;subst c;exact h
def UN(N:Nat)(y:Zv):Nat->Zv
 |3|5|7=> .chan (bO N)
 |6|8=> .chan (bO<|N+1)
 |_=>y
def bx1(N:Nat)(y:Zv):Nat->Zv
 |1|4|6|8=>zo N
 |5|7=>zo<|N+1
 |_=>y
def w1(w₀:Zy)(cp:Nat):Nat->Zy
 |1|4=>w₀.alloc<|lQ<|.chan bN
 |3=>w₀.alloc<|mQ cp
 |5=>(w₀.alloc<|mQ cp).alloc<|lQ<|.chan bN
 |6=>(w₀.alloc<|lQ<|.chan bN).alloc<|mQ cp
 |7=>((w₀.alloc<|mQ cp).alloc<|lQ<|.chan bN).setCell (zq (w₀.heap.size+1) 0)<|.chan<|bO w₀.heap.size
 |8=>((w₀.alloc<|lQ<|.chan bN).alloc<|mQ cp).setCell (zq w₀.heap.size 0)<|.chan<|bO<|w₀.heap.size+1
 |_=>w₀
def n1:Nat->Nat
 |0=>0|1=>1|2=>1|3=>2|4=>2|5=>3|6=>3|_=>4
abbrev l1(p q c:Nat):Array Bool:=#[decide (1<=p),decide (2<=p),decide (3<=p),decide (4<=p),decide (1<=q),decide (2<=q),decide (3<=q),decide (4<=q),decide (2<=c),decide (c=3\/5<=c),decide (c=1\/4<=c),decide (7<=c)]
def VB(p:Nat)(f:p<5)(q:Nat)(g:q<5)(c:Nat)(b:c<9)(a:2<=c->p=4/\q=4):(Region.ready .any Va (l1 p q c)=[]->7<=c)/\(7<=c->Region.ready .any Va (l1 p q c)=[])/\∀i∈Region.ready .any Va (l1 p q c),(p=i/\p<4)\/(i=q+4/\q<4)\/(i=8/\(c=0\/c=1)/\p=4/\q=4)\/(i=9/\(c=2\/c=4))\/(i=10/\(c=0\/c=2\/c=3))\/(i=11/\(c=5\/c=6)):=by
 have h:∀(p q:_root_.Fin 5) (c:_root_.Fin 9),(decide (2<=c.val/\¬(p.val=4/\q.val=4))||((Region.ready .any Va<|l1 p q c).isEmpty==decide (7<=c.val))&&(Region.ready .any Va<|l1 p q c).all fun i=>decide ((p.val=i/\p.val<4)\/(i=q+4/\q.val<4)\/(i=8/\(c.val=0\/c.val=1)/\p.val=4/\q.val=4)\/(i=9/\(c.val=2\/c.val=4))\/(i=10/\(c.val=0\/c.val=2\/c.val=3))\/(i=11/\(c.val=5\/c.val=6))))=bL:=by decide+kernel
 have:=h ⟨p,f⟩ ⟨q,g⟩ ⟨c,b⟩;rw[Yk,xl,PY,Ju]at this;rcases this with h|⟨h,k⟩
 exact absurd (a (Xj h).1) (Xj h).2;exact⟨fun e=>(by rw[e]at h;exact Xj h.symm),fun e=>List.isEmpty_iff.mp<|h.trans<|decide_eq_true e,fun i d=>Xj<|k i d⟩
def xt8:∀c<9,n1 c<=4/\(n1 c=4->7<=c):=by decide
def SL.w1(h:SL Lb bs ls w)(c:Nat):SL Lb bs ls<|w1 w cp c:=by
 have b:Lb<w.heap.size:=Wb h.base;have a:∀{w:Zy} (o:Obj),SL Lb bs ls w->SL Lb bs ls (w.alloc o):=fun {w} o h=>by
  have b:Lb<w.heap.size:=Wb h.base;exact⟨(Zm<|qy _ _ _ b).trans h.base,(Zm<|qy _ _ _ b).trans h.last⟩
 have st:∀{w:Zy} (x:Addr) (v:Zv),x.block≠Lb->SL Lb bs ls w->SL Lb bs ls (w.setCell x v):=fun {w} x v d h=>
  ⟨(Zm<|(aside_setCell w x v).block Lb fun e=>d<|by rw[e]).trans h.base,(Zm<|(aside_setCell w x v).block Lb fun e=>d<|by rw[e]).trans h.last⟩
 unfold A.w1;split;exact a _ h;exact a _ h;exact a _ h;exact a _<|a _ h;exact a _<|a _ h;exact st _ _ (by simp;omega)<|a _<|a _ h;exact st _ _ (by simp;omega)<|a _<|a _ h;exact h
section
variable (y1 y2 y4 y5 y6 y7 y8 y9 nY y11 y12 y13 y14 y15 y16 y17 y18 y19 y20 y21 y22 y23 y24 y25 y26 y27 y28 y29 y30 y31 y32 gV y34:Value) (ds:List Deferred)
def PE(Lb Bd:Nat)(bs ls:Int)(cp N p q c:Nat):Act:=⟨#[zo Lb,y1,y2,zo Bd,(bx1 N y4 c),y5,y6,(if 1<=p then zo Lb else y7),(if 2<=p then zo Lb else y8),(if 3<=p then zk Lb 12 else y9),(if 4<=p then zi ls else nY),(if 1<=q then zo Lb else y11),(if 2<=q then zo Lb else y12),(if 3<=q then zk Lb 11 else y13),(if 4<=q then zi bs else y14),(if 2<=c then zi cp else y15),(UN N y16 c),y17,y18,y19,y20,y21,y22,y23,y24,y25,y26,y27,y28,y29,y30,y31,y32,gV,y34],ds⟩
def I1(Lb Bd:Nat)(bs ls:Int)(cp:Nat)(w₀:Zy)(m:Nat)(l:Array Bool)(a:Act)(w:Zy):Prop:=
 ∃p q c:Nat,p<5/\q<5/\c<9/\(2<=c->p=4/\q=4)/\l=l1 p q c/\m+(p+q+n1 c)=12/\a=PE y1 y2 y4 y5 y6 y7 y8 y9 nY y11 y12 y13 y14 y15 y16 y17 y18 y19 y20 y21 y22 y23 y24 y25 y26 y27 y28 y29 y30 y31 y32 gV y34 ds Lb Bd bs ls cp w₀.heap.size p q c/\∃d,w=(w1 w₀ cp c).at d
end
end
section
variable {Lb Bd:Nat} {bs ls:Int} {cp:Nat} {E:Event->Prop}
def Ej(c:cp<=1000000000)(hop:o.op= .makeChan 278 (.tmp 15))(b:a.eval (.tmp 15)=zi cp){N:Nat}(d:w.heap.size=N):(bG a.eval o).run bM w= .ok (.value<|.chan<|bO N) (w.alloc<|mQ cp)/\DE E w (w.alloc<|mQ cp) (listed bM 136 a o w):=by
 subst d;exact xue c hop b w
def M9(hop:o.op= .alloc 278){N:Nat}(b:w.heap.size=N):(bG a.eval o).run bM w= .ok (.value<|zo N) (w.alloc<|lQ<|.chan bN)/\DE E w (w.alloc<|lQ<|.chan bN) (listed bM 136 a o w):=by
 subst b;exact xrx hop w
def MZ(w₀:Zy)(o:Obj)(d:Nat):((w₀.alloc o).at d).heap.size=w₀.heap.size+1:=xh _ _
def Fp(w₀:Zy)(d:Nat):(((w₀.alloc<|mQ cp).alloc<|lQ<|.chan bN).at d).cell? (zq (w₀.heap.size+1) 0)=bO (.chan bN)/\(((w₀.alloc<|mQ cp).alloc<|lQ<|.chan bN).at d).frozen? (zq (w₀.heap.size+1) 0)=bK:=by
 have h:(((w₀.alloc<|mQ cp).alloc<|lQ<|.chan bN).at d).heap[w₀.heap.size+1]?=bO (lQ<|.chan bN):=by
  have:=jw (w₀.alloc<|mQ cp)<|lQ<|.chan bN;rw[xh]at this;exact this
 exact⟨by simp[aQ,h],by simp[World.frozen?,h]⟩
def Fq(w₀:Zy)(d:Nat):(((w₀.alloc<|lQ<|.chan bN).alloc<|mQ cp).at d).cell? (zq w₀.heap.size 0)=bO (.chan bN)/\(((w₀.alloc<|lQ<|.chan bN).alloc<|mQ cp).at d).frozen? (zq w₀.heap.size 0)=bK:=by
 have h:(((w₀.alloc<|lQ<|.chan bN).alloc<|mQ cp).at d).heap[w₀.heap.size]?=bO (lQ<|.chan bN):=
  (qy _ _ _<|by rw[xh];omega).trans (jw w₀ _)
 exact⟨by simp[aQ,h],by simp[World.frozen?,h]⟩
def I0(hE:∀x:Addr,x.block=Lb->E ⟨.cell x,bK,bK⟩)(hw:IntKind.i64.wrap (ls-bs)=(cp:Int))(L:cp<=1000000000){k:List Item}{n:Nat}{y1 y2 X y5 y6 Y Z y9 t y z B C D F y17 y18 y19 y20 y21 y22 y23 y24 y25 y26 y27 y28 y29 y30 y31 y32 gV y34:Zv}{R:List Deferred}{w₀:Zy}
  (J:∀x:Addr,w₀.heap.size<=x.block->x.block<w₀.heap.size+2->E ⟨.cell x,bL,bK⟩)(hS:SL Lb bs ls w₀)
  (f:∀c,c=7\/c=8->∀d,Goes bM bL AtRel (DE E) Stop n (G ((base 136).at (PE y1 y2 X y5 y6 Y Z y9 t y z B C D F y17 y18 y19 y20 y21 y22 y23 y24 y25 y26 y27 y28 y29 y30 y31 y32 gV y34 R Lb Bd bs ls cp w₀.heap.size 4 4 c) (.inRegion Va []::k)) cs)<|(w1 w₀ cp c).at d):
  Goes bM bL AtRel (DE E) Stop (n+12+1) (G ((base 136).at ⟨#[zo Lb,y1,y2,zo Bd,X,y5,y6,Y,Z,y9,t,y,z,B,C,D,F,y17,y18,y19,y20,y21,y22,y23,y24,y25,y26,y27,y28,y29,y30,y31,y32,gV,y34],R⟩ (.code (.region 1 Va bL)::k)) cs) w₀:=by
 refine zt4 (I:=I1 y1 y2 X y5 y6 Y Z y9 t y z B C D F y17 y18 y19 y20 y21 y22 y23 y24 y25 y26 y27 y28 y29 y30 y31 y32 gV y34 R Lb Bd bs ls cp w₀) Bu (by kernel_rfl) ?_ ?_ ?_ ?_ ?_ ?_;rintro m l a w g ⟨p,q,c,r,b,j,s,S,T,Q,d,rfl⟩ ⟨d',rfl⟩;exact⟨p,q,c,r,b,j,s,S,T,Q,d',rfl⟩;rintro m l a w ⟨p,q,c,r,b,j,s,S,T,Q,d,rfl⟩;exact⟨p,q,c,r,b,j,s,S,T,Q,d+1,rfl⟩;rintro m l a w ⟨p,q,c,M,N,H,b,rfl,e,rfl,d,rfl⟩ hr;have Q:=(VB p M q N c H b).1 hr;obtain⟨rfl,rfl⟩:=b (by omega);exact f c (by omega) d;rintro l a w ⟨p,q,c,M,N,H,b,rfl,e,rfl,d,rfl⟩;have hn:=xt8 c H;exact(VB p M q N c H b).2.1 (hn.2<|by omega);rintro m l a w ⟨p,q,c,M,N,H,b,rfl,e,rfl,d,rfl⟩ i hi;have hs:∀c,SL Lb bs ls<|(w1 w₀ cp c).at d:=fun c=>(hS.w1 c).at ⟨d,rfl⟩;have V:∀(d op) {a:Act} {v w g} {K:Act->Zy->Prop},(Va[i]?.map fun o=>(o.guard.isNone,o.dst,o.op))=bO (bL,d,op)->(∀o,o.op=op->(bG a.eval o).run bM w= .ok (.value v) g/\DE E w g (listed bM 136 a o w))->K (a.put d v) g->vL bM bL (DE E) (base 136) k cs Va i a w K:=by
  intro d op a v w g K h O W;obtain⟨o,r,rfl,j,s⟩:=CZ.get h;exact vL.value (by decide) r (s _) (O o j).1 (O o j).2 W
 have U:∀(d op) {a:Act} {w g} {K:Act->Zy->Prop},(Va[i]?.map fun o=>(o.guard.isNone,o.dst,o.op))=bO (bL,d,op)->(∀o,o.op=op->(bG a.eval o).run bM w= .ok .skip g/\DE E w g (listed bM 136 a o w))->K (a.put d bJ) g->vL bM bL (DE E) (base 136) k cs Va i a w K:=by
  intro d op a w g K h O W;obtain⟨o,r,rfl,j,s⟩:=CZ.get h;exact vL.none (by decide) r (s _) (O o j).1 (O o j).2 W
 clear f;rcases(VB p M q N c H b).2.2 i hi with⟨rfl,h⟩|⟨rfl,h⟩|⟨rfl,h,rfl,rfl⟩|⟨rfl,h⟩|⟨rfl,h⟩|⟨rfl,h⟩
 obtain rfl|rfl|rfl|rfl:p=0\/p=1\/p=2\/p=3:=by omega
 exact V (bO 7) (.move<|.tmp 0) (by kernel_rfl) (fun o h=>OH h rfl) ⟨1,q,c,by omega,by omega,by omega,by omega,rfl,by omega,rfl,d,rfl⟩;exact V (bO 8) (.nilCheck<|.tmp 7) (by kernel_rfl) (fun o h=>OJ h rfl) ⟨2,q,c,by omega,by omega,by omega,by omega,rfl,by omega,rfl,d,rfl⟩;exact V (bO 9) (.fieldAddr 147 (.tmp 8) 8) (by kernel_rfl) (fun o h=>OD (.inr rfl) h rfl) ⟨3,q,c,by omega,by omega,by omega,by omega,rfl,by omega,rfl,d,rfl⟩;exact V (bO 10) (.load 3<|.tmp 9) (by kernel_rfl) (fun o h=>OG hE h rfl (hs c).last) ⟨4,q,c,by omega,by omega,by omega,by omega,rfl,by omega,rfl,d,rfl⟩;obtain rfl|rfl|rfl|rfl:q=0\/q=1\/q=2\/q=3:=by omega
 exact V (bO 11) (.move<|.tmp 0) (by kernel_rfl) (fun o h=>OH h rfl) ⟨p,1,c,by omega,by omega,by omega,by omega,rfl,by omega,rfl,d,rfl⟩;exact V (bO 12) (.nilCheck<|.tmp 11) (by kernel_rfl) (fun o h=>OJ h rfl) ⟨p,2,c,by omega,by omega,by omega,by omega,rfl,by omega,rfl,d,rfl⟩;exact V (bO 13) (.fieldAddr 147 (.tmp 12) 7) (by kernel_rfl) (fun o h=>OD (.inl rfl) h rfl) ⟨p,3,c,by omega,by omega,by omega,by omega,rfl,by omega,rfl,d,rfl⟩;exact V (bO 14) (.load 3<|.tmp 13) (by kernel_rfl) (fun o h=>OG hE h rfl (hs c).base) ⟨p,4,c,by omega,by omega,by omega,by omega,rfl,by omega,rfl,d,rfl⟩;rcases h with rfl|rfl
 exact V (bO 15) _ (by kernel_rfl) (fun o h=>El hw h rfl rfl) ⟨4,4,2,by omega,by omega,by omega,by omega,rfl,by simp[n1]at e⊢;omega,rfl,d,rfl⟩;exact V (bO 15) _ (by kernel_rfl) (fun o h=>El hw h rfl rfl) ⟨4,4,4,by omega,by omega,by omega,by omega,rfl,by simp[n1]at e⊢;omega,rfl,d,rfl⟩;obtain⟨rfl,rfl⟩:=b (by omega);rcases h with rfl|rfl
 exact V (bO 16) _ (by kernel_rfl) (fun o h=>Ej L h rfl rfl) ⟨4,4,3,by omega,by omega,by omega,by omega,rfl,by simp[n1]at e⊢;omega,rfl,d,rfl⟩;exact V (bO 16) _ (by kernel_rfl) (fun o h=>Ej L h rfl<|MZ w₀ _ d) ⟨4,4,6,by omega,by omega,by omega,by omega,rfl,by simp[n1]at e⊢;omega,rfl,d,rfl⟩;rcases h with rfl|rfl|rfl
 exact V (bO 4) _ (by kernel_rfl) (fun o h=>M9 h rfl) ⟨p,q,1,by omega,by omega,by omega,by omega,rfl,by simp[n1]at e⊢;omega,rfl,d,rfl⟩;exact V (bO 4) _ (by kernel_rfl) (fun o h=>M9 h rfl) ⟨p,q,4,by omega,by omega,by omega,by omega,rfl,by simp[n1]at e⊢;omega,rfl,d,rfl⟩;exact V (bO 4) _ (by kernel_rfl) (fun o h=>M9 h<|MZ w₀ _ d) ⟨p,q,5,by omega,by omega,by omega,by omega,rfl,by simp[n1]at e⊢;omega,rfl,d,rfl⟩;obtain⟨rfl,rfl⟩:=b (by omega);rcases h with rfl|rfl
 exact U bN _ (by kernel_rfl) (fun o h=>Ei (J _ (by simp)<|by simp) h rfl rfl (Fp w₀ d).1 (Fp w₀ d).2) ⟨4,4,7,by omega,by omega,by omega,by omega,rfl,by simp[n1]at e⊢;omega,rfl,d,rfl⟩;exact U bN _ (by kernel_rfl) (fun o h=>Ei (J _ (by simp)<|by simp) h rfl rfl (Fq w₀ d).1 (Fq w₀ d).2) ⟨4,4,8,by omega,by omega,by omega,by omega,rfl,by simp[n1]at e⊢;omega,rfl,d,rfl⟩;exact⟨0,0,0,by decide,by decide,by decide,by decide,rfl,rfl,rfl,w₀.drawn,rfl⟩
end
section
variable {P:aV} {E:Event->Prop} {Stop:aS->World->Prop} {m:Nat} {b:Frame} {a:Act} {k:List Item} {cs:List Frame} {w w':World}
def Lg(P:Zp)(E:Event->Prop)(Stop:Zg->Zy->Prop)(m:Nat)(g:Zg)(w:Zy):Prop:=∀d,Goes P bL AtRel (DE E) Stop m g<|w.at d
theorem Lg.ctl{g g':Zg}(f:g.status= .running)(h:∀w,aZ P bL g w= .go g' w)(c:Lg P E Stop m g' w):Lg P E Stop (m+1) g w:=fun d=>Goes.step f fun j i=>by
 obtain⟨a,rfl⟩:=i;rw[h];exact⟨fun e b=>by simp at b,c a⟩
def Lg.value{ops:Array aD}{i:Nat}{rest:List Nat}{op:aD}(v:Zv)(ho:ops[i]?=bO op)(hw:aX op (yielded ops a.tmps)=bL)(hk:b.kind≠ .early)
  (j:∀d,(bG a.eval op).run P (w.at d)= .ok (.value v) (w'.at d))(f:∀d,∀e∈(bG a.eval op).events P (w.at d) #[],E e)
  (g:Lg P E Stop m (G (b.at (a.put op.dst v) (.inRegion ops rest::k)) cs) w'):Lg P E Stop (m+1) (G (b.at a (.inRegion ops (i::rest)::k)) cs) w:=fun d=>Goes.step rfl fun n l=>by
 obtain⟨c,rfl⟩:=l;change(aZ P bL _<|w.at c).goes _;rw[stepG_value (w':=w'.at c) ho hw hk<|j c];exact⟨fun e h=>f c e<|mem_listed h,g c⟩
end
noncomputable def K1:=Qb<|Qb vF
noncomputable def K5:=Qn 4 K1
abbrev wN:Obj:= .cells #[.int .u64 0,zu 0] 286
section
variable {Lb Bd Bs C Wg:Nat} {bs ls:Int} {cp X0:Nat} [Go.ConcX.Shy Wg Bd] {Stop:aS->World->Prop}
def H5(s:∀x:Addr,x.block=Lb->Go.ConcX.EvS Wg Bd ⟨.cell x,bK,bK⟩)(hw:IntKind.i64.wrap (bs+1)=bs+1){y1 y2 y5 y6 y17 y18 y19 y20 y21 y22 y23 y24 y25 y26 y27 y28 y29 y30 y31 y32 gV y34:Zv}{wB:Zy}(q:wB.heap.size=Wg)(h:SL Lb bs ls wB)
  (b:∀d,Stop (G ((base 136).at ⟨#[zo Lb,y1,y2,zo Bd,zo Bs,zo Wg,y6,zo Lb,zo Lb,zk Lb 12,zi ls,zo Lb,zo Lb,zk Lb 11,zi bs,zi cp,.chan<|bO C,.tuple #[],.func (.func 211) #[] #[zo Wg,zo Bs,zo Bd],zo Lb,zo Lb,zk Lb 11,zi bs,zi<|bs+1,zo Lb,zo Lb,zk Lb 12,zi ls,y28,y29,y30,y31,y32,gV,y34],[dcall 209 #[zo Wg]]⟩ [.inRegion nO [10],.code K5]) cs)<|((wB.alloc wN).setCell (zq Wg 0)<|.int .u64 4294967296).at d):
  Lg bM (Go.ConcX.EvS Wg Bd) (Go.ConcX.AtMkS bM .disable fun a w=>∃n,Goes bM bL AtRel (DE<|Go.ConcX.EvS Wg Bd) (Go.ConcX.AtMkS bM .enable fun a w=>∃n,Goes bM bL AtRel (DE<|Go.ConcX.EvS Wg Bd) Stop n a w) n a w) 24
   (G ((base 136).at ⟨#[zo Lb,y1,y2,zo Bd,zo Bs,y5,y6,zo Lb,zo Lb,zk Lb 12,zi ls,zo Lb,zo Lb,zk Lb 11,zi bs,zi cp,.chan<|bO C,y17,y18,y19,y20,y21,y22,y23,y24,y25,y26,y27,y28,y29,y30,y31,y32,gV,y34],[]⟩ [.inRegion Va [],.code K1]) cs) wB:=by
 have f:Lb<wB.heap.size:=Wb h.base;have i:SL Lb bs ls<|(wB.alloc wN).setCell (zq Wg 0)<|.int .u64 4294967296:=by
  have p:SL Lb bs ls<|wB.alloc wN:=⟨(Zm<|qy _ _ _ f).trans h.base,(Zm<|qy _ _ _ f).trans h.last⟩;exact⟨(Zm<|(aside_setCell _ _ _).block Lb<|by simp;omega).trans p.base,(Zm<|(aside_setCell _ _ _).block Lb<|by simp;omega).trans p.last⟩
 have m:(wB.alloc wN).heap[Wg]?=bO wN:=by subst q;exact jw _ _
 simp only[K1,vF,Tryz.f136,jv];refine Lg.ctl rfl (fun _=>bB) ?_;refine Lg.ctl rfl (fun _=>aO) ?_;refine Lg.ctl rfl (fun _=>stepG_region) ?_;refine Lg.value (w':=wB.alloc wN) (zo Wg) rfl rfl (by decide) (fun d=>by subst q;simp[bG,go_sem];exact⟨rfl,rfl⟩) (fun d e j=>by simp[bG,go_sem]at j) ?_
 walk_nrm
 refine Lg.ctl rfl (fun _=>bB) ?_;refine Lg.ctl rfl (fun _=>aO) ?_;refine Lg.ctl rfl (fun _=>stepG_region) ?_;refine Lg.ctl rfl (fun _=>stepG_defer rfl rfl (by decide) rfl) ?_
 walk_nrm
 refine Lg.ctl rfl (fun _=>bB) ?_;refine Lg.ctl rfl (fun _=>aO) ?_;refine Lg.ctl rfl (fun _=>stepG_region) ?_;intro d;refine Goes.step rfl fun z t=>?_;obtain⟨o,rfl⟩:=t;refine goes_call (c:=Go.ConcX.Gen.body_add ED) rfl rfl (by decide) rfl Tryz.func210 (by kernel_rfl) rfl ⟨fun e j=>by simp at j,?_⟩
 walk_nrmf Tryz.f210
 refine Goes.mono (Go.ConcX.Gen.addPos (mT:=14) OM _ m ?_) (by omega);change Goes _ _ _ _ _ 14 _ (((wB.alloc wN).setCell (zq Wg 0)<|.int .u64 4294967296).at o)
 walk_nrm
 revert o;change Lg _ _ _ 14 _ ((wB.alloc wN).setCell (zq Wg 0)<|.int .u64 4294967296);refine Lg.ctl rfl (fun _=>bB) ?_;refine Lg.ctl rfl (fun _=>aO) ?_;intro d;refine S5 (n:=0) (k:=[.code K5]) s hw (fun w' l=>?_)<|i.at ⟨d,rfl⟩;refine Goes.stop fun v g=>?_;obtain⟨y,rfl⟩:=l;obtain⟨r,rfl⟩:=g;exact b r
end
noncomputable def pF(Lb D Bd Bs C Wg:Nat)(bs ls:Int)(cp:Nat):Act:=⟨#[zo Lb,zo D,bJ,zo Bd,zo Bs,zo Wg,bJ,zo Lb,zo Lb,zk Lb 12,zi ls,zo Lb,zo Lb,zk Lb 11,zi bs,zi cp,.chan<|bO C,.tuple #[],.func (.func 211) #[] #[zo Wg,zo Bs,zo Bd],zo Lb,zo Lb,zk Lb 11,zi bs,zi<|bs+1,zo Lb,zo Lb,zk Lb 12,zi ls,bJ,bJ,bJ,bJ,bJ,bJ,bJ],[dcall 209 #[zo Wg]]⟩
abbrev nT(D:Nat):Obj:= .cells #[zo D] 89
def eH(w₀:Zy)(D cp c:Nat):Zy:=((w1 (w₀.alloc<|nT D) cp c).alloc wN).setCell (zq (w₀.heap.size+3) 0)<|.int .u64 4294967296
def gF(N c:Nat):Nat:=if c=7 then N+1 else N+2
def iD(N c:Nat):Nat:=if c=7 then N+2 else N+1
def RO(w:Zy)(cp:Nat){c:Nat}(a:c=7\/c=8):(w1 w cp c).heap.size=w.heap.size+2:=by
 have b:∀(w:Zy) (x:Addr) (v:Zv),(w.setCell x v).heap.size=w.heap.size:=fun w x v=>by
  unfold aF;split<;>simp
 rcases a with rfl|rfl<;>simp[w1,b,xh]
section
variable {Lb D:Nat} {bs ls:Int} {cp:Nat} {w₀:World} [Go.ConcX.Shy (w₀.heap.size+3) w₀.heap.size] {Stop:aS->World->Prop} {cs:List Frame}
def Hp(r:∀x:Addr,x.block=Lb->Go.ConcX.EvS (w₀.heap.size+3) w₀.heap.size ⟨.cell x,bK,bK⟩)(l:∀x:Addr,w₀.heap.size+1<=x.block->x.block<w₀.heap.size+3->Go.ConcX.EvS (w₀.heap.size+3) w₀.heap.size ⟨.cell x,bL,bK⟩)
  (hw:IntKind.i64.wrap (ls-bs)=(cp:Int))(p:cp<=1000000000)(q:IntKind.i64.wrap (bs+1)=bs+1)(m:SL Lb bs ls w₀)
  (f:∀c,c=7\/c=8->∀d,Stop (G ((base 136).at (pF Lb D w₀.heap.size (iD w₀.heap.size c) (gF w₀.heap.size c) (w₀.heap.size+3) bs ls cp) [.inRegion nO [10],.code K5]) cs)<|(eH w₀ D cp c).at d):
  Lg bM (Go.ConcX.EvS (w₀.heap.size+3) w₀.heap.size) (Go.ConcX.AtMkS bM .disable fun a w=>∃n,Goes bM bL AtRel (DE<|Go.ConcX.EvS (w₀.heap.size+3) w₀.heap.size) (Go.ConcX.AtMkS bM .enable fun a w=>∃n,Goes bM bL AtRel (DE<|Go.ConcX.EvS (w₀.heap.size+3) w₀.heap.size) Stop n a w) n a w) 42
   (G ((base 136).at ⟨#[zo Lb,zo D,bJ,bJ,bJ,bJ,bJ,bJ,bJ,bJ,bJ,bJ,bJ,bJ,bJ,bJ,bJ,bJ,bJ,bJ,bJ,bJ,bJ,bJ,bJ,bJ,bJ,bJ,bJ,bJ,bJ,bJ,bJ,bJ,bJ],[]⟩ [.code vF]) cs) w₀:=by
 have i:Lb<w₀.heap.size:=Wb m.base;have h:SL Lb bs ls<|w₀.alloc<|nT D:=⟨(Zm<|qy _ _ _ i).trans m.base,(Zm<|qy _ _ _ i).trans m.last⟩;have g:(w₀.alloc<|nT D).heap.size=w₀.heap.size+1:=xh _ _;have y:vF= .seq (.region 0 #[{dst:=bO 3,op:=Op.box 89<|Operand.tmp 1,type:=0,pos:= "look.go:75",after:=#[],guard:=bN}] bK) (.seq (.region 1 Va bL) K1):=by kernel_rfl
 rw[y];refine Lg.ctl rfl (fun _=>aO) ?_
 (refine Lg.ctl rfl (fun _=>stepG_region) ?_;simp only[jg,zh,jn,Nat.reduceAdd,jy,List.range,List.range.loop])
 refine Lg.value (w':=w₀.alloc<|nT D) (zo w₀.heap.size) rfl rfl (by decide) (fun d=>by simp[bG,go_sem];exact⟨rfl,rfl⟩) (fun d e B=>by simp[bG,go_sem]at B) ?_
 walk_nrm
 refine Lg.ctl rfl (fun _=>bB) ?_;refine Lg.ctl rfl (fun _=>aO) ?_;intro d;refine Goes.mono (I0 (n:=24) (w₀:=(w₀.alloc<|nT D).at d) (k:=[.code K1]) r hw p (fun x t v=>l x (by rw[<-g];exact t)<|by have j:x.block<(w₀.alloc<|nT D).heap.size+2:=v;rw[g]at j;omega) (h.at ⟨d,rfl⟩) ?_) (by omega);intro c o s;have z:(w1 (w₀.alloc<|nT D) cp c).heap.size=w₀.heap.size+3:=by rw[RO _ _ o,g]
 have b:=H5 (Lb:=Lb) (Bd:=w₀.heap.size) (Bs:=iD w₀.heap.size c) (C:=gF w₀.heap.size c) (Wg:=w₀.heap.size+3) (bs:=bs) (ls:=ls) (cp:=cp) (Stop:=Stop) r q (cs:=cs) (y1:=zo D) (y2:=bJ) (y5:=bJ) (y6:=bJ) (y17:=bJ) (y18:=bJ) (y19:=bJ) (y20:=bJ) (y21:=bJ) (y22:=bJ) (y23:=bJ) (y24:=bJ) (y25:=bJ) (y26:=bJ) (y27:=bJ) (y28:=bJ) (y29:=bJ) (y30:=bJ) (y31:=bJ) (y32:=bJ) (gV:=bJ) (y34:=bJ)
  (wB:=w1 (w₀.alloc<|nT D) cp c) z (h.w1 c) (fun d=>f c o d) s
 rcases o with rfl|rfl;simp only[PE,UN,bx1,iD,gF,g,show((w₀.alloc<|nT D).at d).heap.size=w₀.heap.size+1 from g,if_true,ze,Nat.reduceLeDiff,↓reduceIte]at b⊢;exact b;simp only[PE,UN,bx1,iD,gF,g,show((w₀.alloc<|nT D).at d).heap.size=w₀.heap.size+1 from g,if_true,ze,Nat.reduceLeDiff,Nat.reduceEqDiff,↓reduceIte]at b⊢;exact b
end
end
end
section
open Go.ConcN (sumTo upd sumTo_upd upd_ne upd_same)
variable [pn:Pn]
section
variable {P:aV} {X X0:Nat->Prop} {Th:Loc->Prop} {Wg C c p B:Nat} {a0:Addr} {T t:Trace}
def Zw(Wg C:Nat)(a:Touch):Prop:=(qX Wg a.loc->a.kind≠ .plain)/\(a.loc= .obj C->a.write=bK)
def TP.uK(h:We X0 B (Zw Wg C) 0 T)(n:∀x,X0 x->X x)(z:¬X0 Wg)(f:∀l,Th l->¬oI X0 l/\¬rZ X0 l)(m:∀l,Th l->l.isMemory=bL):TP X Th Wg C 0 a0 T.size B T:=by
 have s:∀i a,touchAt T i=bO a->Th a.loc->Knows T 0 i:=fun i a c d=>by
  rcases h.known i a c (m _ d)with x|x|x;exact x;exact absurd x.1 (f _ d).1;exact absurd x.1 (f _ d).2
 refine⟨h.clean,fun i a c y=>?_,fun i a c d _=>s i a c d,fun i a c d=> .inl (s i a c d),fun i a c d=>(h.EE i a c).2 d,fun i a c q=>⟨(h.EE i a c).1 q,fun p=>?_⟩,fun i g v j t=> .inl (h.over i g v j t),h.seen,fun i D w=>?_⟩;rcases h.known i a c y with x|⟨⟨b,e,o⟩,hk⟩|⟨⟨r,e,k⟩,hk⟩
 exact .inl x;exact .inr<|.inl ⟨⟨b,e,n _ o⟩,hk⟩;exact .inr<|.inr<|.inr ⟨⟨r,e,n _ k⟩,fun d=>(f _ d).2 ⟨r,e,k⟩,hk⟩;obtain⟨b,e,o⟩:=q;rcases h.known i a c (by rw[e];rfl)with x|⟨⟨b',e',hb'⟩,hk⟩|⟨⟨r,e',k⟩,hk⟩
 exact x;rw[hk]at p;cases p;rw[e]at e';cases e';have:=lt_of_act? w;omega
def Ks{Z:Touch->Prop}{g g' child:Zg}(l:g.status= .running){q:Nat->Nat}{gs:Array Zg}{v:Zy}{sl:Option<|Nat×Nat}(I:gs[0]?=bO g)(C:Leavers P t gs q)(V:We X B Z 0 t)
  (h:∀d,aZ P bL g (v.at d)= .spawn g' child (v.at d) #[]):
  ∃N gs' d sl' t' q' x y,runNT P N (crowd gs v sl) t=(.next<|crowd (gs'.push child) (v.at d) sl',t'++#[x,y])/\gs'[0]?=bO g'/\gs'.size=gs.size/\Leavers P t' gs' q'/\We X B Z 0 t'/\(x.g=0/\x.act= .go gs.size)/\(y.g=gs.size/\y.act= .start):=by
 induction hk:sumTo gs.size q using Nat.strongRecOn generalizing gs q v sl t with
 |_ k ih=>
  have M:∀g∈gs,awake g:=by
   intro c b;obtain⟨i,m,rfl⟩:=Z1.1 b;rcases jl i with rfl|f
   have:gs[0]=g:=by simpa[xg m]using I
   rw[this];exact awake_of<|.inl l;exact awake_of<|(C.old i _ f<|xg m).status.elim .inl fun x=> .inr (.inr x)
  obtain⟨i,c,d,sl',m,b,E⟩:=crowd_pick (P:=P) (w:=v) (sl:=sl) M ⟨0,g,I,l⟩;have p:i<gs.size:=(za.1 m).1;rcases jl i with rfl|f
  obtain rfl:c=g:=by rw[I]at m;exact(jf m).symm
  have a:=runT_crowd_spawn (sl:=sl') m (show aZ P _ c _=_ from h d);refine⟨1,gs.setIfInBounds 0 g',d,sl',t,q,{g:=0,fn:=c.frame.fn,pos:=c.frame.place,act:= .go gs.size},{g:=gs.size,fn:=child.frame.fn,pos:=c.frame.place,act:= .start},?_,by simp[p],by simp,⟨fun j z o Y=>?_,fun j o=>C.above j<|by simpa using o⟩,V,⟨rfl,rfl⟩,rfl,rfl⟩;simp only[runNT,E,a];rfl;have r:0≠j:=by omega
  rw[zd r]at Y;exact C.old j z o Y;have J:=C.old i c f m;have O:(i==0)=bK:=by simp;omega
  cases hqi:q i with
  |zero=>rw[hqi]at J;rw[J.1]at b;cases b
  |succ k'=>
   rw[hqi]at J;rcases J with⟨hf,_⟩|⟨_,H,es,hm,F,Q⟩
   rw[hf]at b;cases b;have a:=runT_crowd_go (sl:=sl') m (by rw[O];exact F<|v.at d);have G:((gs.map<|woken P c H<|v.at d).setIfInBounds i H).size=gs.size:=by simp
   have W:sumTo gs.size (upd q i k')+(k'+1)=sumTo gs.size q+k':=by
    have:=sumTo_upd q k' id p;simpa[hqi]using this
   obtain⟨N,L,d2,R,t2,q2,x,y,b1,b2,S,b4,b5,T,U⟩:=ih (sumTo gs.size<|upd q i k') (by omega) (q:=upd q i k') (t:=t++bD i c.frame.fn c.frame.place es) (gs:=(gs.map<|woken P c H<|v.at d).setIfInBounds i H) (v:=v.at d) (sl:=sl')
    (by
     have r:i≠0:=by omega
     rw[zd r,jj,I];simp[woken_run l])
    ⟨fun j z o K=>by
     by_cases n:i=j;subst n;rw[zx<|by simpa using p]at K;obtain rfl:=jf K;rw[upd_same,Deaf_own];exact Q;rw[zd n,jj]at K;obtain⟨y,hy,rfl⟩:=zt.1 K;have D:=C.old j y o hy;rw[woken_quitsD D,upd_ne q k'<|aL n,aG t n _ fun op s=>by obtain⟨e,_,rfl⟩:=zy s;rfl];exact D,fun j o=>by
     rw[aG t (g':=i) (by simp at o;omega) _ fun op s=>by obtain⟨e,_,rfl⟩:=zy s;rfl];exact C.above j<|by simpa using o⟩
    (V.mute (by omega) hm) (fun d'=>h d') (by rw[G])
   rw[G]at S T U;exact⟨1+N,L,d2,R,t2,q2,x,y,ql (by simp only[runNT,E,a]) b1,b2,S,b4,b5,T,U⟩
end
end
section
open Go.RowKit Go.Conc.Lib
variable [pn:Pn] [py:Go.ConcR.Payload]
section
variable {Lb D Bd Bs C Wg:Nat} {bs ls:Int} {cp:Nat} {cs:List Frame}
def MM:aD:={dst:=bN,op:=Op.go {callee:=Callee.value<|Operand.tmp 18,args:=#[Operand.tmp 23,Operand.tmp 27],argTypes:=#[3,3]},type:=0,pos:= "look.go:80",after:=#[{on:=0,ground:=Ground.data},{on:=5,ground:=Ground.data},{on:=9,ground:=Ground.data}],guard:=bN}
def xp5:nO[10]?=bO MM:=by kernel_rfl
def xmx(w:Zy):aZ bM bL (G ((base 136).at (pF Lb D Bd Bs C Wg bs ls cp) [.inRegion nO [10],.code K5]) cs) w= .spawn (G ((base 136).at (pF Lb D Bd Bs C Wg bs ls cp) [.inRegion nO [],.code K5]) cs) (born bM<|call211 Bd Bs Wg (bs+1) ls) w #[]:=by
 have b:(bG (pF Lb D Bd Bs C Wg bs ls cp).eval MM).run bM w= .ok (.spawn<|call211 Bd Bs Wg (bs+1) ls) w:=by
  unfold bG;simp only[MM];simp[pF,Act.eval,go_sem,call211]
 have a:(bG (pF Lb D Bd Bs C Wg bs ls cp).eval MM).events bM w #[]=#[]:=by
  unfold bG;simp only[MM];simp[pF,Act.eval,go_sem]
 rw[stepG_spawn (w':=w) xp5 rfl (by decide) b rfl];unfold listed;rw[a,seen_none];rfl
end
def eX(es:Array aK):∀(k:Nat) (n:Int),(dY es n k).length=k
 |0,_=>rfl
 |k+1,n=>by simp[dY,eX es k]
def uQ(w₀:Zy)(D cp:Nat){c:Nat}(f:c=7\/c=8){r:Nat}(g:r<w₀.heap.size)(d:Nat):((eH w₀ D cp c).at d).heap[r]?=w₀.heap[r]?:=by
 have a:∀(w:Zy) (o:Obj) {r:Nat},r<w.heap.size->(w.alloc o).heap[r]?=w.heap[r]?:=fun w o r h=>qy _ _ _ h;have b:(w₀.alloc<|nT D).heap.size=w₀.heap.size+1:=xh _ _;have e:(w1 (w₀.alloc<|nT D) cp c).heap[r]?=w₀.heap[r]?:=by
  rcases f with rfl|rfl;simp only[w1];rw[(aside_setCell _ _ _).block r<|by simp;omega,a _ _<|by simp only[xh];omega,a _ _<|by rw[b];omega,a _ _ g];simp only[w1];rw[(aside_setCell _ _ _).block r<|by simp;omega,a _ _<|by simp only[xh];omega,a _ _<|by rw[b];omega,a _ _ g]
 show(eH w₀ D cp c).heap[r]?=_;unfold eH;rw[(aside_setCell _ _ _).block r<|by simp;omega,a _ _<|by rw[RO _ _ f,b];omega,e]
def D9(w₀:Zy)(D cp:Nat){c:Nat}(a:c=7\/c=8)(d:Nat):((eH w₀ D cp c).at d).heap.size=w₀.heap.size+4:=by
 have b:∀(w:Zy) (x:Addr) (v:Zv),(w.setCell x v).heap.size=w.heap.size:=fun w x v=>by
  unfold aF;split<;>simp
 show(eH w₀ D cp c).heap.size=_;unfold eH;rw[b,xh,RO _ _ a,xh]
def L_(w₀:Zy)(D cp:Nat){c:Nat}(k:c=7\/c=8)(d:Nat):((eH w₀ D cp c).at d).heap[w₀.heap.size]?=bO (nT D)/\((eH w₀ D cp c).at d).heap[gF w₀.heap.size c]?=bO (mQ cp)/\
  ((eH w₀ D cp c).at d).heap[iD w₀.heap.size c]?=bO (lQ<|.chan<|bO<|gF w₀.heap.size c)/\((eH w₀ D cp c).at d).heap[w₀.heap.size+3]?=bO (.cells #[.int .u64 4294967296,zu 0] 286):=by
 show(eH w₀ D cp c).heap[w₀.heap.size]?=_/\(eH w₀ D cp c).heap[gF w₀.heap.size c]?=_/\(eH w₀ D cp c).heap[iD w₀.heap.size c]?=_/\(eH w₀ D cp c).heap[w₀.heap.size+3]?=_;have n1:w₀.heap.size≠w₀.heap.size+1:=by omega
 have j:∀(w:Zy) (o:Obj) {r:Nat},r<w.heap.size->(w.alloc o).heap[r]?=w.heap[r]?:=fun w o r h=>qy _ _ _ h;have i:∀(w:Zy) (o:Obj) {r:Nat},w.heap.size=r->(w.alloc o).heap[r]?=bO o:=fun w o r h=>by subst h;exact jw _ _
 have f:∀(w:Zy) (x:Addr) (v:Zv) {r:Nat},x.block≠r->(w.setCell x v).heap[r]?=w.heap[r]?:=fun w x v r h=>(aside_setCell w x v).block r fun e=>h e.symm;have st:∀(w:Zy) (r:Nat) (v:Zv) (l:Za) (e:Zt),w.heap[r]?=bO (.cells l e (0,0))->(w.setCell (zq r 0) v).heap[r]?=bO (.cells (l.setIfInBounds 0 v) e (0,0)):=fun w r v l e h=>by
  unfold aF;simp only;rw[modify_eq_set _ _ _ _ h];simp[(za.1 h).1]
 have a:(w₀.alloc<|nT D).heap.size=w₀.heap.size+1:=xh _ _;have g:=RO (w₀.alloc<|nT D) cp k;rw[a]at g;have b:∀{r:Nat},r<w₀.heap.size+3->(eH w₀ D cp c).heap[r]?=(w1 (w₀.alloc<|nT D) cp c).heap[r]?:=fun {r} h=>by
  unfold eH;rw[f _ _ _<|by simp;omega,j _ _<|by rw[g];omega]
 refine⟨?_,?_,?_,?_⟩;rw[b<|by omega];rcases k with rfl|rfl<;>simp only[w1]<;>rw[f _ _ _<|by simp only[a];omega,j _ _<|by simp only[xh];omega,j _ _<|by simp only[xh];omega,i _ _ rfl]
 rcases k with rfl|rfl;rw[show gF w₀.heap.size 7=w₀.heap.size+1 from rfl,b<|by omega];simp only[w1];rw[f _ _ _<|by simp only[a];omega,j _ _<|by simp only[xh];omega,i _ _ a];rw[show gF w₀.heap.size 8=w₀.heap.size+2 from rfl,b<|by omega];simp only[w1];rw[f _ _ _<|by simp only[a];omega,i _ _<|by simp only[xh]];rcases k with rfl|rfl;rw[show iD w₀.heap.size 7=w₀.heap.size+2 from rfl,show gF w₀.heap.size 7=w₀.heap.size+1 from rfl,b<|by omega];simp only[w1,a];exact st _ _ _ _ _ (i _ _<|by simp only[xh]);rw[show iD w₀.heap.size 8=w₀.heap.size+1 from rfl,show gF w₀.heap.size 8=w₀.heap.size+2 from rfl,b<|by omega];simp only[w1,a];exact st _ _ _ _ _<|(j _ _<|by simp only[xh];omega).trans<|i _ _ a;unfold eH;exact st _ _ _ _ _<|i _ _ g
section
variable {X:Nat->Prop} {gs:Array aS} {v:World} {sl:Option<|Nat×Nat} {t:Trace} {k:Nat×Nat} {Lb D M clock:Nat} {es:Array aK} {rm nx:Value} {bs ls:Int} {cp:Nat} {cs:List Frame}
def Sx(N D c:Nat)(x:Nat):Prop:=x=D\/x=N\/x=iD N c
def Xx(X:ZP)(N D M:Nat)(x:Nat):Prop:=X x\/x=D\/x=M\/(N<=x/\x<N+4)
def ox(v:Zy)(x:Nat):Obj:=(v.heap[x]?).getD<|.cells #[] 0
def Uh{B Wg C:Nat}(n:Wg<B)(m:C<B)(o:¬X C){e:Event}(h:@Go.ConcX.EvS Wg C (Ie X B Wg C n m o) e):xR X B e/\∀x,(aU e).touch?=bO x->(∀c,Zw Wg c x):=by
 obtain⟨i,q,r,j,k,g⟩:=h;refine⟨⟨fun x d=>⟨(g x d).1,(g x d).2.1,(g x d).2.2.1⟩,fun f=>j ?_,fun f=>k ?_⟩,fun x d c=>⟨fun p=>(i x d).1<|.inl p,fun f=>absurd f<|(g x d).c c⟩⟩;cases e with
 |mk l a b=>cases f;rfl
 cases e with
 |mk l a b=>cases f;rfl
def xq4(hJ:JL bM X k gs v t)(h0:gs[0]?=bO (G ((base 136).at ⟨#[zo Lb,zo D,bJ,bJ,bJ,bJ,bJ,bJ,bJ,bJ,bJ,bJ,bJ,bJ,bJ,bJ,bJ,bJ,bJ,bJ,bJ,bJ,bJ,bJ,bJ,bJ,bJ,bJ,bJ,bJ,bJ,bJ,bJ,bJ,bJ],[]⟩ [.code vF]) cs))(B:¬X Lb)(L:SL Lb bs ls v)(f:∀x,X x->x<v.heap.size)
  (hw:IntKind.i64.wrap (ls-bs)=(cp:Int))(F:cp<=1000000000)(I:IntKind.i64.wrap (bs+1)=bs+1):
  ∃N gs' d sl' t' q c x y,(c=7\/c=8)/\runNT bM N (crowd gs v sl) t=(.next<|crowd (gs'.push<|born bM<|call211 v.heap.size (iD v.heap.size c) (v.heap.size+3) (bs+1) ls) ((eH v D cp c).at d) sl',t'++#[x,y])/\
   gs'[0]?=bO (G ((base 136).at (pF Lb D v.heap.size (iD v.heap.size c) (gF v.heap.size c) (v.heap.size+3) bs ls cp) [.inRegion nO [],.code K5]) cs)/\gs'.size=gs.size/\Leavers bM t' gs' q/\
   We X (v.heap.size+4) (fun a=>∀C,v.heap.size<=C->Zw (v.heap.size+3) C a) 0 t'/\(x.g=0/\x.act= .go gs.size)/\(y.g=gs.size/\y.act= .start):=by
 obtain⟨q,hL,hP,rfl⟩:=hJ;have bb:Lb<v.heap.size:=Wb L.base;have z:¬X v.heap.size:=fun h=>by have:=f _ h;omega
 letI:=Ie X (v.heap.size+4) (v.heap.size+3) v.heap.size (by omega) (by omega) z
 have hE:∀x:Addr,x.block=Lb->Go.ConcX.EvS (v.heap.size+3) v.heap.size ⟨.cell x,bK,bK⟩:=fun x l=>Go.ConcX.Gen.evS_cell x bK bK (by omega) (by omega) (fun y i=>by
  simp only[aR,zp]at i;subst i;exact⟨fun⟨r,e,n⟩=>by cases e;rw[l]at n;exact absurd n B,fun⟨r,e,_⟩=>(by cases e),(by simp only[Loc.low];omega),fun r e=>(by cases e)⟩)
 have p:∀x:Addr,v.heap.size+1<=x.block->x.block<v.heap.size+3->Go.ConcX.EvS (v.heap.size+3) v.heap.size ⟨.cell x,bL,bK⟩:=fun x h1 h2=>Go.ConcX.Gen.evS_cell x bL bK (by omega) (by omega) (fun y i=>by
  simp only[aR,zp]at i;subst i;exact⟨fun⟨r,e,n⟩=>by cases e;have:=f _ n;omega,fun⟨r,e,_⟩=>(by cases e),(by simp only[Loc.low];omega),fun r e=>(by cases e)⟩)
 have s:We X (v.heap.size+4) (fun a=>∀C,v.heap.size<=C->Zw (v.heap.size+3) C a) 0 t:=(hP.mL fun a m C hC=>⟨fun⟨b,e,hb⟩=>by
   rw[e]at m;have:b.block<v.heap.size:=m;omega,fun e=>by
   rw[e]at m;have:C<v.heap.size:=m;omega⟩).mono<|by omega
 have j:=Hp (Stop:=fun g w=>∃c d,(c=7\/c=8)/\g=G ((base 136).at (pF Lb D _ (iD _ c) (gF _ c) _ bs ls cp) _) cs/\w=(eH v D cp c).at d) hE p hw F I L
  (fun c E d=>⟨c,d,E,rfl,rfl⟩) v.drawn
 obtain⟨T,ba,O,J,t1,q1,a1,r1,Y,s1,R,V,z1⟩:=xpz (sl:=sl) (fun e M=>⟨(Uh _ _ _ M).1,fun x l C _=>(Uh _ _ _ M).2 x l C⟩) j h0 hL s;obtain⟨c,d,E,rfl,hv⟩:=s1 O.drawn;have H:O=(eH v D cp c).at d:=hv;subst H;obtain⟨U,o,d2,K,t2,q2,x,y,r2,Z,Q,S,W,l,i⟩:=Ks (sl:=J) rfl Y R V fun d=>xmx _;rw[z1]at Q l i;exact⟨T+U,o,d2,K,t2,q2,c,x,y,E,ql r1 r2,Z,Q,S,W,l,i⟩
end
end
section
open Go.RowKit Go.Conc.Lib
open Go.ConcR (stA)
open Go.ConcN (sumTo)
variable [pn:Pn] [py:Go.ConcR.Payload]
def QO{t:Trace}{x y:MemOp}{n:Nat}(hx:x.act= .go n)(hy:y.act= .start)(i:Nat):Deaf (t++#[x,y]) i=Deaf t i:=by
 have a:(t++#[x,y])[t.size]?=bO x:=by simp
 have b:(t++#[x,y])[t.size+1]?=bO y:=by simp
 show(t++#[x,y]).deaf i (t++#[x,y]).size=t.deaf i t.size;rw[show(t++#[x,y]).size=t.size+1+1 by simp,deaf_succ b,deaf_succ a,deaf_old<|ze _];simp[deafStep,hx,hy]
section
variable {X:Nat->Prop} {gs:Array aS} {v:World} {t:Trace} {Lb D M clock:Nat} {es:Array aK} {rm nx:Value} {bs ls:Int} {cp:Nat} {cs:List Frame}
def xms{n:Array Zg}{d c:Nat}{q:Nat->Nat}{x y:MemOp}(G:c=7\/c=8)(z:0<gs.size)(B:n.size=gs.size)(E:Leavers bM t n q)(p:We X (v.heap.size+4) (fun a=>∀C,v.heap.size<=C->Zw (v.heap.size+3) C a) 0 t)(hx:x.g=0/\x.act= .go gs.size)(hy:y.g=gs.size/\y.act= .start)
  (s:∀x,X x->x<v.heap.size)(hD:v.heap[D]?=bO (.cells #[rm,.map<|bO M,nx] py.ety))(hM:v.heap[M]?=bO (.map es clock))(O:¬X D)(Q:¬X M)(Z:∀e∈es.toList,eZ e)
  (W:ls<9223372036854775807)(T:-9223372036854775808<=bs+1)(hn:bs+1+(cp:Int)=ls+1):
  ∃k,JC bM 286 (v.heap.size+3) (gF v.heap.size c) (Sx v.heap.size D c) D M gs.size (dY es (bs+1) cp) (ox<|(eH v D cp c).at d) (Xx X v.heap.size D M) t.size 0 0 k (n.push<|born bM<|call211 v.heap.size (iD v.heap.size c) (v.heap.size+3) (bs+1) ls) ((eH v D cp c).at d)<|t++#[x,y]:=by
 have I:D<v.heap.size:=(za.1 hD).1;have J:M<v.heap.size:=(za.1 hM).1;obtain⟨n1,n2,n3,n4⟩:=L_ v D cp G d;have oD:=(uQ v D cp G I d).trans hD;have oM:=(uQ v D cp G J d).trans hM;have hS:iD v.heap.size c=v.heap.size+1\/iD v.heap.size c=v.heap.size+2:=by unfold iD;split<;>simp
 have hC:gF v.heap.size c=v.heap.size+1\/gF v.heap.size c=v.heap.size+2:=by unfold gF;split<;>simp
 have ba:gF v.heap.size c≠iD v.heap.size c:=by unfold iD gF;split<;>omega
 have ox_of:∀{r:Nat} {o:Obj},((eH v D cp c).at d).heap[r]?=bO o->ox ((eH v D cp c).at d) r=o:=fun {r o} h=>by unfold ox;rw[h];rfl
 have kc:Kc (Sx v.heap.size D c) M (ox<|(eH v D cp c).at d)<|(eH v D cp c).at d:=by
  intro r w;have:∃o,((eH v D cp c).at d).heap[r]?=bO o:=by
   rcases w with(rfl|rfl|rfl)|rfl;exact⟨_,oD⟩;exact⟨_,n1⟩;exact⟨_,n3⟩;exact⟨_,oM⟩
  obtain⟨o,ho⟩:=this;rw[ho,ox_of ho]
 have K:Kn D M v.heap.size (iD v.heap.size c) (gF v.heap.size c) es (Sx v.heap.size D c)<|ox<|(eH v D cp c).at d:=⟨.inl rfl,.inr<|.inl rfl,.inr<|.inr rfl,⟨rm,nx,ox_of oD⟩,ox_of n1,ox_of n3,⟨clock,ox_of oM⟩,Z⟩;have H:=zwm (Wg:=v.heap.size+3) K W T cp hn kc;have Y:=eX es cp<|bs+1;have tp:TP (Xx X v.heap.size D M) (pK (Sx v.heap.size D c) M) (v.heap.size+3) (gF v.heap.size c) gs.size (stA<|v.heap.size+3) t.size ((eH v D cp c).at d).heap.size<|t++#[x,y]:=by
  rw[D9 v D cp G d];have L:We X (v.heap.size+4) (Zw (v.heap.size+3)<|gF v.heap.size c) 0 t:=⟨p.clean,p.known,p.over,p.deaf,p.seen,fun i a F=>p.EE i a F _<|by omega⟩;have nX:∀r,Sx v.heap.size D c r\/r=M->¬X r:=fun r w N=>by
   have:=s r N;rcases w with(rfl|rfl|rfl)|rfl
   exact O N;omega;omega;exact Q N
  refine TP.fork (TP.uK L (fun _ h=> .inl h) (fun h=>by have:=s _ h;omega) (fun l S=>?_) fun l S=>?_) (by omega) p.deaf (E.above _<|by omega) hx hy;rcases S with⟨a,rfl,F⟩|⟨r,rfl,w⟩
  exact⟨fun⟨b,e,hb⟩=>by cases e;exact nX _ F hb,fun⟨r,e,_⟩=>by cases e⟩;exact⟨fun⟨b,e,hb⟩=>(by cases e),fun⟨r',e,V⟩=>by cases e;exact nX _ w V⟩;rcases S with⟨a,rfl,F⟩|⟨r,rfl,w⟩<;>rfl
 have f:∀st m,9<=st->Ch bM 286 (v.heap.size+3) (gF v.heap.size c) (Sx v.heap.size D c) D M (ox<|(eH v D cp c).at d) 0 st m (dY es (bs+1) cp) (born bM<|call211 v.heap.size (iD v.heap.size c) (v.heap.size+3) (bs+1) ls) ((eH v D cp c).at d)->
   dU bM 286 (v.heap.size+3) (gF v.heap.size c) (Sx v.heap.size D c) D M gs.size (dY es (bs+1) cp) (ox<|(eH v D cp c).at d) (Xx X v.heap.size D M) t.size 0 0 0 st m (dY es (bs+1) cp) (born bM<|call211 v.heap.size (iD v.heap.size c) (v.heap.size+3) (bs+1) ls) q (n.push<|born bM<|call211 v.heap.size (iD v.heap.size c) (v.heap.size+3) (bs+1) ls) ((eH v D cp c).at d) (t++#[x,y]):=by
  intro st m bc R;refine⟨z,by simp[B],by rw[<-B];simp,fun i g hi bb hg=>?_,fun j hj=>?_,R,kc,⟨_,oD,rfl⟩,?_,Vj _,by simp,?_,fun _ _=>by omega,fun h=>absurd rfl h.1,tp,?_,?_,fun h=>by omega,by simp⟩;rw[QO hx.2 hy.2];refine E.old i g hi ?_;rw[jh,aB<|by omega]at hg;exact hg;rw[QO hx.2 hy.2];exact E.above j (by omega);rw[n2,Y];simp[show¬st<=8 by omega];show _=_;rw[n4];have h1:iE 0 st=4294967296:=by unfold iE;rw[aA<|.inl rfl,aB<|by omega];rfl
  have h2:gM 0 st=0:=by unfold gM;rw[aB<|by omega]
  rw[h1,h2];rfl;rw[QO hx.2 hy.2,p.deaf];rfl;rw[QO hx.2 hy.2];exact E.above _<|by omega
 cases hv:dY es (bs+1) cp with
 |nil=>
  rw[hv]at H f;obtain⟨m,U⟩:=H;exact⟨_,_,_,_,_,_,_,f 9 m (by omega)<|.cls U,rfl⟩
 |cons a vs=>
  rw[hv]at H f;obtain⟨m,U⟩:=H;exact⟨_,_,_,_,_,_,_,f _ m (by omega)<|.send U,rfl⟩
end
end
section
variable [pn:Pn] [py:Go.ConcR.Payload]
theorem zwz{X:ZP}{N D M c:Nat}(t:D<N)(v:M<N)(w:Pn.N<=N):q9 (Xx X N D M) (N+3) (gF N c) (Sx N D c) D M:=by
 have y:iD N c=N+1\/iD N c=N+2:=by unfold iD;split<;>simp
 have s:gF N c=N+1\/gF N c=N+2:=by unfold gF;split<;>simp
 have i:gF N c≠iD N c:=by unfold iD gF;split<;>omega
 have n:∀x,Sx N D c x\/x=M->Xx X N D M x:=fun x f=>by
  rcases f with(rfl|rfl|rfl)|rfl;exact .inr<|.inl rfl;exact .inr<|.inr<|.inr ⟨by omega,by omega⟩;exact .inr<|.inr<|.inr ⟨by omega,by omega⟩;exact .inr<|.inr<|.inl rfl
 have o:Xx X N D M<|N+3:= .inr (.inr<|.inr ⟨by omega,by omega⟩);have m:Xx X N D M<|gF N c:= .inr (.inr<|.inr ⟨by omega,by omega⟩);have j:∀x,Sx N D c x\/x=M->x≠gF N c:=fun x f=>by
  rcases f with(rfl|rfl|rfl)|rfl;omega;omega;exact i.symm;omega
 have k:∀x,Sx N D c x\/x=M->x≠N+3:=fun x f=>by
  rcases f with(rfl|rfl|rfl)|rfl<;>omega
 refine⟨⟨fun l d=>?_,o,fun l d q=>?_,fun d=>?_,m⟩,m,o,.inl rfl,j,by omega,k,by omega,by omega⟩;rcases d with⟨a,rfl,g⟩|⟨r,rfl,h⟩
 exact .inl ⟨a,rfl,n _ g⟩;exact .inr ⟨r,rfl,n _ h⟩;obtain⟨b,e,p⟩:=q;rcases d with⟨a,rfl,g⟩|⟨r,rfl,h⟩
 cases e;exact k _ g p;cases e;rcases d with⟨a,e,g⟩|⟨r,e,h⟩
 cases e;cases e;exact j _ h rfl
def MI:Obj:= .chan 0 #[] bK 0 0 bK
def CE(c:Nat):Nat->Obj
 |0=> .cells #[] 89
 |1=>if c=7 then MI else .cells #[] 278
 |2=>if c=7 then .cells #[] 278 else MI
 |_=> .cells #[] 286
def wF(w:Zy)(D M c:Nat):Zy:={w with heap:=((((((w.heap.setIfInBounds D<|.cells #[] py.ety).setIfInBounds M MI).push<|CE c 0).push<|CE c 1).push<|CE c 2).push<|CE c 3)}
def fE(w:Zy)(D M c:Nat):(wF w D M c).heap.size=w.heap.size+4:=by simp[wF]
def iP(w:Zy){D M c r:Nat}(d:r<w.heap.size)(a:r≠D)(b:r≠M):(wF w D M c).heap[r]?=w.heap[r]?:=by
 simp only[wF,jh,Xe,Xf];rw[aB<|by omega,aB<|by omega,aB<|by omega,aB<|by omega,zd<|aL b,zd<|aL a]
def Hq(w:Zy){D M c:Nat}(b:D<w.heap.size)(a:D≠M):(wF w D M c).heap[D]?=bO (.cells #[] py.ety):=by
 simp only[wF,jh,Xe,Xf];rw[aB<|by omega,aB<|by omega,aB<|by omega,aB<|by omega,zd<|aL a,zx b]
def Hr(w:Zy){D M c:Nat}(a:M<w.heap.size):(wF w D M c).heap[M]?=bO MI:=by
 simp only[wF,jh,Xe,Xf];rw[aB<|by omega,aB<|by omega,aB<|by omega,aB<|by omega,zx<|by simpa using a]
def BJ(w:Zy){D M c i:Nat}(a:i<4):(wF w D M c).heap[w.heap.size+i]?=bO (CE c i):=by
 simp only[wF,jh,Xe,Xf];have:i=0\/i=1\/i=2\/i=3:=by omega
 rcases this with rfl|rfl|rfl|rfl;rw[aB<|by omega,aB<|by omega,aB<|by omega,aA<|by omega];rw[aB<|by omega,aB<|by omega,aA<|by omega];rw[aB<|by omega,aA<|by omega];rw[aA<|by omega]
def Ue{P:Zp}:dL P<|bO MI:=⟨fun _ _ h=>(by cases h),fun _ h=>(by cases h),fun _ h=>(by cases h)⟩
def CM{P:Zp}(c i:Nat):dL P<|bO<|CE c i:=by
 unfold CE;split<;>(try split)<;>first|exact Ue|exact dL.cells
section
variable {P:aV} {X:Nat->Prop} {w v:World} {D M clock cp c d:Nat} {es:Array aK} {cs:Array Value}
theorem xof(h:Sm P X w v)(k:c=7\/c=8)(n:v.heap[D]?=bO (.cells cs py.ety))(m:v.heap[M]?=bO (.map es clock))(C:¬X D)(E:¬X M)(I:Pn.V D=v.heap[D]?)(J:Pn.V M=v.heap[M]?):
  Sm P (Xx X v.heap.size D M) (re (wF w D M c) v.tape d) ((eH v D cp c).at d):=by
 have p:D<v.heap.size:=(za.1 n).1;have q:M<v.heap.size:=(za.1 m).1;have l:D≠M:=by rintro rfl;rw[n]at m;cases m
 have j:=h.size;obtain⟨n1,x,y,H⟩:=L_ v D cp k d;refine⟨?_,fun r a=>?_,fun r a=>?_,fun r=>?_,?_,rfl,?_,?_,⟨?_,fun r a F=>?_⟩⟩
 case refine_8=>show _<=(wF w D M c).heap.size;have:=h.pin.1;rw[fE];omega
 case refine_9=>
  have L:=h.pin.1;show _\/_=(wF w D M c).heap[r]?;rw[uQ v D cp k (by omega) d];by_cases b:r=D;subst b;exact .inl I.symm;by_cases f:r=M;subst f;exact .inl J.symm;rw[iP w (by omega) b f];rcases a with a|a|a|⟨z,B⟩
  exact h.pin.2 r a F;exact absurd a b;exact absurd a f;omega
 rw[D9 v D cp k d];show _=(wF w D M c).heap.size;rw[fE,j];show _=(wF w D M c).heap[r]?;by_cases g:r<v.heap.size;rw[uQ v D cp k g d,iP w (by omega) (fun e=>a<|.inr<|.inl e) fun e=>a<|.inr<|.inr<|.inl e];exact h.out r fun G=>a<|.inl G;have t:v.heap.size+4<=r:=by
  apply jr;intro K;exact a<|.inr<|.inr<|.inr ⟨by omega,by omega⟩
 rw[ju<|by rw[D9 v D cp k d];exact t,ju<|by rw[fE];omega];show∃o o',(wF w D M c).heap[r]?=bO o/\_;by_cases b:r=D;subst b;exact⟨_,_,Hq w (by omega) l,(uQ v r cp k p d).trans n,.inr ⟨_,_,rfl,rfl⟩⟩;by_cases f:r=M;subst f;exact⟨_,_,Hr w<|by omega,(uQ v D cp k q d).trans m,.inl ⟨rfl,rfl⟩⟩;rcases a with a|a|a|⟨z,B⟩
 have g:=h.low r a;rw[iP w g b f,uQ v D cp k (by omega) d];exact h.dead r a;exact absurd a b;exact absurd a f;have s:r=v.heap.size+0\/r=v.heap.size+1\/r=v.heap.size+2\/r=v.heap.size+3:=by omega
 rcases s with rfl|rfl|rfl|rfl;exact⟨_,_,by rw[j];exact BJ w<|by omega,n1,.inr ⟨_,_,rfl,rfl⟩⟩;rcases k with rfl|rfl;exact⟨_,_,by rw[j];exact BJ w<|by omega,x,.inl ⟨rfl,rfl⟩⟩;exact⟨_,_,by rw[j];exact BJ w<|by omega,y,.inr ⟨_,_,rfl,rfl⟩⟩;rcases k with rfl|rfl;exact⟨_,_,by rw[j];exact BJ w<|by omega,y,.inr ⟨_,_,rfl,rfl⟩⟩;exact⟨_,_,by rw[j];exact BJ w<|by omega,x,.inl ⟨rfl,rfl⟩⟩;exact⟨_,_,by rw[j];exact BJ w<|by omega,H,.inr ⟨_,_,rfl,rfl⟩⟩;show dL P (wF w D M c).heap[r]?;by_cases g:r<w.heap.size;by_cases f:r=M;subst f;rw[Hr w g];exact Ue;by_cases b:r=D;subst b;rw[Hq w g l];exact dL.cells;rw[iP w g b f];exact h.oks r;by_cases t:r<w.heap.size+4;obtain⟨i,s,rfl⟩:∃i,i<4/\r=w.heap.size+i:=⟨r-w.heap.size,by omega,by omega⟩;rw[BJ w s];exact CM c i;rw[ju<|by rw[fE];omega];exact dL.none;rcases k with rfl|rfl<;>rfl
 have e:((eH v D cp c).at d).os=v.os:=by rcases k with rfl|rfl<;>rfl
 rw[e];exact h.os;have e:((eH v D cp c).at d).output=v.output:=by rcases k with rfl|rfl<;>rfl
 rw[e];exact h.output
end
end
section
open Go.ConcN (sumTo WgLive PayAt)
open Go.ConcR (WgAt stA Payload)
variable [pn:Pn]
section
variable [Payload] {P:aV} {ty:TypeId} {Wg C:Nat} {S:Nat->Prop} {D M c:Nat} {vals:List Value} {o:Nat->Obj} {X:Nat->Prop} {p rg r:Nat}
variable {d st m:Nat} {left:List Value} {b g0:aS} {q:Nat->Nat} {gs:Array aS} {v:World} {t:Trace}
def xur(B:q9 X Wg C S D M)(h:dU P ty Wg C S D M c vals o X p rg r d st m left b q gs v t)(h0:gs[0]?=bO g0){g':Zg}{a:Addr}(O:S a.block){f:Zg->Zg}(Q:f=woken P g0 g' v\/f=id):
  dU P ty Wg C S D M c vals o X p rg r d st m left b q ((gs.map f).setIfInBounds 0 g') v (t++bD 0 g0.frame.fn g0.frame.place #[⟨.cell a,bK,bK⟩]):=by
 have k:c≠0:=Xh h.pos;have F:a.block<v.heap.size:=(za.1<|h.kc _<|.inl O).1;have E:∀{n d} {x:Zg},QuitsD P n d x->f x=x:=fun s=>by
  rcases Q with rfl|rfl;exact woken_quitsD s;rfl
 have I:∀{x:Zg},x.status= .running->f x=x:=fun s=>by
  rcases Q with rfl|rfl;exact woken_run s;rfl
 refine⟨h.pos,by simp[h.size],?_,fun i g R J H=>?_,fun j V=>?_,h.ch,h.kc,h.pay,h.chan,h.nV,h.lefts,h.wg,h.kH,h.kG,?_,?_,?_,fun U=>?_,by have:=h.pt;simp;omega⟩;rw[zd<|aL k,jj,h.hb];simp only[js,zp];rcases h.ch.awake with e|e
 exact I e;cases h.ch with
 |out hq2=>exact E hq2
 |_=>
  rename_i hG
  first
   |(have:=qr (fun _ _ x=>x.1) (fun _ x=>x) hG;rw[e]at this;cases this)
   |(have:=qr (fun _ _ x=>x.1) Y9 hG;rw[e]at this;cases this)
 rw[zd<|by omega,jj]at H;obtain⟨y,Z,rfl⟩:=zt.1 H;have s:=h.old i y R J Z;rw[E s,aG t (g':=0) (by omega) _ fZ];exact s;rw[aG t (g':=0) (by omega) _ fZ];exact h.above j V
 ·have K:pK S M<|.cell a:= .inl ⟨a,rfl,.inl O⟩
  refine h.tp.app B.apart (.inl rfl) fZ (fun T l x G hm=>?_) (fun T l x G=>?_) (fun T l e=>?_) BI
  all_goals obtain⟨ev,w,rfl⟩:=zy l
  all_goals (rw[Array.mem_singleton]at w;subst w)
  simp only[ofEvent_cell0,aR,zp]at G;subst G;exact .inl ⟨rfl,.inr K,fun _=> .inl rfl,fun⟨r1,e,_⟩ _=>rfl⟩;simp only[ofEvent_cell0,aR,zp]at G;subst G;exact F;cases e
 rw[Deaf_own,deafBehind_still fun e w=>by rw[Array.mem_singleton]at w;subst w;exact⟨by simp,by simp⟩];exact h.deaf0;rw[aG t (g':=0) (aL k) _ fZ];exact h.eD;obtain⟨rr,W,Y⟩:=h.rel U;refine⟨rr,W,Y.app fun i R H _=>?_⟩;obtain⟨z,hz,L⟩:=zt.1 H;rcases getElem?_append_cases hz with⟨F,_⟩|⟨_,N⟩
 omega;exact k<|L.symm.trans<|fZ z N
end
end
section
open Go.ConcN (sumTo)
open Go.ConcR (Payload)
variable [pn:Pn]
section
variable {G:Zg→Zy→Nat→Prop}
section
variable {P:aV} {X:Nat->Prop} {J:Nat×Nat->Array aS->World->Trace->Prop}
def Cj(c:BD P X J){g g':Zg}{w:Zy}{es:Array Event}(b:g.status= .running)(x:g.dying=bN)
  (l:∀k gs v t,J k gs v t->aZ P bL g v= .go g' v es)
  (o:∀k gs v t,J k gs v t->gs[0]?=bO g->J k ((gs.map<|woken P g g' v).setIfInBounds 0 g') v (t++bD 0 g.frame.fn g.frame.place es))
  {k:Nat×Nat}{gs:Array Zg}{v:Zy}{sl:Option<|Nat×Nat}{t:Trace}(D:J k gs v t)(m:gs[0]?=bO g)(G:Sm P X (re w v.tape v.drawn) v):
  ∃N gs' v' sl' t' k',runNT P N (crowd gs v sl) t=(.next<|crowd gs' v' sl',t')/\J k' gs' v' t'/\gs'[0]?=bO g'/\Sm P X (re w v'.tape v'.drawn) v':=by
 induction k using BO.induction generalizing gs v sl t with
 |_ k ih=>
  have s:∀g∈gs,awake g:=by
   intro q f;obtain⟨i,h,rfl⟩:=Z1.1 f;rcases jl i with rfl|a
   have:gs[0]=g:=by simpa[xg h]using m
   rw[this];exact awake_of<|.inl b;exact c.awake k gs v t D i _ a<|xg h
  obtain⟨i,q,d,sl',h,f,p⟩:=crowd_pick (P:=P) (w:=v) (sl:=sl) s ⟨0,g,m,b⟩;have e:=c.drawn k gs v t d D;have n:Sm P X (re w v.tape d)<|v.at d:=G.re _ d;rcases jl i with rfl|a
  obtain rfl:q=g:=by rw[m]at h;exact(jf h).symm
  have j:=runT_crowd_go (sl:=sl') h (show aZ P _ q _=_ from l _ _ _ _ e);have y:0<gs.size:=(za.1 m).1;exact⟨1,_,v.at d,sl',_,k,by simp only[runNT,p,j],o _ _ _ _ e m,by simp[y],n⟩;obtain⟨gs',v',B,z,k',I,K,L,M,O⟩:=c.other k gs (v.at d) t i q g sl' e a h f m b x;obtain⟨N,r,R,C,Q,H,E,F⟩:=ih k' K (t:=t++z) (sl:=B) M L<|O w n;exact⟨1+N,r,R,C,Q,H,ql (by simp only[runNT,p,I]) E,F⟩
end
section
variable [Payload] {P:aV} {ty:TypeId} {Wg C:Nat} {S:Nat->Prop} {D M c:Nat} {vals:List Value} {o:Nat->Obj} {X:Nat->Prop} {p rg r:Nat} {g g':aS} {w:World}
def RC(P:Zp)(ty:Zt)(Wg C:Nat)(S:ZP)(D M c:Nat)(vals:Ze)(o:Nat->Obj)(X:ZP)(p rg r:Nat)(g:Zg)(w:Zy)(G:Zg->Zy->Nat->Prop):Prop:=
 ∀k gs v sl t,JC P ty Wg C S D M c vals o X p rg r k gs v t->gs[0]?=bO g->Sm P X (re w v.tape v.drawn) v->
  ∃N gs' v' sl' t' k' g' w' r',runNT P N (crowd gs v sl) t=(.next<|crowd gs' v' sl',t')/\JC P ty Wg C S D M c vals o X p rg r' k' gs' v' t'/\gs'[0]?=bO g'/\Sm P X (re w' v'.tape v'.drawn) v'/\G g' w' r'
theorem RC.refl(h:G g w r):RC P ty Wg C S D M c vals o X p rg r g w G:=fun k a v f t d b e=>⟨0,a,v,f,t,k,g,w,r,rfl,d,b,e,h⟩
def RC.trans{G G':Zg->Zy->Nat->Prop}(h:RC P ty Wg C S D M c vals o X p rg r g w G)(k:∀g' w' r',G g' w' r'->RC P ty Wg C S D M c vals o X p rg r' g' w' G'):RC P ty Wg C S D M c vals o X p rg r g w G':=fun F y v K t B z E=>by
 obtain⟨N,a,Q,d,L,H,U,w1,V,i,j,l,m,n⟩:=h F y v K t B z E;obtain⟨f,b,R,e,O,I,x,T,J,q,s⟩:=k _ _ _ n H a Q d L j l m;exact⟨N+f,b,R,e,O,I,x,T,J,ql i q,s⟩
theorem RC.ctl(B:q9 X Wg C S D M)(a:g.status= .running)(l:g.dying=bN)(R:∀v,aZ P bL g v= .go g' v)(Q:RC P ty Wg C S D M c vals o X p rg r g' w G):RC P ty Wg C S D M c vals o X p rg r g w G:=fun k K v sl t L j O=>by
 obtain⟨N,f,Z,n,W,T,y,z,E,F⟩:=Cj (sl:=sl) (Yi B) a l (fun _ _ v _ _=>R v) (fun k K v t ⟨d,st,m,left,b,q,h,e⟩ j=>⟨d,st,m,left,b,q,Fv B h j (fun _ _=>rfl) (by simp) (ze _)<|.inl rfl,e⟩) L j O;obtain⟨x,i,v2,s,Y,U,J,w2,V,H,I⟩:=Q T f Z n W z E F;exact⟨N+x,i,v2,s,Y,U,J,w2,V,ql y H,I⟩
def RC.read(B:q9 X Wg C S D M)(f:g.status= .running)(n:g.dying=bN){a:Addr}(R:S a.block)(U:∀v,Kc S M o v->aZ P bL g v= .go g' v #[⟨.cell a,bK,bK⟩])(T:RC P ty Wg C S D M c vals o X p rg r g' w G):RC P ty Wg C S D M c vals o X p rg r g w G:=fun k L v sl t O l Q=>by
 obtain⟨N,i,v1,s,Z,V,z,E,F,H⟩:=Cj (sl:=sl) (Yi B) f n (fun _ _ v _ ⟨d,st,m,left,b,q,h,e⟩=>U v h.kc) (fun k L v t ⟨d,st,m,left,b,q,h,e⟩ l=>⟨d,st,m,left,b,q,xur B h l R<|.inl rfl,e⟩) O l Q;obtain⟨y,j,v2,x,t2,W,K,w2,Y,I,J⟩:=T V i v1 s Z E F H;exact⟨N+y,j,v2,x,t2,W,K,w2,Y,ql z I,J⟩
end
end
end
section
open Go.ConcR (Payload)
variable [pn:Pn]
section
variable {P:aV} {C:Nat} {z:Value} {b:Frame} {a:Act} {k:List Item} {cs:List Frame} {ops:Array aD} {i:Nat} {rest:List Nat} {op:aD} {t e:TypeId} {x:Operand} {dir:ChanDir}
def So(ho:ops[i]?=bO op)(hw:aX op (yielded ops a.tmps)=bL)(hk:b.kind≠ .early)(hop:op.op= .recv t x bL)(hx:a.eval x= .chan (bO C))(c:P.underlying t=bO (.chan dir e))(g:∀v,(zeroValue e).run P v= .ok z v):
  xJ P C z (G (b.at a (.inRegion ops (i::rest)::k)) cs) (G (b.at a (.inRegion ops (i::rest)::k)) cs):=by
 refine⟨rfl,rfl,fun v=>?_⟩;have f:(bG a.eval op).run P v= .ok (.comm #[rcase C z] bL<|.recv bL) v:=by
  unfold bG;simp only[hop,hx];simp[xm c,g,rcase]
 have d:(bG a.eval op).events P v #[]=#[]:=by
  unfold bG;simp only[hop,hx];simp[xm c,Xr]
 rw[stepG_comm ho hw hk f];unfold listed;rw[d,seen_none]
def xJ.parked{fr:Zf}(h:xJ P C z (G fr cs)<|G fr cs):xJ P C z (G fr cs) {Conc.parked (G fr cs) #[rcase C z] (.recv bL)with status:= .running}:=
 ⟨rfl,rfl,fun v=>h.st v⟩
end
section
variable [Payload] {P:aV} {ty:TypeId} {Wg C:Nat} {S:Nat->Prop} {D M c:Nat} {vals:List Value} {o:Nat->Obj} {X:Nat->Prop} {p rg r:Nat} {w:World} {z:Value} {fr:Frame} {cs:List Frame}
def RC.recv(B:q9 X Wg C S D M){G':Zg->Zy->Nat->Prop}(h:xJ P C z (G fr cs)<|G fr cs)(F:RC P ty Wg C S D M c vals o X p rg (vO vals r) (Conc.served (G fr cs)<|got vals z r) w G'):RC P ty Wg C S D M c vals o X p rg r (G fr cs) w G':=fun k s v K t y x E=>by
 obtain⟨N,a,Q,d,L,H,g,i,j,l⟩:=(Fc B h.parked k).1 s v K t _ h y x E;obtain⟨f,b,R,e,O,I,q,T,J,m,n⟩:=F H a Q d L i j l;exact⟨N+f,b,R,e,O,I,q,T,J,ql g m,n⟩
end
end
section
open Go.ConcN (sumTo)
open Go.ConcR (Payload)
variable [pn:Pn]
section
variable {G':Zg→Zy→Nat→Prop}
section
variable {P:aV} {X:Nat->Prop} {J:Nat×Nat->Array aS->World->Trace->Prop}
def O6(c:BD P X J){g g':Zg}{w w':Zy}(a:g.status= .running)(j:g'.status= .running)(B:g.dying=bN)
  (m:∀v,Sm P X (re w v.tape v.drawn) v->∃v' es,aZ P bL g v= .go g' v' es/\Sm P X (re w' v'.tape v'.drawn) v'/\(∀x,X x->v'.heap[x]?=v.heap[x]?)/\(∀e∈es,qI X v'.heap.size e)/\v.heap.size<=v'.heap.size)
  {k:Nat×Nat}{gs:Array Zg}{v:Zy}{sl:Option<|Nat×Nat}{t:Trace}(I:J k gs v t)(n:gs[0]?=bO g)(O:Sm P X (re w v.tape v.drawn) v):
  ∃N gs' v' sl' t' k',runNT P N (crowd gs v sl) t=(.next<|crowd gs' v' sl',t')/\J k' gs' v' t'/\gs'[0]?=bO g'/\Sm P X (re w' v'.tape v'.drawn) v':=by
 induction k using BO.induction generalizing gs v sl t with
 |_ k ih=>
  have z:∀g∈gs,awake g:=by
   intro o f;obtain⟨i,h,rfl⟩:=Z1.1 f;rcases jl i with rfl|b
   have:gs[0]=g:=by simpa[xg h]using n
   rw[this];exact awake_of<|.inl a;exact c.awake k gs v t I i _ b<|xg h
  obtain⟨i,o,d,sl',h,f,r⟩:=crowd_pick (P:=P) (w:=v) (sl:=sl) z ⟨0,g,n,a⟩;have p:=c.drawn k gs v t d I;have q:Sm P X (re w v.tape d)<|v.at d:=O.re _ d;rcases jl i with rfl|b
  obtain rfl:o=g:=by rw[n]at h;exact(jf h).symm
  obtain⟨v',es,K,y,hk,C,E⟩:=m (v.at d) q;have l:=runT_crowd_go (sl:=sl') h (show aZ P _ o _=_ from K);have D:0<gs.size:=(za.1 n).1;exact⟨1,_,v',sl',_,k,by simp only[runNT,r,l],c.own k gs _ t o g' v' es p n K a j hk C E,by simp[D],y⟩;obtain⟨gs',v',G,F,k',R,S,T,U,V⟩:=c.other k gs (v.at d) t i o g sl' p b h f n a B;obtain⟨N,s,Y,H,W,Q,L,M⟩:=ih k' S (t:=t++F) (sl:=G) U T<|V w q;exact⟨1+N,s,Y,H,W,Q,ql (by simp only[runNT,r,R]) L,M⟩
end
section
variable [Payload] {P:aV} {F:Array Func} {ty:TypeId} {Wg C:Nat} {S:Nat->Prop} {D M c:Nat} {vals:List Value} {o:Nat->Obj} {X:Nat->Prop} {p rg r:Nat} {w w':World} {b:Frame} {a:Act} {k:List Item} {cs:List Frame} {ops:Array aD} {i:Nat} {rest:List Nat} {op:aD}
def RC.value(B:q9 X Wg C S D M)(K:J0 P F){val:Zv}(ho:ops[i]?=bO op)(hw:aX op (yielded ops a.tmps)=bL)(hk:b.kind≠ .early)(y:qM P op.op=bL)
  (m:∀t d,(bG a.eval op).run (wf P F) (re w t d)= .ok (.value val) (re w' t d))(hn:RC P ty Wg C S D M c vals o X p rg r (G (b.at (a.put op.dst val) (.inRegion ops rest::k)) cs) w' G'):
  RC P ty Wg C S D M c vals o X p rg r (G (b.at a (.inRegion ops (i::rest)::k)) cs) w G':=fun k0 gs v sl t hJ Y x=>by
 obtain⟨N,q,v1,z,t1,k1,H,L,O,Q⟩:=O6 (w':=w') (sl:=sl) (Yi B) (g':=G (b.at (a.put op.dst val) (.inRegion ops rest::k)) cs) rfl rfl rfl (fun v x=>by
  obtain⟨n,ba,g⟩:=(EF (K.fit X) a.eval op y).gJ (re w v.tape v.drawn) v #[] x (by rw[m];trivial) (fun f H w1 h=>by rw[m]at h;cases h);obtain⟨I,Z⟩:=g.run;rw[m]at I;have l:=g.sm;rw[m]at l;have j:Sm P X (re w' v.tape v.drawn) n:=l;refine⟨n,listed P b.fn a op v,stepG_value ho hw hk I,?_,g.kept,fun e he=>?_,g.grows⟩;have U:n.tape=v.tape:=j.tape;have V:n.drawn=v.drawn:=j.drawn;rw[U,V];exact j;have:=mem_listed he;rw[Z]at this;exact g.evs e this) hJ Y x
 obtain⟨J,s,v2,E,t2,k2,W,w2,r2,R,T⟩:=hn k1 q v1 z t1 L O Q;exact⟨N+J,s,v2,E,t2,k2,W,w2,r2,ql H R,T⟩
def RC.none(B:q9 X Wg C S D M)(K:J0 P F)(ho:ops[i]?=bO op)(hw:aX op (yielded ops a.tmps)=bL)(hk:b.kind≠ .early)(y:qM P op.op=bL)
  (m:∀t d,(bG a.eval op).run (wf P F) (re w t d)= .ok .skip (re w' t d))(hn:RC P ty Wg C S D M c vals o X p rg r (G (b.at (a.put op.dst bJ) (.inRegion ops rest::k)) cs) w' G'):
  RC P ty Wg C S D M c vals o X p rg r (G (b.at a (.inRegion ops (i::rest)::k)) cs) w G':=fun k0 gs v sl t hJ Y x=>by
 obtain⟨N,q,v1,z,t1,k1,H,L,O,Q⟩:=O6 (w':=w') (sl:=sl) (Yi B) (g':=G (b.at (a.put op.dst bJ) (.inRegion ops rest::k)) cs) rfl rfl rfl (fun v x=>by
  obtain⟨n,ba,g⟩:=(EF (K.fit X) a.eval op y).gJ (re w v.tape v.drawn) v #[] x (by rw[m];trivial) (fun f H w1 h=>by rw[m]at h;cases h);obtain⟨I,Z⟩:=g.run;rw[m]at I;have l:=g.sm;rw[m]at l;have j:Sm P X (re w' v.tape v.drawn) n:=l;refine⟨n,listed P b.fn a op v,stepG_none ho hw hk I,?_,g.kept,fun e he=>?_,g.grows⟩;have U:n.tape=v.tape:=j.tape;have V:n.drawn=v.drawn:=j.drawn;rw[U,V];exact j;have:=mem_listed he;rw[Z]at this;exact g.evs e this) hJ Y x
 obtain⟨J,s,v2,E,t2,k2,W,w2,r2,R,T⟩:=hn k1 q v1 z t1 L O Q;exact⟨N+J,s,v2,E,t2,k2,W,w2,r2,ql H R,T⟩
end
end
end
section
open Go.ConcR (Payload)
variable [pn:Pn]
section
variable {G':Zg→Zy→Nat→Prop}
section
variable [Payload] {P:aV} {F:Array Func} {dm:Frame} {ty:TypeId} {Wg C:Nat} {S:Nat->Prop} {D M c:Nat} {vals:List Value} {o:Nat->Obj} {X:Nat->Prop} {p rg r:Nat} {w:World}
def RC.lift(B:q9 X Wg C S D M)(K:J0 P F)(j:gN P dm){End:Zg->Zy->Prop}(n:∀g w t d,End g (A.re w t d)↔End g w)(h:∀g w,End g w->¬sW P g)
  {fr:Zf}{cs:List Zf}(m:Xv P fr\/∃f a,Ys P F f/\Mc P f/\fr=bF (wf P F) f a .normal)(i:∀x∈cs,fK P x)(hk:fr.kind= .normal)(b:∀t d,∃fr' cs' w',Steps (wf P F) (lone fr [dm]<|A.re w t d) (lone fr' cs' w')/\End (Z0 fr' cs') w'):
  RC P ty Wg C S D M c vals o X p rg r (Z0 fr cs) w (fun g2 w' r'=>r'=r/\∃g' l,End g' w'/\g'.callers=l++[dm]/\g2={g' with callers:=l++cs}):=fun k U v sl t G E H=>by
 obtain⟨N,e,T,q,R,I,g',w',g2,J,L,O,Q,s⟩:=A.lift (sl:=sl) K j (Yi B) n h m hk b i G E H;obtain⟨l,y,z,_⟩:=s.top;exact⟨N,e,T,q,R,I,g2,w',r,J,L,O,s.sm,rfl,g',l,Q,y,z⟩
def RC.calls(B:q9 X Wg C S D M)(K:J0 P F)(y:gN P dm){f:FuncId}{args:Za}{cs:List Zf}{R:(Nat->Question->Nat)->Nat->Ending->Zy->Prop}(I:Ys P F f)(s:∀x∈cs,fK P x)(H:∀t d w',¬R t d .outgrown w')
  (h:∀t d,Calls (wf P F) f args (A.re w t d)<|R t d):
  RC P ty Wg C S D M c vals o X p rg r (Z0 (bF P f args .normal) cs) w (fun g' w' r'=>r'=r/\∃e fr,(∃t d t1 d1,R t d e<|A.re w' t1 d1)/\g'=Z0 fr cs/\fr.fn=f/\zK P F fr w' e):=by
 have z:bF (wf P F) f args .normal=bF P f args .normal:=zdt I.1 args _;have G:Xv P (bF P f args .normal)\/∃f' a,Ys P F f'/\Mc P f'/\bF P f args .normal=bF (wf P F) f' a .normal:=by
  by_cases J:Mc P f;exact .inr ⟨f,args,I,J,z.symm⟩;left;rw[<-z];exact j_ K.codes I J args ⟨by simp,by simp⟩
 refine(RC.lift B K y
  (End:=fun g' w'=>∃e fr t d t1 d1,R t d e (A.re w' t1 d1)/\e≠ .outgrown/\g'=Z0 fr [dm]/\fr.fn=f/\fr.leaving (wf P F) (A.re w' t1 d1) e) (fun g' w' t d=>Iff.rfl) ?_ G s rfl ?_).trans ?_
 rintro g' w' ⟨e,fr,t,d,t1,d1,_,i,rfl,_,k⟩ ⟨_,hd⟩;cases e with
 |outgrown=>exact i rfl
 |returned v=>
  obtain⟨a,b,_⟩:=k;rcases hd with⟨j,_⟩|⟨_,j,_⟩
  have g:fr.mode= .run:=j;rw[a]at g;cases g;have g:fr.defers=[_]:=j;rw[b]at g;cases g
 |panicked c=>
  obtain⟨a,b,_⟩:=k;rcases hd with⟨j,_⟩|⟨_,j,_⟩
  have g:fr.mode= .run:=j;rw[a]at g;cases g;have g:fr.defers=[_]:=j;rw[b]at g;cases g
 intro t d;obtain⟨e,w',fr,n,q,E,k⟩:=h t d [dm];rw[z]at q;have i:e≠ .outgrown:=by rintro rfl;exact H _ _ _ n
 refine⟨fr,[dm],w',?_,e,fr,t,d,w'.tape,w'.drawn,n,i,rfl,E,k⟩;cases e with
 |outgrown=>exact absurd rfl i
 |returned v=>exact q
 |panicked c=>exact q
 rintro O w' r' ⟨rfl,g',l,⟨e,fr,t,d,t1,d1,n,i,rfl,E,k⟩,m,rfl⟩;have:l=[]:=by
  have L:[dm]=l++[dm]:=m;have:=congrArg List.length L;simp only[zj,jd]at this;exact xa<|by omega
 subst this;exact .refl ⟨rfl,e,fr,⟨t,d,t1,d1,n⟩,rfl,E,i,t1,d1,k⟩
end
section
variable [Payload] {P:aV} {F:Array Func} {ty:TypeId} {Wg C:Nat} {S:Nat->Prop} {D M c:Nat} {vals:List Value} {o:Nat->Obj} {X:Nat->Prop} {p rg r:Nat} {w:World} {fr c0:Frame} {cs:List Frame}
def RC.ret(B:q9 X Wg C S D M){val:Zv}(hp:Ys P F fr.fn)(h:zK P F fr w<|.returned val)(hn:RC P ty Wg C S D M c vals o X p rg r (Z0 (c0.finish val) cs) w G'):RC P ty Wg C S D M c vals o X p rg r (Z0 fr (c0::cs)) w G':=fun k0 gs v sl t hJ Z i=>by
 obtain⟨_,t0,d0,G,H,I,fn,J,K⟩:=h;have j:P.funcs[fr.fn]?=bO fn:=by rw[<-hp.1];exact J
 obtain⟨N,k,v1,x,t1,k1,L,O,Q,R⟩:=O6 (w':=w) (sl:=sl) (Yi B) (g:=Z0 fr (c0::cs)) (g':=Z0 (c0.finish val) cs) rfl rfl rfl (fun v i=>by
  have q:Sm P X w w:=i.self.re _ _;have n:=Oo q K v.tape v.drawn;obtain⟨f,s,a⟩:=(QM (P:=P) (F:=F) (X:=X) fn fr.tmps).gJ (re w v.tape v.drawn) v #[] i (by rw[n];trivial);obtain⟨z,h2⟩:=a.run;rw[n]at z;have d:=a.sm;rw[n]at d;have b:Sm P X (re w v.tape v.drawn) f:=d;refine⟨f,seen P fr.fn s,?_,?_,a.kept,fun e he=>a.evs e<|mem_seen he,a.grows⟩;have m:(aN fn fr.tmps).run P v= .ok val f:=z;simp only[aZ,Z0,aI,doReturn,G,H,I,j,zg,m,h2];rfl;have V:f.tape=v.tape:=b.tape;have W:f.drawn=v.drawn:=b.drawn;rw[V,W];exact b) hJ Z i
 obtain⟨E,l,v2,y,t2,k2,Y,w2,r2,T,U⟩:=hn k1 k v1 x t1 O Q R;exact⟨N+E,l,v2,y,t2,k2,Y,w2,r2,ql L T,U⟩
def RC.raise(B:q9 X Wg C S D M){a:List PanicEntry}(h:zK P F fr w<|.panicked a)(b:∃fn,P.funcs[fr.fn]?=bO fn)(f:RC P ty Wg C S D M c vals o X p rg r (Z0 (c0.raise a) cs) w G'):RC P ty Wg C S D M c vals o X p rg r (Z0 fr (c0::cs)) w G':=by
 obtain⟨_,i,g,d,e,_⟩:=h;obtain⟨fn,b⟩:=b;refine RC.ctl B rfl rfl (fun v=>?_) f;simp[aZ,Z0,aI,Frame.catches,d,e,b]
end
end
end
section
open Go.RowKit Go.Conc.Lib
variable [pn:Pn] [py:Go.ConcR.Payload]
section
variable {a:Act} {sv:Zv}
noncomputable def LB:=Ql<|Qk<|Qb K5
noncomputable def xC(Lb D Bd Bs C Wg:Nat)(bs ls:Int)(cp:Nat)(y6 y29 y30 y31 y32 gV y34:Zv):Act:=⟨#[zo Lb,zo D,bJ,zo Bd,zo Bs,zo Wg,y6,zo Lb,zo Lb,zk Lb 12,zi ls,zo Lb,zo Lb,zk Lb 11,zi bs,zi cp,.chan<|bO C,.tuple #[],.func (.func 211) #[] #[zo Wg,zo Bs,zo Bd],zo Lb,zo Lb,zk Lb 11,zi bs,zi<|bs+1,zo Lb,zo Lb,zk Lb 12,zi ls,.chan<|bO C,y29,y30,y31,y32,gV,y34],[dcall 209 #[zo Wg]]⟩
section
variable {S:Nat->Prop} {o:Nat->Obj} {X:Nat->Prop} {D M Bd Bs C Wg c p r Lb cp:Nat} {es:Array aK} {vals:List Value} {w:World} {bs ls:Int} {cs:List Frame} {G':aS->World->Nat->Prop}
def RC.pure(B:q9 X Wg C S D M){b:Zf}{k:List Item}{ops:Array aD}{i:Nat}{rest:List Nat}{op:aD}(v:Zv)(ho:ops[i]?=bO op)(hw:aX op (yielded ops a.tmps)=bL)(hk:b.kind≠ .early)
  (f:∀w,(bG a.eval op).run bM w= .ok (.value v) w)(d:∀w,(bG a.eval op).events bM w #[]=#[])
  (e:RC bM 286 Wg C S D M c vals o X p 0 r (G (b.at (a.put op.dst v) (.inRegion ops rest::k)) cs) w G'):RC bM 286 Wg C S D M c vals o X p 0 r (G (b.at a (.inRegion ops (i::rest)::k)) cs) w G':=
 RC.ctl B rfl rfl (fun v=>by rw[stepG_value ho hw hk<|f v];unfold listed;rw[d v,seen_none]) e
theorem xm8(B:q9 X Wg C S D M)(K:Kn D M Bd Bs C es S o)
  (f:RC bM 286 Wg C S D M c vals o X p 0 r (G ((base 136).at (xC Lb D Bd Bs C Wg bs ls cp bJ bJ bJ bJ bJ bJ bJ) [.code LB,.inLoop LB,.inBlock 0]) cs) w G'):
  RC bM 286 Wg C S D M c vals o X p 0 r (G ((base 136).at (pF Lb D Bd Bs C Wg bs ls cp) [.inRegion nO [],.code K5]) cs) w G':=by
 have d:K5= .seq (.region 6 #[{dst:=bO 28,op:=Op.load 278<|Operand.tmp 4,type:=278,pos:= "look.go:84",after:=#[],guard:=bN}] bK) (.block 0<|.loop LB):=by kernel_rfl
 rw[d];refine RC.ctl B rfl rfl (fun _=>bB) ?_;refine RC.ctl B rfl rfl (fun _=>aO) ?_
 (refine RC.ctl B rfl rfl (fun _=>stepG_region) ?_;simp only[jg,zh,jn,Nat.reduceAdd,jy,List.range,List.range.loop])
 refine RC.read B (g':=G ((base 136).at (xC Lb D Bd Bs C Wg bs ls cp bJ bJ bJ bJ bJ bJ bJ) [.inRegion #[{dst:=bO 28,op:=Op.load 278<|Operand.tmp 4,type:=278,pos:= "look.go:84",after:=#[],guard:=bN}] [],.code<|.block 0<|.loop LB]) cs) (a:=zq Bs 0) rfl rfl K.ss (fun v hk=>?_) ?_
 ·have b:=K.oL hk
  have g:(bG (pF Lb D Bd Bs C Wg bs ls cp).eval {dst:=bO 28,op:=Op.load 278<|Operand.tmp 4,type:=278,pos:= "look.go:84",after:=#[],guard:=bN}).run bM v= .ok (.value<|.chan<|bO C) v:=by
   unfold bG;simp only[pF];simp[go_sem,b]
  have e:(bG (pF Lb D Bd Bs C Wg bs ls cp).eval {dst:=bO 28,op:=Op.load 278<|Operand.tmp 4,type:=278,pos:= "look.go:84",after:=#[],guard:=bN}).events bM v #[]=#[⟨.cell<|zq Bs 0,bK,bK⟩]:=by
   unfold bG;simp only[pF];simp[go_sem,b]
  rw[stepG_value rfl rfl (by decide) g];unfold listed;rw[e,seen_eq (by kernel_rfl)<|by simp];rfl
 refine RC.ctl B rfl rfl (fun _=>bB) ?_;refine RC.ctl B rfl rfl (fun _=>stepG_block) ?_;refine RC.ctl B rfl rfl (fun _=>stepG_loop) ?_;exact f
end
def WS:Array aD:=#[{dst:=bO 29,op:=Op.recv 278 (Operand.tmp 28) bL,type:=0,pos:= "look.go:84",after:=#[],guard:=bN},{dst:=bO 30,op:=Op.extract (Operand.tmp 29) 1,type:=4,pos:= "look.go:84",after:=#[{on:=0,ground:=Ground.data}],guard:=bN}]
def xxe:aD:={dst:=bO 30,op:=Op.extract (Operand.tmp 29) 1,type:=4,pos:= "look.go:84",after:=#[{on:=0,ground:=Ground.data}],guard:=bN}
def Gz{op:aD}{tt:Bool}(hop:op.op=Op.extract (Operand.tmp 29) 1)(h:a.eval (.tmp 29)= .tuple #[sv,.bool tt])(w:Zy):(bG a.eval op).run bM w= .ok (.value<|.bool tt) w/\(bG a.eval op).events bM w #[]=#[]:=by
 unfold bG;simp only[hop,h];exact⟨by simp[go_sem],by simp[go_sem]⟩
noncomputable def MQ:=Qk<|Qb<|Qb LB
def xs9:LB= .seq (.region 7 WS bK) (.seq (.cond (.tmp 30) .skip<|.exit 0)<|.block 1 MQ):=by kernel_rfl
abbrev Gp:Zv:= .agg #[zi 0,.string ⟨#[]⟩]
section
variable {S:Nat->Prop} {o:Nat->Obj} {X:Nat->Prop} {D M Bd Bs C Wg c p r Lb cp:Nat} {vals:List Value} {w:World} {bs ls:Int} {cs:List Frame} {G':aS->World->Nat->Prop} {y6 y29 y30 y31 y32 gV y34:Value}
def Rs(B:q9 X Wg C S D M){tt:Bool}(b:got vals Gp r= .tuple #[sv,.bool tt])
  (d:RC bM 286 Wg C S D M c vals o X p 0 (vO vals r) (G ((base 136).at (xC Lb D Bd Bs C Wg bs ls cp y6 (.tuple #[sv,.bool tt]) (.bool tt) y31 y32 gV y34) [.code<|.cond (.tmp 30) .skip<|.exit 0,.code<|.block 1 MQ,.inLoop LB,.inBlock 0]) cs) w G'):
  RC bM 286 Wg C S D M c vals o X p 0 r (G ((base 136).at (xC Lb D Bd Bs C Wg bs ls cp y6 y29 y30 y31 y32 gV y34) [.code LB,.inLoop LB,.inBlock 0]) cs) w G':=by
 have a:∀k,RC bM 286 Wg C S D M c vals o X p 0 r (G ((base 136).at (xC Lb D Bd Bs C Wg bs ls cp y6 y29 y30 y31 y32 gV y34) (.code (.seq (.region 7 WS bK)<|.seq (.cond (.tmp 30) .skip<|.exit 0)<|.block 1 MQ)::k)) cs) w G'->RC bM 286 Wg C S D M c vals o X p 0 r (G ((base 136).at (xC Lb D Bd Bs C Wg bs ls cp y6 y29 y30 y31 y32 gV y34) (.code LB::k)) cs) w G':=fun k h=>by rw[xs9];exact h
 refine a _ ?_;refine RC.ctl B rfl rfl (fun _=>aO) ?_;refine RC.ctl B rfl rfl (fun _=>stepG_region) ?_;rw[show List.range WS.size=[0,1]from rfl];refine RC.recv B (So rfl rfl (by decide) rfl rfl Tryz.underlying278 Tryz.zeroValue289) ?_;rw[b,served_G];refine RC.pure B (op:=xxe) _ rfl rfl (by decide) (fun w=>(Gz rfl rfl w).1) (fun w=>(Gz rfl rfl w).2) ?_;refine RC.ctl B rfl rfl (fun _=>bB) ?_;refine RC.ctl B rfl rfl (fun _=>aO) ?_;exact d
def Ds(B:q9 X Wg C S D M)(b:vals.length<=r)
  (a:RC bM 286 Wg C S D M c vals o X p 0 r (G {(base 136).at (xC Lb D Bd Bs C Wg bs ls cp y6 (.tuple #[Gp,.bool bK]) (.bool bK) y31 y32 gV y34) []with mode:= .returning} cs) w G'):
  RC bM 286 Wg C S D M c vals o X p 0 r (G ((base 136).at (xC Lb D Bd Bs C Wg bs ls cp y6 y29 y30 y31 y32 gV y34) [.code LB,.inLoop LB,.inBlock 0]) cs) w G':=by
 refine Rs B (by unfold got;rw[aB<|by omega]) ?_;rw[show vO vals r=r by unfold vO;rw[aB<|by omega]];refine RC.ctl B rfl rfl (fun _=>stepG_cond rfl) ?_;refine RC.ctl B rfl rfl (fun _=>stepG_exit rfl) ?_;exact RC.ctl B rfl rfl (fun _=>stepG_end) a
end
def GN:aD:={dst:=bO 31,op:=Op.extract (Operand.tmp 29) 0,type:=289,pos:= "look.go:84",after:=#[],guard:=bN}
def OW:aD:={dst:=bO 6,op:=Op.alloc 289,type:=0,pos:= "look.go:84",after:=#[],guard:=bN}
def OX:aD:={dst:=bN,op:=Op.store 289 (Operand.tmp 6)<|Operand.tmp 31,type:=0,pos:= "look.go:84",after:=#[{on:=1,ground:=Ground.data},{on:=0,ground:=Ground.data},{on:=0,ground:=Ground.phase},{on:=1,ground:=Ground.phase}],guard:=bN}
def Hf:Array aD:=#[GN,OW,OX]
def GQ:aD:={dst:=bO 32,op:=Op.move<|Operand.tmp 0,type:=217,pos:= "look.go:85",after:=#[],guard:=bN}
def OY:aD:={dst:=bO 33,op:=Op.load 289<|Operand.tmp 6,type:=289,pos:= "look.go:85",after:=#[],guard:=bN}
def GU:aD:={dst:=bO 34,op:=Op.call {callee:=Callee.value<|Operand.func 214,args:=#[Operand.tmp 32,Operand.tmp 33],argTypes:=#[217,289]},type:=0,pos:= "look.go:85",after:=#[{on:=0,ground:=Ground.data},{on:=1,ground:=Ground.data}],guard:=bN}
def Hg:Array aD:=#[GQ,OY,GU]
def xpu:MQ= .seq (.region 8 Hf bK) (.region 9 Hg bK):=by kernel_rfl
abbrev oU(x:Int)(y:ByteArray):Obj:= .cells #[zi x,.string y] 289
abbrev pX(x:Int)(y:ByteArray):Zv:= .agg #[zi x,.string y]
section
variable {F:Array Func} {x:Int} {y:ByteArray}
def xwo(w:Zy):(zeroValue 289).run (wf bM F) w= .ok (pX 0 ⟨#[]⟩) w:=by kernel_rfl
def WI(w:Zy):(sizeOf 289).run (wf bM F) w= .ok 2 w:=by kernel_rfl
def VT(w:Zy):(isAgg 289).run (wf bM F) w= .ok bL w:=by kernel_rfl
def xuf(w:Zy):(bG a.eval OW).run (wf bM F) w= .ok (.value<|zo w.heap.size) (w.alloc<|oU 0 ⟨#[]⟩):=by
 unfold bG;simp only[OW];simp[go_sem,xwo,WI,VT]
def xug{N:Nat}(c:a.eval (.tmp 6)=zo N)(b:a.eval (.tmp 31)=pX x y){w:Zy}(d:w.heap.size=N):(bG a.eval OX).run (wf bM F) (w.alloc<|oU 0 ⟨#[]⟩)= .ok .skip (w.alloc<|oU x y):=by
 subst d;unfold bG;simp only[OX,c,b];simp[go_sem,WI,VT]
def xuh{N:Nat}(b:a.eval (.tmp 6)=zo N){w:Zy}(c:w.heap.size=N):(bG a.eval OY).run (wf bM F) (w.alloc<|oU x y)= .ok (.value<|pX x y) (w.alloc<|oU x y):=by
 subst c;unfold bG;simp only[OY,b];simp[go_sem,WI,VT]
def Gy{tt:Bool}(h:a.eval (.tmp 29)= .tuple #[sv,.bool tt])(w:Zy):(bG a.eval GN).run bM w= .ok (.value sv) w/\(bG a.eval GN).events bM w #[]=#[]:=by
 unfold bG;simp only[GN,h];exact⟨by simp[go_sem],by simp[go_sem]⟩
def Aj(h:a.eval (.tmp 0)=sv)(w:Zy):(bG a.eval GQ).run bM w= .ok (.value sv) w/\(bG a.eval GQ).events bM w #[]=#[]:=by
 unfold bG;simp only[GQ,h];exact⟨by simp[go_sem],by simp[go_sem]⟩
def U7{u v:Zv}(h:a.eval (.tmp 32)=u)(b:a.eval (.tmp 33)=v)(w:Zy):(bG a.eval GU).run bM w= .ok (.enter 214 #[u,v]) w/\(bG a.eval GU).events bM w #[]=#[]:=by
 subst h b;refine⟨?_,events_call_body rfl Tryz.func214 (by kernel_rfl) (by kernel_rfl) #[]⟩;have h:=run_call_body (a:=a) (w:=w) (o:=GU) (args:=#[Operand.tmp 32,Operand.tmp 33]) (ats:=#[217,289]) rfl Tryz.func214 (by kernel_rfl) (by kernel_rfl);rw[h];simp
def NZ:Mc bM 136:=⟨Tryz.f136,_,Tryz.func136,rfl,by decide+kernel⟩
end
section
variable {F:Array Func} {dm:Frame} {S:Nat->Prop} {o:Nat->Obj} {X:Nat->Prop} {D M Bd Bs C Wg c p Lb cp:Nat} {vals:List Value} {bs ls:Int} {cs:List Frame} {G':aS->World->Nat->Prop}
theorem Dg(B:q9 X Wg C S D M)(K:J0 bM F)(k:gN bM dm)(b:Ys bM F 214)(j:∀x∈cs,fK bM x){I:Nat->Zy->Prop}{J:List PanicEntry->Zy->Prop}(l:∀r w t d,I r (A.re w t d)->I r w)(m:∀ch w t d,J ch (A.re w t d)->J ch w)
  (U:∀r,r<vals.length->∃x y,vals[r]?=bO (pX x y)/\∀w,I r w->∀t d,Calls (wf bM F) 214 #[zo Lb,pX x y] (A.re (w.alloc<|oU x y) t d) fun e w'=>match e with| .returned _=>I (r+1) w'| .panicked ch=>J ch w'| .outgrown=>False)
  (Q:∀a w',I vals.length w'->a.defers=[dcall 209 #[zo Wg]]->RC bM 286 Wg C S D M c vals o X p 0 vals.length (G {(base 136).at a []with mode:= .returning} cs) w' G')
  (O:∀r a todo ch w',J ch w'->a.defers=[dcall 209 #[zo Wg]]->RC bM 286 Wg C S D M c vals o X p 0 r (G {(base 136).at a todo with mode:= .panicking ch} cs) w' G'):
  ∀n r w,r+n=vals.length->I r w->∀y6 y29 y30 y31 y32 gV y34,RC bM 286 Wg C S D M c vals o X p 0 r (G ((base 136).at (xC Lb D Bd Bs C Wg bs ls cp y6 y29 y30 y31 y32 gV y34) [.code LB,.inLoop LB,.inBlock 0]) cs) w G':=by
 intro n;induction n with
 |zero=>
  intro r w T g y6 y29 y30 y31 y32 gV y34;obtain rfl:r=vals.length:=by omega
  exact Ds B (ze _)<|Q _ _ g rfl
 |succ n ih=>
  intro r w T g y6 y29 y30 y31 y32 gV y34;obtain⟨x,y,q,L⟩:=U r (by omega);refine Rs B (sv:=pX x y) (tt:=bL) (by unfold got;rw[aA<|by omega,Xo,q];rfl) ?_;rw[show vO vals r=r+1 by unfold vO;rw[aA<|by omega]];refine RC.ctl B rfl rfl (fun _=>stepG_cond (t:=bL) rfl) ?_;refine RC.ctl B rfl rfl (fun _=>stepG_skip) ?_;refine RC.ctl B rfl rfl (fun _=>stepG_block) ?_;rw[xpu];refine RC.ctl B rfl rfl (fun _=>aO) ?_;refine RC.ctl B rfl rfl (fun _=>stepG_region) ?_;rw[show List.range Hf.size=[0,1,2]from rfl];refine RC.pure B (op:=GN) (pX x y) rfl rfl (by decide) (fun w=>(Gy rfl w).1) (fun w=>(Gy rfl w).2) ?_;refine RC.value (F:=F) (w':=w.alloc<|oU 0 ⟨#[]⟩) B K (op:=OW) (val:=zo w.heap.size) rfl rfl (by decide) (by decide+kernel) (fun t d=>xuf _) ?_;refine RC.none (F:=F) (w':=w.alloc<|oU x y) B K (op:=OX) rfl rfl (by decide) (by decide+kernel) (fun t d=>xug (w:=A.re w t d) (N:=w.heap.size) rfl rfl rfl) ?_;refine RC.ctl B rfl rfl (fun _=>bB) ?_;refine RC.ctl B rfl rfl (fun _=>stepG_region) ?_;rw[show List.range Hg.size=[0,1,2]from rfl];refine RC.pure B (op:=GQ) (zo Lb) rfl rfl (by decide) (fun w=>(Aj rfl w).1) (fun w=>(Aj rfl w).2) ?_;refine RC.value (F:=F) (w':=w.alloc<|oU x y) B K (op:=OY) (val:=pX x y) rfl rfl (by decide) (by decide+kernel) (fun t d=>xuh (w:=A.re w t d) (N:=w.heap.size) rfl rfl) ?_;refine RC.ctl B rfl rfl (fun v=>by
   rw[stepG_enter (o:=GU) (f:=214) (args:=#[zo Lb,pX x y]) rfl rfl (by decide) (U7 rfl rfl v).1];unfold listed;rw[(U7 rfl rfl v).2,seen_none]) ?_
  refine(RC.calls (dm:=dm) (R:=fun t d e w'=>match e with| .returned _=>I (r+1) w'| .panicked ch=>J ch w'| .outgrown=>False) B K k b ?_ (fun _ _ _ h=>h)<|L w g).trans ?_;intro z s;rcases xf.1 s with rfl|s
  exact .inl NZ;exact j z s;rintro Y w' Z ⟨rfl,e,W,⟨t,d,t1,V,i⟩,rfl,E,H⟩;cases e with
  |outgrown=>exact i.elim
  |returned val=>
   refine RC.ret (F:=F) B (by rw[E];exact b) H ?_;rw[IB];refine RC.ctl B rfl rfl (fun _=>bB) ?_;refine RC.ctl B rfl rfl (fun _=>stepG_inBlock) ?_;refine RC.ctl B rfl rfl (fun _=>stepG_inLoop) ?_;exact ih (r+1) w' (by omega) (l _ _ _ _ i) _ _ _ _ _ _ _
  |panicked ch=>
   refine RC.raise (F:=F) B H ⟨_,by rw[E];exact Tryz.func214⟩ ?_;rw[Frame.raise_at];exact O _ _ _ _ _ (m _ _ _ _ i) rfl
end
end
end
section
open Go.RowKit Go.Conc.Lib
open Go.ConcN (sumTo WgLive)
open Go.ConcR.Gen (body_wait)
variable [pn:Pn] [py:Go.ConcR.Payload]
section
variable {J:List PanicEntry→Zy→Prop} {w v:Zy} {I:Nat→Zy→Prop}
def AG{P:Zp}{b:Zf}{a:Act}{todo:List Item}{cs:List Zf}{w:Zy}{f:FuncId}{fn:Func}{args:Za}{c:Code}(hd:a.defers=[dcall f args])(g:P.funcs[f]?=bO fn)(d:(fn.name== "runtime.NumGoroutine")=bK)(e:fn.body=bO c){m:FrameMode}(i:m= .returning\/∃ch,m= .panicking ch):
  aZ P bL (G {b.at a todo with mode:=m} cs) w=
   .go (G ((baseD f).at {tmps:=args++aW (fn.ntmps-args.size) bJ,defers:=[]} [.code c]) ({b.at ⟨a.tmps,[]⟩ todo with mode:=m}::cs)) w #[]:=by
 have h:¬fn.name= "runtime.NumGoroutine":=by simpa using d
 rw[<-enter_atD args g e];rcases i with rfl|⟨ch,rfl⟩
 simp[G,aZ,aI,callDeferred,Frame.at,hd,dcall,invoke,callFunc,g,h,e,bA,seen_none];simp[G,aZ,aI,callDeferred,Frame.at,hd,dcall,invoke,callFunc,g,h,e,bA,seen_none]
def e_:(Go.Proofs.Tryz.f209.name== "runtime.NumGoroutine")=bK:=by kernel_rfl
def AH:Go.Proofs.Tryz.f209.ntmps=84:=by kernel_rfl
def c_:Go.Proofs.Tryz.f209.body=bO (body_wait ED):=by kernel_rfl
def SL.of_heap{Lb:Nat}{bs ls:Int}(h:SL Lb bs ls w)(e:v.heap[Lb]?=w.heap[Lb]?):SL Lb bs ls v:=by
 have:=h.base;have:=h.last;exact⟨by rw[<-h.base];simp only[aQ,e],by rw[<-h.last];simp only[aQ,e]⟩
def Lh{P:Zp}{X:ZP}(f:Sm P X w v){r:Nat}{cs:Za}{e:Zt}{i:Nat×Nat}(h:w.heap[r]?=bO (.cells cs e i))(b:cs≠#[]):¬X r:=by
 intro g;obtain⟨o,k,d,_,a⟩:=f.dead r g;rw[h]at d;cases d;rcases a with⟨a,_⟩|⟨c,j,a,_⟩
 simp[Obj.isChan]at a;cases a;exact b rfl
def zxj{P:Zp}{X:ZP}(d:Sm P X w v){r:Nat}{es:Array aK}{k:Nat}(h:w.heap[r]?=bO (.map es k)):¬X r:=by
 intro e;obtain⟨o,g,b,_,a⟩:=d.dead r e;rw[h]at b;cases b;rcases a with⟨a,_⟩|⟨c,f,a,_⟩
 simp[Obj.isChan]at a;cases a
theorem cells_of_cell{w:Zy}{a:Addr}{v:Zv}(h:w.cell? a=bO v):∃cs e i,w.heap[a.block]?=bO (.cells cs e i)/\cs≠#[]:=by
 unfold aQ at h;split at h
 rename_i cs e i hb
 refine⟨cs,e,i,hb,?_⟩;rintro rfl;simp at h;cases h
def iI(w1:Zy)(D M:Nat)(oD oM:Obj):Zy:={w1 with heap:=(w1.heap.setIfInBounds D oD).setIfInBounds M oM}
section
variable {F:Array Func} {dm:Frame} {w:World} {Lb D M clock:Nat} {es:Array aK} {rm nx:Value} {bs ls:Int} {cp:Nat} {c0:Frame} {cs:List Frame}
def xmt{v:Zy}{c d:Nat}(f:c=7\/c=8)(i:v.heap[D]?=bO (.cells #[rm,.map<|bO M,nx] py.ety))(j:v.heap[M]?=bO (.map es clock))(g:∀e∈es.toList,eZ e):Kn D M v.heap.size (iD v.heap.size c) (gF v.heap.size c) es (Sx v.heap.size D c)<|ox<|(eH v D cp c).at d:=by
 have a:D<v.heap.size:=(za.1 i).1;have b:M<v.heap.size:=(za.1 j).1;obtain⟨n1,n,k,p⟩:=L_ v D cp f d;have l:=(uQ v D cp f a d).trans i;have m:=(uQ v D cp f b d).trans j;have ox_of:∀{r:Nat} {o:Obj},((eH v D cp c).at d).heap[r]?=bO o->ox ((eH v D cp c).at d) r=o:=fun {r o} h=>by unfold ox;rw[h];rfl
 exact⟨.inl rfl,.inr<|.inl rfl,.inr<|.inr rfl,⟨rm,nx,ox_of l⟩,ox_of n1,ox_of k,⟨clock,ox_of m⟩,g⟩
def Sh(x y:Zv):(#[x,y]++aW (35-#[x,y].size) bJ:Za)=#[x,y,bJ,bJ,bJ,bJ,bJ,bJ,bJ,bJ,bJ,bJ,bJ,bJ,bJ,bJ,bJ,bJ,bJ,bJ,bJ,bJ,bJ,bJ,bJ,bJ,bJ,bJ,bJ,bJ,bJ,bJ,bJ,bJ,bJ]:=by
 rw[show 35-#[x,y].size=33 from rfl];apply Array.ext';simp[List.replicate]
def q_(x y:Zv):bF bM 136 #[x,y] .normal=(base 136).at ⟨#[x,y,bJ,bJ,bJ,bJ,bJ,bJ,bJ,bJ,bJ,bJ,bJ,bJ,bJ,bJ,bJ,bJ,bJ,bJ,bJ,bJ,bJ,bJ,bJ,bJ,bJ,bJ,bJ,bJ,bJ,bJ,bJ,bJ,bJ],[]⟩ [.code vF]:=by
 rw[enter_at (c:=vF) _ Tryz.func136<|by kernel_rfl,Tryz.ntmps136,Sh]
end
section
variable {F:Array Func} {dm:Frame} {w:World} {Lb D M clock:Nat} {es:Array aK} {rm nx:Value} {bs ls:Int} {cp:Nat} {c0:Frame} {cs:List Frame}
def S9(c0:Zf)(cs:List Zf)(I:Zy->Prop)(J:List PanicEntry->Zy->Prop)(g:Zg)(w:Zy):Prop:=
 ∃a todo,a.defers=[]/\((I w/\g=G {(base 136).at a todo with mode:= .returning} (c0::cs))\/∃ch,J ch w/\g=G {(base 136).at a todo with mode:= .panicking ch} (c0::cs))
def xwr(Wg:Nat)(c0:Zf)(cs:List Zf)(I:Zy->Prop)(J:List PanicEntry->Zy->Prop)(g:Zg)(w:Zy)(_r:Nat):Prop:=
 ∃c:Zf,g=G ((baseD 209).at ⟨#[zo Wg]++aW 83 bJ,[]⟩ [.code<|body_wait ED]) (c::c0::cs)/\S9 c0 cs I J (G {c with mode:=settle c.mode} (c0::cs)) w
def PC{I:Zy->Prop}{w1 w':Zy}{g:Zg}(h:S9 c0 cs I J g w1):RX bM g w' fun g' w2=>w2=w'/\((I w1/\g'=Z0 (c0.finish<|.tuple #[]) cs)\/∃ch,J ch w1/\g'=Z0 (c0.raise ch) cs):=by
 obtain⟨a,d,hd,h⟩:=h;have e:Tryz.f136.results=#[]:=by kernel_rfl
 rcases h with⟨f,rfl⟩|⟨ch,i,rfl⟩;refine(RX.move (es:=#[]) (g':=Z0 (c0.finish<|.tuple #[]) cs) (fun v=>?_) (fun b=>⟨?_,fun x c=>b.2 x<|by simp[G,Z0]at c⊢;exact .inr c⟩) rfl rfl<|by simp).mono ?_;exact stepG_leave rfl hd Tryz.func136 (results_none e _ _ _)<|events_results_none e _ _;exact(b.2 c0<|by simp[G]).finish _;rintro g' w2 ⟨rfl,rfl⟩;exact⟨rfl,.inl ⟨f,rfl⟩⟩;refine(RX.move (es:=#[]) (g':=Z0 (c0.raise ch) cs) (fun v=>?_) (fun b=>⟨(b.2 c0<|by simp[G]).raise _,fun x c=>b.2 x<|by simp[G,Z0]at c⊢;exact .inr c⟩) rfl rfl<|by simp).mono ?_;have j:({(base 136).at a d with mode:= .panicking ch}:Zf).defers=[]:=hd;simp[aZ,G,Z0,aI,Frame.catches,Frame.at,hd,base,Tryz.func136];rintro g' w2 ⟨rfl,rfl⟩;exact⟨rfl,.inr ⟨ch,i,rfl⟩⟩
def Mv{Wg:Nat}{a:Act}{todo:List Item}{m:FrameMode}(b:m= .returning\/∃ch,m= .panicking ch)(hd:a.defers=[dcall 209 #[zo Wg]]){fs:List Zf}(v:Zy):
  aZ bM bL (G {(base 136).at a todo with mode:=m} fs) v= .go (G ((baseD 209).at ⟨#[zo Wg]++aW 83 bJ,[]⟩ [.code<|body_wait ED]) ({(base 136).at ⟨a.tmps,[]⟩ todo with mode:=m}::fs)) v:=by
 rw[AG hd Tryz.func209 e_ c_ b,AH];rfl
abbrev qH(v:Zy)(D M:Nat):Pn:=⟨⟨Pn.N,fun r=>if r=D\/r=M then v.heap[r]?else Pn.V r⟩⟩
def Sm.yA{p1 p2:Pn}{P:Zp}{X:ZP}(h:Sm (pn:=p1) P X w v)(a:@Pn.N p2= @Pn.N p1)(c:∀r,X r-> @Pn.V p2 r= @Pn.V p1 r):Sm (pn:=p2) P X w v:=by
 obtain⟨g,i,j,k,l,m,n,o,e,f⟩:=h;exact @Sm.mk p2 P X w v g i j k l m n o ⟨by rw[a];exact e,fun r b d=>by rw[c r b];exact f r b<|by rw[<-a];exact d⟩
def tP(K:∀p:Pn,J0 (pn:=p) bM F)(bl:gN bM dm)(br:Ys bM F 214)(Q:SL Lb bs ls w)(hD:w.heap[D]?=bO (.cells #[rm,.map<|bO M,nx] py.ety))(hM:w.heap[M]?=bO (.map es clock))(Y:∀e∈es.toList,eZ e)
  (bx:IntKind.i64.wrap (ls-bs)=(cp:Int))(bk:cp<=1000000000)(bw:IntKind.i64.wrap (bs+1)=bs+1)(bv:ls<9223372036854775807)(bo:-9223372036854775808<=bs+1)(hn:bs+1+(cp:Int)=ls+1)
(bt:∀r w t d,I r (A.re w t d)->I r w)(bu:∀ch w t d,J ch (A.re w t d)->J ch w)(bn:∀ch w,J ch w->settle (.panicking ch)= .panicking ch)
  (bh:∀c,c=7\/c=8->I 0 (wF w D M c))
  (hv:∀r,r<(dY es (bs+1) cp).length->∃x y,(dY es (bs+1) cp)[r]?=bO (pX x y)/\∀w,I r w->∀t d,Calls (wf bM F) 214 #[zo Lb,pX x y] (A.re (w.alloc<|oU x y) t d) fun e w'=>match e with| .returned _=>I (r+1) w'| .panicked ch=>J ch w'| .outgrown=>False):
  RX bM (Z0 (bF bM 136 #[zo Lb,zo D] .normal) (c0::cs)) w
   (fun g' w'=>∃w1,w'=iI w1 D M (.cells #[rm,.map<|bO M,nx] py.ety) (.map es clock)/\((I cp w1/\g'=Z0 (c0.finish<|.tuple #[]) cs)\/∃ch,J ch w1/\g'=Z0 (c0.raise ch) cs)):=by
 rintro X m t ⟨⟨gs,v,sl,k,rfl,h0,hJ,f⟩,bq,b7,cb⟩;have S:∀x∈c0::cs,fK bM x:=bq.2;have Z:¬X D:=Lh f hD (by simp);have nM:¬X M:=zxj f hM;obtain⟨cl,b8,b9,bi,bp⟩:=cells_of_cell Q.base;have nL:¬X Lb:=Lh f bi bp;have C:=(f.out D Z).trans hD;have z:=(f.out M nM).trans hM;have vS:SL Lb bs ls v:=Q.of_heap<|f.out Lb nL;have V:v.heap.size=w.heap.size:=f.size;have n:∀x,X x->x<v.heap.size:=fun x l=>by rw[V];exact f.low x l
 have W:=eX es cp<|bs+1;have H:D<v.heap.size:=(za.1 C).1;have O:M<v.heap.size:=(za.1 z).1;have ca:D≠M:=by rintro rfl;rw[C]at z;cases z
 have bg:gs[0]?=bO (G ((base 136).at ⟨#[zo Lb,zo D,bJ,bJ,bJ,bJ,bJ,bJ,bJ,bJ,bJ,bJ,bJ,bJ,bJ,bJ,bJ,bJ,bJ,bJ,bJ,bJ,bJ,bJ,bJ,bJ,bJ,bJ,bJ,bJ,bJ,bJ,bJ,bJ,bJ],[]⟩ [.code vF]) (c0::cs)):=by rw[h0,q_];rfl
 obtain⟨N1,be,i,b5,t1,q1,c,x,y,s,r1,g1,z1,L1,P1,l,hy⟩:=xq4 (sl:=sl) hJ bg nL vS n bx bk bw;have T:0<gs.size:=(za.1 h0).1;obtain⟨k1,J1⟩:=xms (cp:=cp) (d:=i) s T z1 L1 P1 l hy n C z Z nM Y bv bo hn;have S0:Sm (pn:=qH v D M) bM X (re w v.tape v.drawn) v:=f.yA rfl fun r U=>aB fun h=>h.elim (fun e=>Z<|e▸U) fun e=>nM<|e▸U;have S1:Sm (pn:=qH v D M) bM (Xx X v.heap.size D M) (re (wF w D M c) ((eH v D cp c).at i).tape ((eH v D cp c).at i).drawn)<|(eH v D cp c).at i:=by
  have h1:=xof (pn:=qH v D M) (cp:=cp) (d:=i) S0 s C z Z nM (aA<|.inl rfl)<|aA<|.inr rfl;have e1:((eH v D cp c).at i).tape=v.tape:=by rcases s with rfl|rfl<;>rfl
  have e2:((eH v D cp c).at i).drawn=i:=rfl;rw[e1,e2];exact h1
 have B:=zwz (pn:=qH v D M) (X:=X) (c:=c) H O (by rw[V];exact f.pin.1);have Kk:=xmt (cp:=cp) (d:=i) s C z Y;have bd:(be.push<|born bM<|call211 v.heap.size (iD v.heap.size c) (v.heap.size+3) (bs+1) ls)[0]?=bO (G ((base 136).at (pF Lb D v.heap.size (iD v.heap.size c) (gF v.heap.size c) (v.heap.size+3) bs ls cp) [.inRegion nO [],.code K5]) (c0::cs)):=by
  rw[jh,aB<|by omega];exact g1
 have bj:=xm8 (pn:=qH v D M) (c:=gs.size) (p:=t1.size) (r:=0) (cs:=c0::cs) (Lb:=Lb) (bs:=bs) (ls:=ls) (cp:=cp)
  (G':=xwr (v.heap.size+3) c0 cs (I cp) J) B Kk (Dg (pn:=qH v D M) (dm:=dm) B (K _) bl br S bt bu hv
   (fun a w' hI hd=>RC.ctl (pn:=qH v D M) B rfl rfl (Mv (.inl rfl) hd)<|RC.refl (pn:=qH v D M) ⟨_,rfl,⟨a.tmps,[]⟩,[],rfl,.inl ⟨by rw[W]at hI;exact hI,rfl⟩⟩)
   (fun r a o ch w' hJ hd=>RC.ctl (pn:=qH v D M) B rfl rfl (Mv (.inr ⟨ch,rfl⟩) hd) (RC.refl (pn:=qH v D M) ⟨_,rfl,⟨a.tmps,[]⟩,o,rfl,.inr ⟨ch,hJ,by
    have:=bn ch w' hJ;simp only[this]⟩⟩))
   cp 0 _ (by rw[W];omega) (bh c s) _ _ _ _ _ _ _)
 obtain⟨N2,bf,v2,b6,t2,k2,g2,w2,r2,e2,J2,a2,S2,j,rfl,L⟩:=bj k1 _ _ b5 _ J1 bd S1;obtain⟨d,st,mm,left,b,q,J2,-⟩:=J2;have hG:=i_ (Out:=fun g=>g=G _ (c0::cs)) (c:=j) OM rfl v2 ⟨_,_,J2.wg⟩;have hW:=Hv (pn:=qH v D M) B _ bf v2 b6 t2
  ⟨9,3,1,0,d,st,mm,left,b,q,_,J2,by simpa using a2,.inl rfl,.kd hG,fun h=>by omega,rfl⟩ S2
 obtain⟨N3,E,v3,ba,t3,d3,m3,bz,b3,q3,g3,e3,J3,a3,rfl,bm,S3⟩:=hW;obtain⟨k3,bb⟩:=zyz (pn:=qH v D M) B (X':=fun x=>(Xx X v.heap.size D M x/\x≠D)/\x≠M) (fun x l hs=>⟨⟨l,fun e=>hs<|.inl<|e▸ .inl rfl⟩,fun e=>hs<|.inr e⟩) J3 bm ⟨_,a3⟩;have b1:ox ((eH v D cp c).at i) D= .cells #[rm,.map<|bO M,nx] py.ety:=by unfold ox;rw[uQ v D cp s H i,C];rfl
 have b2:ox ((eH v D cp c).at i) M= .map es clock:=by unfold ox;rw[uQ v D cp s O i,z];rfl
 have kD:v3.heap[D]?=bO (.cells #[rm,.map<|bO M,nx] py.ety):=(J3.kc D<|.inl<|.inl rfl).trans (by rw[b1]);have kM:v3.heap[M]?=bO (.map es clock):=(J3.kc M<|.inr rfl).trans (by rw[b2]);have b0:dL bM<|bO<|.map es clock:=by have:=f.oks M;rw[show(re w v.tape v.drawn).heap[M]?=bO (.map es clock)from hM]at this;exact this
 have bc:=Sm.FW (pn:=qH v D M) (Sm.FW (pn:=qH v D M) S3 kD dL.cells) kM b0;have S4:=Sm.yA (p2:=pn) bc rfl fun r U=>(aB fun h=>h.elim (fun e=>U.1.2 e) fun e=>U.2 e).symm;have R:vR bM (fun x=>(Xx X v.heap.size D M x/\x≠D)/\x≠M) (G {j with mode:=settle j.mode} (c0::cs)) (iI w2 D M (.cells #[rm,.map<|bO M,nx] py.ety)<|.map es clock) (crowd E v3 ba) t3:=by
  refine⟨⟨E,v3,ba,k3,rfl,a3,bb,S4⟩,⟨.inl ?_,S⟩,rfl,rfl⟩;obtain⟨a,o,_,⟨_,e⟩|⟨ch,_,e⟩⟩:=L<;>(rw[show j.fn=136 by have:=congrArg (fun g=>g.frame.fn) e;exact this];exact NZ)
 obtain⟨N4,m4,t4,X4,g4,w4,e4,x4,b4,rfl,h4⟩:=PC (w':=iI w2 D M (.cells #[rm,.map<|bO M,nx] py.ety)<|.map es clock) L _ _ _ R;refine⟨N1+(N2+(N3+N4)),m4,t4,X4,g4,_,ql r1<|ql e2<|ql e3 e4,fun x l=>x4 x ⟨⟨.inl l,fun e=>Z<|e▸l⟩,fun e=>nM<|e▸l⟩,b4,w2,rfl,h4⟩
end
section
variable {F:Array Func} {dm:Frame} {w:World} {Lb D M clock:Nat} {es:Array aK} {rm nx:Value} {bs ls:Int} {cp:Nat} {c0:Frame} {cs:List Frame}
def oP(K:∀p:Pn,J0 (pn:=p) bM F)(g:gN bM dm)(k:Ys bM F 214)(b:SL Lb bs ls w)(z:w.heap[D]?=bO (.cells #[rm,.map<|bO M,nx] py.ety))(E:w.heap[M]?=bO (.map es clock))(s:∀e∈es.toList,eZ e)
  (q:IntKind.i64.wrap (ls-bs)=(cp:Int))(f:cp<=1000000000)(o:IntKind.i64.wrap (bs+1)=bs+1)(n:ls<9223372036854775807)(j:-9223372036854775808<=bs+1)(G:bs+1+(cp:Int)=ls+1)
(l:∀r w t d,I r (A.re w t d)->I r w)(m:∀ch w t d,J ch (A.re w t d)->J ch w)(i:∀ch w,J ch w->settle (.panicking ch)= .panicking ch)
  (a:∀c,c=7\/c=8->I 0 (wF w D M c))
  (H:∀r,r<(dY es (bs+1) cp).length->∃x y,(dY es (bs+1) cp)[r]?=bO (pX x y)/\∀w,I r w->∀t d,Calls (wf bM F) 214 #[zo Lb,pX x y] (A.re (w.alloc<|oU x y) t d) fun e w'=>match e with| .returned _=>I (r+1) w'| .panicked ch=>J ch w'| .outgrown=>False):
  CC bM 136 #[zo Lb,zo D] w
   (fun e w'=>∃w1,w'=iI w1 D M (.cells #[rm,.map<|bO M,nx] py.ety) (.map es clock)/\((e= .returned (.tuple #[])/\I cp w1)\/∃ch,e= .panicked ch/\J ch w1)):=fun L O=>by
 refine(tP K g k b z E s q f o n j G l m i a H).mono ?_;rintro Q w' ⟨w1,v,⟨B,h⟩|⟨ch,C,h⟩⟩;exact⟨.returned _,⟨w1,v,.inl ⟨rfl,B⟩⟩,h⟩;exact⟨.panicked ch,⟨w1,v,.inr ⟨ch,rfl,C⟩⟩,h⟩
end
end
end
section
variable [pn:Pn]
section
variable {I:Zf→Zy→Prop}
section
variable {P:aV} {F:Array Func} {X:Nat->Prop}
def Mx{p:Zp}{fr:Zf}{cs:List Zf}{a b:Sem Next}{u:Zy}(h:a.runT p u #[]=b.runT p u #[]):bH p bL fr cs bN a u=bH p bL fr cs bN b u:=by
 unfold bH;simp only[if_true,h]
def C9{fr fr':Zf}{w:Zy}(h:∀p cs u,aZ p bL (Z0 fr cs) u= .go (Z0 fr' cs) u #[])(hk:fr'.kind=fr.kind)(c:I fr' w\/Xv P fr'):zA P F X I fr w:=by
 refine .inr<|.inr ⟨fr',w,c,hk,fun cs=>?_,⟨#[],fun cs=>h _ _ _⟩,fun v b=>⟨v,#[],fun cs=>h _ _ _,.still b⟩⟩;intro f g a e hd;dsimp only at e;rw[h]at e;cases e;exact⟨ze _,rfl,fun t d _=>⟨#[],by dsimp only;rw[h];simp⟩⟩
def C8{fr:Zf}{ops:Array aD}{i:Nat}{rest:List Nat}{k:List Item}{o:aD}{s:Sem Next}{w:Zy}(J:Sm P X w w)(ht:fr.todo= .inRegion ops (i::rest)::k)(hm:fr.mode= .run)(ho:ops[i]?=bO o)
  (hg:aX o (yielded ops fr.tmps)=bL)(hr:fr.roundOf=bN)(W:fr.kind≠ .early)(R:BN P F X s)
  (h1:∀t d,(bG fr.eval o).runT (wf P F) (re w t d) #[]=s.runT (wf P F) (re w t d) #[])(h2:∀v,Sm P X w v->(bG fr.eval o).runT P v #[]=s.runT P v #[])
  (hv:∀n x,s.run (wf P F) w= .ok n x->∃a,(n= .value a\/n= .skip/\a=bJ)/\(I (fr.finish a) x\/Xv P (fr.finish a)))
  (hp:∀y x,s.run (wf P F) w= .halt (.panic y) x->I (fr.raise [{v:=y,recovered:=bK}]) x):zA P F X I fr w:=by
 have j:(fr.kind==CallKind.early)=bK:=by cases hq:fr.kind<;>simp_all
 have L:∀p c u,aZ p bL (Z0 fr c) u=bH p bL fr c bN (bG fr.eval o) u:=fun p c u=>by
  simp only[aZ,Z0,hm,bI,ht,ho,js,jv,hg,if_true,stepG.oper,Frame.oper?,hr]
 have O:∀c t d,aZ (wf P F) bL (Z0 fr c) (re w t d)=bH (wf P F) bL fr c bN s (re w t d):=fun c t d=>by
  rw[L];exact Mx<|h1 t d
 have l:∀c,aZ (wf P F) bL (Z0 fr c) w=bH (wf P F) bL fr c bN s w:=fun c=>O c _ _;have M:∀c v,Sm P X w v->aZ P bL (Z0 fr c) v=bH P bL fr c bN s v:=fun c v B=>by
  rw[L];exact Mx<|h2 v B
 have hn:∀n x,s.run (wf P F) w= .ok n x->Nx n:=fun n x e=>by
  obtain⟨a,h|⟨h,_⟩,_⟩:=hv n x e<;>rw[h]<;>trivial
 have z:∀c,DD w<|aZ (wf P F) bL<|Z0 fr c:=fun c g' r H e hd=>by
  have Z:aZ (wf P F) bL (Z0 fr c) w= .go g' r H:=e;rw[l]at Z;obtain⟨l1,l2,l3⟩:=Pz R J W hn g' r H Z hd;exact⟨l1,l2,fun t d ha=>by
   obtain⟨S,h⟩:=l3 t d ha;exact⟨S,by
    show aZ (wf P F) bL (Z0 fr c) (A.re w t d)=_;rw[O];exact h⟩⟩
 have D:=R.dZ w J;cases hq:s.run (wf P F) w with
 |ok n x=>
  obtain⟨a,C,hI⟩:=hv n x hq;have U:jK<|s.run (wf P F) w:=by rw[hq];trivial
  have T:∀f b r,s.run (wf P F) w= .ok (.enter f b) r->¬Ref F f:=fun f b r e=>by
   rw[hq]at e;cases e;rcases C with h|⟨h,_⟩<;>cases h
  refine .inr<|.inr ⟨fr.finish a,x,hI,Vm fr a,z,?_,fun v B=>?_⟩;rcases C with rfl|⟨rfl,rfl⟩
  exact⟨_,fun c=>by rw[l];simp only[bH,zg,if_true,hq,j];rfl⟩;exact⟨_,fun c=>by rw[l];simp only[bH,zg,if_true,hq,j];rfl⟩;obtain⟨Y,E,K⟩:=R.gJ w v #[] B U T;obtain⟨G,Q⟩:=K.run;rw[hq]at G;have q:=K.af;rw[hq]at q;refine⟨Y,seen P fr.fn E,fun c=>?_,q.sub fun e V=>mem_seen V⟩;rw[M c v B];rcases C with rfl|⟨rfl,rfl⟩
  simp only[bH,zg,if_true,G,Q,j,Ww,bA,xu,if_false];simp[Z0];simp only[bH,zg,if_true,G,Q,j,Ww,bA,xu,if_false];simp[Z0]
 |halt h x=>
  have ended:(∀c,∃oo r S,bH (wf P F) bL fr c bN s w= .ended oo r S)->zA P F X I fr w:=fun h=> .inl fun c=>by rw[l];exact h c
  rw[hq]at D;cases h with
  |panic y=>
   have U:jK<|s.run (wf P F) w:=by rw[hq];trivial
   have T:∀f b r,s.run (wf P F) w= .ok (.enter f b) r->¬Ref F f:=fun f b r e=>by
    rw[hq]at e;cases e
   refine .inr<|.inr ⟨fr.raise [{v:=y,recovered:=bK}],x,.inl<|hp y x hq,IR _ _,z,?_,fun v B=>?_⟩;exact⟨_,fun c=>by rw[l];simp only[bH,zg,if_true,hq,j];rfl⟩;obtain⟨Y,E,K⟩:=R.gJ w v #[] B U T;obtain⟨G,Q⟩:=K.run;rw[hq]at G;have q:=K.af;rw[hq]at q;refine⟨Y,seen P fr.fn E,fun c=>?_,q.sub fun e V=>mem_seen V⟩;rw[M c v B];simp only[bH,zg,if_true,G,Q,j,Ww,bA,xu,if_false];simp[Z0]
  |stuck m=>exact ended fun c=>⟨_,_,_,by simp only[bH,zg,if_true,hq,j,bA];rfl⟩
  |exit m=>exact ended fun c=>⟨_,_,_,by simp only[bH,zg,if_true,hq,j,bA];rfl⟩
  |unsupported m=>
   cases m with
   |initOrder g=>exact D.elim
   |_=>exact ended fun c=>⟨_,_,_,by simp only[bH,zg,if_true,hq,j,bA];rfl⟩
  |_=>exact D.elim
def cD(H:Fit P F X){fr:Zf}{ops:Array aD}{i:Nat}{rest:List Nat}{k:List Item}{o:aD}{w:Zy}(b:Sm P X w w)(h:fr.todo= .inRegion ops (i::rest)::k)(e:fr.mode= .run)(ho:ops[i]?=bO o)
  (d:aX o (yielded ops fr.tmps)=bL)(g:fr.roundOf=bN)(c:fr.kind≠ .early)(hop:qM P o.op=bL)
  (j:∀n x,(bG fr.eval o).run (wf P F) w= .ok n x->∃a,(n= .value a\/n= .skip/\a=bJ)/\(I (fr.finish a) x\/Xv P (fr.finish a)))
  (f:∀y x,(bG fr.eval o).run (wf P F) w= .halt (.panic y) x->I (fr.raise [{v:=y,recovered:=bK}]) x):zA P F X I fr w:=
 C8 b h e ho d g c (EF H fr.eval o hop) (fun _ _=>rfl) (fun _ _=>rfl) j f
end
namespace Odd160
noncomputable def parts:Option<|Array aD×Array aD×Code:=match Tryz.f220.body with
 |some (.seq (.region _ a _)<|.cond _ (.region _ b _) c)=>bO (a,b,c)
 |_=>bN
noncomputable def lM:Array aD:=match parts with
 |some (a,_,_)=>a
 |none=>#[]
noncomputable def Va:Array aD:=match parts with
 |some (_,b,_)=>b
 |none=>#[]
noncomputable def WR:Code:=match parts with
 |some (_,_,c)=>c
 |none=> .skip
noncomputable def xW:Code:= .region 0 lM bK
noncomputable def cC:Code:= .cond (.tmp 6) (.region 1 Va bK) WR
def body160:Tryz.f220.body=bO (.seq xW cC):=by kernel_rfl
def ntmps220:Tryz.f220.ntmps=20:=by kernel_rfl
def xuc:qn bM bL WR=bL:=by kernel_rfl
def xly:qn bM bL (.seq xW cC)=bK:=by kernel_rfl
def uI:Mc bM 220:=⟨_,_,Tryz.func220,body160,xly⟩
def qK(ops:Array aD)(i:Nat)(op:Op)(d:Option Nat):Prop:=∃o,ops[i]?=bO o/\o.op=op/\o.dst=d/\o.guard=bN
def hH:qK lM 0 (.move<|.tmp 0)<|bO 2:=⟨lM[0]!,by kernel_rfl,by kernel_rfl,by kernel_rfl,by kernel_rfl⟩
def hO:qK lM 1 (.nilCheck<|.tmp 2)<|bO 3:=⟨lM[1]!,by kernel_rfl,by kernel_rfl,by kernel_rfl,by kernel_rfl⟩
def hU:qK lM 2 (.fieldAddr 223 (.tmp 3) 0)<|bO 4:=⟨lM[2]!,by kernel_rfl,by kernel_rfl,by kernel_rfl,by kernel_rfl⟩
def hY:qK lM 3 (.load 221<|.tmp 4)<|bO 5:=⟨lM[3]!,by kernel_rfl,by kernel_rfl,by kernel_rfl,by kernel_rfl⟩
def hZ:qK lM 4 (.binOp .eql 221 (.tmp 5) (.const<|.pointer bN) 221)<|bO 6:=⟨lM[4]!,by kernel_rfl,by kernel_rfl,by kernel_rfl,by kernel_rfl⟩
def iS:qK Va 0 (.move<|.tmp 0)<|bO 7:=⟨Va[0]!,by kernel_rfl,by kernel_rfl,by kernel_rfl,by kernel_rfl⟩
def kA:qK Va 1 (.move<|.tmp 0)<|bO 8:=⟨Va[1]!,by kernel_rfl,by kernel_rfl,by kernel_rfl,by kernel_rfl⟩
def kB:qK Va 2 (.convert 221 327<|.tmp 8)<|bO 9:=⟨Va[2]!,by kernel_rfl,by kernel_rfl,by kernel_rfl,by kernel_rfl⟩
def kO:qK Va 3 (.call {callee:= .value (.func 275),args:=#[.tmp 9],argTypes:=#[327]})<|bO 10:=⟨Va[3]!,by kernel_rfl,by kernel_rfl,by kernel_rfl,by kernel_rfl⟩
def lA:qK Va 4 (.convert 327 221<|.tmp 10)<|bO 11:=⟨Va[4]!,by kernel_rfl,by kernel_rfl,by kernel_rfl,by kernel_rfl⟩
def lB:qK Va 5 (.nilCheck<|.tmp 7)<|bO 12:=⟨Va[5]!,by kernel_rfl,by kernel_rfl,by kernel_rfl,by kernel_rfl⟩
def o16:qK Va 6 (.fieldAddr 223 (.tmp 12) 0)<|bO 13:=⟨Va[6]!,by kernel_rfl,by kernel_rfl,by kernel_rfl,by kernel_rfl⟩
def lE:qK Va 7 (.store 221 (.tmp 13)<|.tmp 11) bN:=⟨Va[7]!,by kernel_rfl,by kernel_rfl,by kernel_rfl,by kernel_rfl⟩
def xvn:lM.size=5:=by kernel_rfl
def xvo:Va.size=8:=by kernel_rfl
def Ij:Tryz.prog.underlying 221=bO (.pointer 223):=by kernel_rfl
def Il:Tryz.prog.underlying 327=bO .unsafePointer:=by kernel_rfl
noncomputable def MH:Array Field:=match Tryz.prog.underlying 223 with
 |some (.struct fs)=>fs
 |_=>#[]
def Ik:Tryz.prog.underlying 223=bO (.struct MH):=by kernel_rfl
noncomputable def NT:Field:=MH[0]!
def eK:MH[0]?=bO NT:=by kernel_rfl
def xq1:NT.offset=0:=by kernel_rfl
def xmq:NT.type=221:=by kernel_rfl
def Ia:(Tryz.prog.info? 221).map (·.size)=bO 1:=by kernel_rfl
def Ib:(Tryz.prog.info? 223).map (·.size)=bO 2:=by kernel_rfl
end Odd160
end
end
end A
end Go.Proofs.YtjnbhiamaabbgabGreatDoor
