import Derived.Test.YtjnbhiamaabbgaaGreatDoorM2
import Derived.Conc.WgGenN2
import Derived.Conc.CrowdComm
set_option linter.all false
set_option maxRecDepth 100000
set_option maxHeartbeats 8000000
namespace Go.Proofs.YtjnbhiamaabbgaaGreatDoor
open Bool renaming false->bK,true->bL
open Go renaming Goroutine->aS,Oper->aD,Program->aV,execOp->bG,stepG->aZ,undef->bJ
open Go.Conc renaming Deaf_other->aG
open Go.Frame renaming enter->bF
open Go.MemAct renaming ofEvent->aU,touch?->aR
open Go.MemOp renaming ofEvents->bD
open Go.Region renaming wanted->aX
open Go.Region.linearise renaming go->aC
open Go.stepG renaming exec->bI
open Option renaming some->bO
open _root_.Array renaming replicate->aW
open _root_.Ne renaming symm->aL
namespace A
open Go Go.Conc
variable [pn:Pn]
section
variable {R:Ending→Zy→Prop} {f:FuncId} {args:Za} {c:Code} {ops:Array aD} {rest:List Nat} {g:Zg} {id:Nat} {tp:Nat→Question→Nat} {d:Nat} {t:Nat→Question→Nat}
section
variable {P:aV} {F:Array Func} {dm:Frame} {G':aS->World->Prop} {w w':World} {b:Frame} {a:Act} {k:List Item} {cs:List Frame}
def RX.kI(h:RX P g w G'):RX P g (A.re w tp d) G':=RX.re (tp:=w.tape) (d:=w.drawn)<|by rw[vK,KX];exact h
def kE(w w':Zy):Prop:=∃t d,w'=re w t d
def kE.rfl'{w:Zy}:kE w w:=⟨w.tape,w.drawn,rfl⟩
def kE.rx(h:kE w w')(k:RX P g w G'):RX P g w' G':=by obtain⟨t,d,rfl⟩:=h;exact k.kI
theorem RX.ctl(K:J0 P F){g g':Zg}(f:¬Mc P g.frame.fn)(e:∀v,aZ (wf P F) bL g v= .go g' v)(l:g'.callers.length=g.callers.length)(hd:g'.dying=none)(i:g'.status= .running)(h:RX P g' w G'):RX P g w G':=
 (RX.one K f (G:=fun c w1=>c=g'/\kE w w1) fun X _ t d=>⟨⟨g',A.re w t d,⟨#[],e _,hd,i⟩,rfl,t,d,rfl⟩,fun k m j a b=>by
  rw[e]at a;cases a;omega⟩).trans fun c w1 ⟨a,b⟩=>by subst a;exact b.rx h
def RX.value(K:J0 P F){i:Nat}{op:aD}{val:Zv}(l:¬Mc P b.fn)(ho:ops[i]?=bO op)(hw:aX op (yielded ops a.tmps)=bL)(hk:b.kind≠ .early)
  (f:∀t d,∃t' d',(bG a.eval op).run (wf P F) (A.re w t d)= .ok (.value val) (A.re w' t' d'))(m:RX P (Z0 (b.at (a.put op.dst val) (.inRegion ops rest::k)) cs) w' G'):
  RX P (Z0 (b.at a (.inRegion ops (i::rest)::k)) cs) w G':=
 (RX.one K l (G:=fun h w1=>h=Z0 (b.at (a.put op.dst val) (.inRegion ops rest::k)) cs/\kE w' w1) fun X _ t d=>by
  obtain⟨t',d',f⟩:=f t d;have j:=stepG_value (main:=bL) (k:=k) (cs:=cs) (rest:=rest) ho hw hk f;exact⟨⟨_,_,⟨_,j,rfl,rfl⟩,rfl,t',d',rfl⟩,fun o p n c e=>by
   have g:aZ (wf P F) bL (Z0 (b.at a (.inRegion ops (i::rest)::k)) cs) (A.re w t d)=_:=j;rw[g]at c;cases c;have:cs.length=cs.length+1:=e;omega⟩).trans fun h w1 ⟨c,e⟩=>by subst c;exact e.rx m
def RX.skip(K:J0 P F){i:Nat}{op:aD}(l:¬Mc P b.fn)(ho:ops[i]?=bO op)(hw:aX op (yielded ops a.tmps)=bL)(hk:b.kind≠ .early)
  (f:∀t d,∃t' d',(bG a.eval op).run (wf P F) (A.re w t d)= .ok .skip (A.re w' t' d'))(m:RX P (Z0 (b.at (a.put op.dst bJ) (.inRegion ops rest::k)) cs) w' G'):
  RX P (Z0 (b.at a (.inRegion ops (i::rest)::k)) cs) w G':=
 (RX.one K l (G:=fun h w1=>h=Z0 (b.at (a.put op.dst bJ) (.inRegion ops rest::k)) cs/\kE w' w1) fun X _ t d=>by
  obtain⟨t',d',f⟩:=f t d;have j:=stepG_none (main:=bL) (k:=k) (cs:=cs) (rest:=rest) ho hw hk f;exact⟨⟨_,_,⟨_,j,rfl,rfl⟩,rfl,t',d',rfl⟩,fun o p n c e=>by
   have g:aZ (wf P F) bL (Z0 (b.at a (.inRegion ops (i::rest)::k)) cs) (A.re w t d)=_:=j;rw[g]at c;cases c;have:cs.length=cs.length+1:=e;omega⟩).trans fun h w1 ⟨c,e⟩=>by subst c;exact e.rx m
def UJ(c0:Zf)(cs:List Zf):Ending->Zg->Prop
 | .returned v,g=>g=Z0 (c0.finish v) cs
 | .panicked ch,g=>g=Z0 (c0.raise ch) cs
 | .outgrown,_=>False
def CC(P:Zp)(f:FuncId)(args:Za)(w:Zy)(R:Ending->Zy->Prop):Prop:=
 ∀c0 cs,RX P (Z0 (bF P f args .normal) (c0::cs)) w fun g' w'=>∃e,R e w'/\UJ c0 cs e g'
def CC.mono{R R':Ending->Zy->Prop}(h:CC P f args w R)(k:∀e w',R e w'->R' e w'):CC P f args w R':=fun c d=>(h c d).mono fun g w' ⟨e,a,b⟩=>⟨e,k _ _ a,b⟩
def CC.kI(h:CC P f args w R):CC P f args (re w tp d) R:=fun a b=>(h a b).kI
def kE.cc(h:kE w w')(k:CC P f args w R):CC P f args w' R:=by obtain⟨t,d,rfl⟩:=h;exact k.kI
def CC.jL(K:J0 P F)(g:gN P dm)(n:Ys P F f)(j:¬Mc P f)(m:∃fn,P.funcs[f]?=bO fn)(i:∀e w t d,R e (re w t d)->R e w)(c:∀w',¬R .outgrown w')
  (h:∀t d,Calls (wf P F) f args (re w t d) R):CC P f args w R:=fun p q=>by
 refine(CX.jL K g n j (fun _ _=>c) h _).trans ?_;rintro x w' ⟨e,s,⟨t,d,y,r,a⟩,rfl,b,k⟩;have a:=i _ _ _ _ a;cases e with
 |outgrown=>exact(c _ a).elim
 |returned v=>
  refine(RX.ret K (by rw[b];exact j) k).trans ?_;rintro l o ⟨t,d,rfl,rfl⟩;exact(RX.refl ⟨_,a,rfl⟩).kI
 |panicked ch=>
  refine(RX.raise k<|by rw[b];exact m).trans ?_;rintro l o ⟨rfl,rfl⟩;exact .refl ⟨_,a,rfl⟩
def RX.call(K:J0 P F){i:Nat}{op:aD}(p:¬Mc P b.fn)(ho:ops[i]?=bO op)(hw:aX op (yielded ops a.tmps)=bL)(hk:b.kind≠ .early)
  (x:∀v,(bG a.eval op).run (wf P F) v= .ok (.enter f args) v)(o:Ys P F f)(q:CC P f args w R)
  (s:∀v w',R (.returned v) w'->RX P (Z0 (b.at (a.put op.dst v) (.inRegion ops rest::k)) cs) w' G')
  (r:∀ch w',R (.panicked ch) w'->RX P (Z0 {b.at a (.inRegion ops (i::rest)::k)with mode:= .panicking ch} cs) w' G'):
  RX P (Z0 (b.at a (.inRegion ops (i::rest)::k)) cs) w G':=by
 refine(RX.one K p (G:=fun m w1=>m=Z0 (bF P f args .normal) (b.at a (.inRegion ops (i::rest)::k)::cs)/\kE w w1) fun X _ t d=>?_).trans fun m w1 ⟨c,l⟩=>?_;have h:=stepG_enter (main:=bL) (k:=k) (cs:=cs) (rest:=rest) ho hw hk<|x<|A.re w t d;rw[zdt o.1]at h;have j:aZ (wf P F) bL (Z0 (b.at a (.inRegion ops (i::rest)::k)) cs) (A.re w t d)=_:=h;exact⟨⟨_,_,⟨_,h,rfl,rfl⟩,rfl,t,d,rfl⟩,fun B C y c l _=>by
  rw[j]at c;cases c;exact o⟩
 subst c;refine(l.cc q _ _).trans ?_;rintro z w' ⟨e,n,g⟩;cases e with
 |outgrown=>exact g.elim
 |returned v=>cases g;rw[IB,ho];exact s _ _ n
 |panicked ch=>cases g;rw[Frame.raise_at];exact r _ _ n
def hot:List Item->Prop
 | .code (.refuse _)::_=>False
 |_=>True
def sV(b:Zf)(k:List Item)(cs:List Zf):Exit->Act->Zg->Prop
 | .normal,a,g=>hot k/\g=Z0 (b.at a k) cs
 | .exit id,a,g=>∃k',exitTo id k=bO k'/\hot k'/\g=Z0 (b.at a k') cs
 | .ret,a,g=>a.defers=[]/\∃todo,g=Z0 {b.at a todo with mode:= .returning} cs
 | .panic ch,a,g=>a.defers=[]/\∃todo,g=Z0 {b.at a todo with mode:= .panicking ch} cs
 |_,_,_=>False
def MR(k:List Item):Exit->Act->Prop
 | .normal,_=>hot k
 | .exit id,_=>∃k',exitTo id k=bO k'/\hot k'
 | .ret,a=>a.defers=[]
 | .panic _,a=>a.defers=[]
 |_,_=>False
def sV.alive(m:gN P dm){e:Exit}(h:sV b k cs e a g):¬sW P g:=by
 have d:∀{k:List Item},hot k->¬sW P (Z0 (b.at a k) cs):=by
  rintro k hk ⟨_,⟨_,s,j,e⟩|hd⟩;have e:k= .code (.refuse s)::j:=e;subst e;exact hk;have e:k=[.code<|.refuse ""]:=hd.1;subst e;exact hk
 cases e with
 |normal=>obtain⟨hk,rfl⟩:=h;exact d hk
 |exit id=>obtain⟨j,_,hk,rfl⟩:=h;exact d hk
 |goto l=>exact h.elim
 |ret=>
  obtain⟨hd,f,rfl⟩:=h;rintro⟨_,⟨i,_⟩|c⟩;cases i;have:a.defers=[⟨.fn (.method "") #[],#[]⟩]:=c.2.1;rw[hd]at this;cases this
 |panic ch=>
  obtain⟨hd,f,rfl⟩:=h;rintro⟨_,⟨i,_⟩|c⟩;cases i;have:a.defers=[⟨.fn (.method "") #[],#[]⟩]:=c.2.1;rw[hd]at this;cases this
 |outgrown=>exact h.elim
def sV.callers{e:Exit}(h:sV b k cs e a g):g.callers=cs:=by
 cases e with
 |normal=>obtain⟨_,rfl⟩:=h;rfl
 |exit id=>obtain⟨d,_,_,rfl⟩:=h;rfl
 |goto l=>exact h.elim
 |ret=>obtain⟨_,c,rfl⟩:=h;rfl
 |panic ch=>obtain⟨_,c,rfl⟩:=h;rfl
 |outgrown=>exact h.elim
def sV.with{e:Exit}{cs':List Zf}(h:sV b k cs e a g):sV b k cs' e a {g with callers:=cs'}:=by
 cases e with
 |normal=>obtain⟨d,rfl⟩:=h;exact⟨d,rfl⟩
 |exit id=>obtain⟨i,d,f,rfl⟩:=h;exact⟨i,d,f,rfl⟩
 |goto l=>exact h.elim
 |ret=>obtain⟨d,c,rfl⟩:=h;exact⟨d,c,rfl⟩
 |panic ch=>obtain⟨d,c,rfl⟩:=h;exact⟨d,c,rfl⟩
 |outgrown=>exact h.elim
def RX.wp(K:J0 P F)(p:gN P dm){Post:Exit->Act->Zy->Prop}(x:¬Mc P b.fn)(hk:b.kind= .normal)(q:∀e a w t d,Post e a (A.re w t d)↔Post e a w)(r:∀e a w,Post e a w->MR k e a)
  (h:∀t d,c.wp (wf P F) Post a<|A.re w t d)(y:∀e a' w' g',Post e a' w'->sV b k cs e a' g'->RX P g' w' G'):RX P (Z0 (b.at a (.code c::k)) cs) w G':=by
 refine(RX.lift (fr:=b.at a (.code c::k)) (cs:=cs) (w:=w) (dm:=dm) K p (End:=fun g' w'=>∃e a',Post e a' w'/\sV b k [dm] e a' g') (fun g' w' t d=>?_) ?_ x hk ?_).trans ?_;exact⟨fun⟨e,a',m,i⟩=>⟨e,a',(q ..).1 m,i⟩,fun⟨e,a',m,i⟩=>⟨e,a',(q ..).2 m,i⟩⟩;rintro g' w' ⟨e,a',_,i⟩;exact i.alive p;intro t d;obtain⟨e,a',w',j,f⟩:=h t d b k [dm];have n:=r _ _ _ j;cases e with
 |normal=>exact⟨_,_,w',f,.normal,a',j,n,rfl⟩
 |exit id=>obtain⟨v,m,i⟩:=n;exact⟨_,_,w',f v m,.exit id,a',j,v,m,i,rfl⟩
 |goto l=>exact n.elim
 |ret=>obtain⟨g,s⟩:=f;exact⟨_,_,w',s,.ret,a',j,n,g,rfl⟩
 |panic ch=>obtain⟨g,s⟩:=f;exact⟨_,_,w',s,.panic ch,a',j,n,g,rfl⟩
 |outgrown=>exact n.elim
 rintro z w' ⟨g',l,⟨e,a',j,f⟩,o,rfl⟩;have:l=[]:=by
  rw[f.callers]at o;have:=congrArg List.length o;simp only[zj,jd]at this;exact xa<|by omega
 subst this;exact y e a' w' _ j f.with
def RX.leave(K:J0 P F){fn:Func}{todo:List Item}{c0:Zf}{v:Zv}(j:¬Mc P b.fn)(hk:b.kind= .normal)(hd:a.defers=[])(k:(wf P F).funcs[b.fn]?=bO fn)
  (h:∀t d,∃t' d',(results fn a.tmps).run (wf P F) (A.re w t d)= .ok v (A.re w t' d'))(l:RX P (Z0 (c0.finish v) cs) w G'):RX P (Z0 {b.at a todo with mode:= .returning} (c0::cs)) w G':=by
 refine(RX.one K j (G:=fun i w1=>i=Z0 (c0.finish v) cs/\kE w w1) fun X _ t d=>?_).trans fun i w1 ⟨c,f⟩=>by subst c;exact f.rx l
 obtain⟨t',d',h⟩:=h t d;have e:∃g,aZ (wf P F) bL (Z0 {b.at a todo with mode:= .returning} (c0::cs)) (A.re w t d)= .go (Z0 (c0.finish v) cs) (A.re w t' d') g:=by
  simp only[aZ,Z0,unwind,doReturn,Frame.at,hk,hd,k,zg,h];exact⟨_,rfl⟩
 obtain⟨g,e⟩:=e;exact⟨⟨_,_,⟨_,e,rfl,rfl⟩,rfl,t',d',rfl⟩,fun m n g c f=>by
  rw[e]at c;cases c;have:cs.length=cs.length+1+1:=f;omega⟩
def RX.throw{todo:List Item}{c0:Zf}{ch:List PanicEntry}(hd:a.defers=[])(c:∃fn,P.funcs[b.fn]?=bO fn)(h:RX P (Z0 (c0.raise ch) cs) w G'):RX P (Z0 {b.at a todo with mode:= .panicking ch} (c0::cs)) w G':=by
 obtain⟨fn,c⟩:=c;refine(RX.move (es:=#[]) (g':=Z0 (c0.raise ch) cs) (fun v=>?_) (fun d=>⟨(d.2 c0<|by simp[Z0]).raise _,fun x e=>d.2 x<|by simp[Z0]at e⊢;exact .inr e⟩) rfl rfl<|by simp).trans fun i w1 ⟨f,g⟩=>by subst f g;exact h
 simp[aZ,Z0,unwind,Frame.catches,Frame.at,hd,c]
end
section
variable {P:aV} {F:Array Func} {dm:Frame} {w:World} {a:Act} {Q:Exit->Act->World->Prop} {fn:FuncId}
def Xn(P:Zp)(fn:FuncId)(c:Code)(Q:Exit->Act->Zy->Prop)(a:Act)(w:Zy):Prop:=
 ∀(b:Zf) (k:List Item) (cs:List Zf) (G':Zg->Zy->Prop),b.fn=fn->b.kind= .normal->(∀e a' w',Q e a' w'->MR k e a')->
  (∀e a' w' g',Q e a' w'->sV b k cs e a' g'->RX P g' w' G')->RX P (Z0 (b.at a (.code c::k)) cs) w G'
def Xn.kI(h:Xn P fn c Q a w):Xn P fn c Q a<|re w t d:=fun b k f e g i j l=>(h b k f e g i j l).kI
def Xn.zU:Xn P fn c Q a (re w t d)↔Xn P fn c Q a w:=⟨fun h=>by have:=h.kI (t:=w.tape) (d:=w.drawn);rwa[vK,KX]at this,fun h=>h.kI⟩
def Xn.mono{Q':Exit->Act->Zy->Prop}(h:Xn P fn c Q a w)(k:∀e a w,Q e a w->Q' e a w):Xn P fn c Q' a w:=fun b o i f j l m n=>h b o i f j l (fun e a w d=>m e a w<|k e a w d) fun e a w g d=>n e a w g<|k e a w d
def Xn.of_wp(K:J0 P F)(f:gN P dm)(n:¬Mc P fn)(g:∀e a w t d,Q e a (re w t d)↔Q e a w)(h:∀t d,c.wp (wf P F) Q a<|re w t d):Xn P fn c Q a w:=fun b k p o i j l m=>
 RX.wp K f (by rw[i];exact n) j g l h m
def dV(K:Act->Zy->Prop)(Q:Exit->Act->Zy->Prop):Exit->Act->Zy->Prop
 | .normal,a,w=>K a w
 |e,a,w=>Q e a w
def Xn.seq(K:J0 P F){x y:Code}(r:¬Mc P fn)(hy:hot [.code y])(h:Xn P fn x (dV (fun a' w'=>Xn P fn y Q a' w') Q) a w):Xn P fn (.seq x y) Q a w:=fun b k i p n q f g=>by
 refine RX.ctl K (g':=Z0 (b.at a (.code x:: .code y::k)) i) (by show¬Mc P b.fn;rw[n];exact r) (fun v=>?_) rfl rfl rfl ?_;simp[aZ,Z0,Frame.at,bI];have hk:hot (.code y::k):=by
  unfold hot at hy⊢;split<;>first|trivial|(rename_i e;cases e;exact hy)
 refine h b (.code y::k) i p n q (fun e a' w' d=>?_) fun e a' w' g' d c=>?_;cases e with
 |normal=>exact hk
 |exit id=>obtain⟨o,j,m⟩:=f _ _ _ d;exact⟨o,j,m⟩
 |goto l=>exact f _ _ _ d
 |ret=>exact f _ _ _ d
 |panic ch=>exact f _ _ _ d
 |outgrown=>exact f _ _ _ d
 cases e with
 |normal=>
  obtain⟨_,rfl⟩:=c;exact d b k i p n q f g
 |exit id=>obtain⟨o,j,m,rfl⟩:=c;exact g _ a' w' _ d ⟨o,j,m,rfl⟩
 |goto l=>exact c.elim
 |ret=>exact g .ret a' w' _ d c
 |panic ch=>exact g _ a' w' _ d c
 |outgrown=>exact c.elim
def Xn.cond(K:J0 P F){o:Operand}{x y:Code}(l:¬Mc P fn){t:Bool}(ho:a.eval o= .bool t)(h:Xn P fn (if t then x else y) Q a w):Xn P fn (.cond o x y) Q a w:=fun b k d f e g i j=>by
 refine RX.ctl K (g':=Z0 (b.at a (.code (if t then x else y)::k)) d) (by show¬Mc P b.fn;rw[e];exact l) (fun v=>?_) rfl rfl rfl<|h b k d f e g i j;have c:(b.at a (.code (.cond o x y)::k)).eval o= .bool t:=ho;simp only[aZ,Z0,Frame.at,bI]at c⊢;rw[c]
def gY(P:Zp)(fn:FuncId)(ops:Array aD)(Q:Exit->Act->Zy->Prop)(rest:List Nat)(a:Act)(w:Zy):Prop:=
 ∀(b:Zf) (k:List Item) (cs:List Zf) (G':Zg->Zy->Prop),b.fn=fn->b.kind= .normal->(∀e a' w',Q e a' w'->MR k e a')->
  (∀e a' w' g',Q e a' w'->sV b k cs e a' g'->RX P g' w' G')->RX P (Z0 (b.at a (.inRegion ops rest::k)) cs) w G'
variable {ops:Array aD} {rest:List Nat} {i:Nat} {op:aD} {w':World}
def Xn.region(K:J0 P F)(j:¬Mc P fn)(h:gY P fn ops Q (List.range ops.size) a w):Xn P fn (.region id ops bK) Q a w:=fun b k c e d f g i=>by
 refine RX.ctl K (g':=Z0 (b.at a (.inRegion ops (List.range ops.size)::k)) c) (by show¬Mc P b.fn;rw[d];exact j) (fun v=>?_) rfl rfl rfl<|h b k c e d f g i;simp[aZ,Z0,Frame.at,bI]
def gY.nil(K:J0 P F)(g:¬Mc P fn)(h:Q .normal a w):gY P fn ops Q [] a w:=fun b k c i d j e f=>by
 refine RX.ctl K (g':=Z0 (b.at a k) c) (by show¬Mc P b.fn;rw[d];exact g) (fun v=>?_) rfl rfl rfl<|f .normal a w _ h ⟨e _ _ _ h,rfl⟩;simp[aZ,Z0,Frame.at,bI]
def gY.value(K:J0 P F){val:Zv}(m:¬Mc P fn)(ho:ops[i]?=bO op)(hw:aX op (yielded ops a.tmps)=bL)
  (n:∀t d,∃t' d',(bG a.eval op).run (wf P F) (re w t d)= .ok (.value val) (re w' t' d'))(h:gY P fn ops Q rest (a.put op.dst val) w'):gY P fn ops Q (i::rest) a w:=fun b k g f c e j l=>
 RX.value K (by rw[c];exact m) ho hw (by rw[e];simp) n (h b k g f c e j l)
def gY.skip(K:J0 P F)(m:¬Mc P fn)(ho:ops[i]?=bO op)(hw:aX op (yielded ops a.tmps)=bL)
  (n:∀t d,∃t' d',(bG a.eval op).run (wf P F) (re w t d)= .ok .skip (re w' t' d'))(h:gY P fn ops Q rest (a.put op.dst bJ) w'):gY P fn ops Q (i::rest) a w:=fun b k g f c e j l=>
 RX.skip K (by rw[c];exact m) ho hw (by rw[e];simp) n (h b k g f c e j l)
def gY.call(K:J0 P F)(m:¬Mc P fn)(hd:a.defers=[])(ho:ops[i]?=bO op)(hw:aX op (yielded ops a.tmps)=bL)
  (r:∀v,(bG a.eval op).run (wf P F) v= .ok (.enter f args) v)(q:Ys P F f)(n:CC P f args w R)
  (p:∀v w',R (.returned v) w'->gY P fn ops Q rest (a.put op.dst v) w')(o:∀ch w',R (.panicked ch) w'->Q (.panic ch) a w'):gY P fn ops Q (i::rest) a w:=fun b k j h d e l g=>
 RX.call K (by rw[d];exact m) ho hw (by rw[e];simp) r q n (fun v w' c=>p v w' c b k j h d e l g) (fun ch w' c=>g (.panic ch) a w' _ (o ch w' c) ⟨hd,_,rfl⟩)
def Xn.block(K:J0 P F){x:Code}(r:¬Mc P fn)(h:Xn P fn x (fun e a' w'=>match e with
  | .exit j=>if j=id then Q .normal a' w' else Q (.exit j) a' w'
  |e=>Q e a' w') a w):Xn P fn (.block id x) Q a w:=fun b k o s p t i m=>by
 refine RX.ctl K (g':=Z0 (b.at a (.code x:: .inBlock id::k)) o) (by show¬Mc P b.fn;rw[p];exact r) (fun v=>?_) rfl rfl rfl ?_;simp[aZ,Z0,Frame.at,bI];refine h b (.inBlock id::k) o s p t (fun e a' w' d=>?_) fun e a' w' g' d c=>?_;cases e with
 |normal=>trivial
 |exit j=>
  dsimp only at d;by_cases f:j=id;rw[aA f]at d;exact⟨k,by simp[exitTo,f],i _ _ _ d⟩;rw[aB f]at d;obtain⟨q,g,n⟩:=i _ _ _ d;exact⟨q,by simp only[exitTo];rw[aB<|by simpa using fun e=>f e.symm];exact g,n⟩
 |goto l=>exact i _ _ _ d
 |ret=>exact i _ _ _ d
 |panic ch=>exact i _ _ _ d
 |outgrown=>exact i _ _ _ d
 cases e with
 |normal=>
  obtain⟨_,rfl⟩:=c;refine RX.ctl K (g':=Z0 (b.at a' k) o) (by show¬Mc P b.fn;rw[p];exact r) (fun v=>?_) rfl rfl rfl<|m .normal a' w' _ d ⟨i _ _ _ d,rfl⟩;simp[aZ,Z0,Frame.at,bI]
 |exit j=>
  dsimp only at d;obtain⟨q,g,n,rfl⟩:=c;by_cases f:j=id;rw[aA f]at d;simp only[exitTo,f,BEq.rfl,if_true,zp]at g;subst g;exact m _ a' w' _ d ⟨n,rfl⟩;rw[aB f]at d;simp only[exitTo]at g;rw[aB<|by simpa using fun e=>f e.symm]at g;exact m _ a' w' _ d ⟨q,g,n,rfl⟩
 |goto l=>exact c.elim
 |ret=>exact m .ret a' w' _ d c
 |panic ch=>exact m _ a' w' _ d c
 |outgrown=>exact c.elim
def Xn.ret(K:J0 P F)(f:¬Mc P fn)(hd:a.defers=[])(h:Q .ret a w):Xn P fn .ret Q a w:=fun b k c g d i j e=>by
 refine RX.ctl K (g':=Z0 {b.at a (.code .ret::k)with mode:= .returning} c) (by show¬Mc P b.fn;rw[d];exact f) (fun v=>?_) rfl rfl rfl<|e .ret a w _ h ⟨hd,_,rfl⟩;simp[aZ,Z0,Frame.at,bI]
def Xn.loop(K:J0 P F){x:Code}(s:¬Mc P fn)(hx:hot [.code x])(I:Act->Zy->Prop)(m:Act->Zy->Nat)
  (r:∀a w,I a w->Xn P fn x (fun e a' w'=>match e with
   | .normal=>I a' w'/\m a' w'<m a w
   |e=>Q e a' w') a w):∀a w,I a w->Xn P fn (.loop x) Q a w:=by
 have q:∀(n:Nat) (a:Act) (w:Zy),m a w<=n->I a w->∀(b:Zf) (k:List Item) (g:List Zf) (i:Zg->Zy->Prop),b.fn=fn->b.kind= .normal->(∀e a' w',Q e a' w'->MR k e a')->
   (∀e a' w' g',Q e a' w'->sV b k g e a' g'->RX P g' w' i)->RX P (Z0 (b.at a (.code x:: .inLoop x::k)) g) w i:=by
  intro n;induction n with
  |zero=>
   intro a w t p b k g i j o f h;refine r a w p b (.inLoop x::k) g i j o (fun e a' w' d=>?_) fun e a' w' g' d c=>?_;cases e with
   |normal=>trivial
   |exit id=>exact f _ _ _ d
   |goto l=>exact f _ _ _ d
   |ret=>exact f _ _ _ d
   |panic ch=>exact f _ _ _ d
   |outgrown=>exact f _ _ _ d
   cases e with
   |normal=>have:=d.2;omega
   |exit id=>exact h _ _ _ _ d c
   |goto l=>exact c.elim
   |ret=>exact h _ _ _ _ d c
   |panic ch=>exact h _ _ _ _ d c
   |outgrown=>exact c.elim
  |succ n ih=>
   intro a w t p b k g i j o f h;refine r a w p b (.inLoop x::k) g i j o (fun e a' w' d=>?_) fun e a' w' g' d c=>?_;cases e with
   |normal=>trivial
   |exit id=>exact f _ _ _ d
   |goto l=>exact f _ _ _ d
   |ret=>exact f _ _ _ d
   |panic ch=>exact f _ _ _ d
   |outgrown=>exact f _ _ _ d
   cases e with
   |normal=>
    obtain⟨_,rfl⟩:=c;refine RX.ctl K (g':=Z0 (b.at a' (.code x:: .inLoop x::k)) g) (by show¬Mc P b.fn;rw[j];exact s) (fun v=>?_) rfl rfl rfl<|ih a' w' (by have:=d.2;omega) d.1 b k g i j o f h;simp[aZ,Z0,Frame.at,bI]
   |exit id=>exact h _ _ _ _ d c
   |goto l=>exact c.elim
   |ret=>exact h _ _ _ _ d c
   |panic ch=>exact h _ _ _ _ d c
   |outgrown=>exact c.elim
 intro a w p b k g i j o f h;refine RX.ctl K (g':=Z0 (b.at a (.code x:: .inLoop x::k)) g) (by show¬Mc P b.fn;rw[j];exact s) (fun v=>?_) rfl rfl rfl<|q _ a w (ze _) p b k g i j o f h;simp[aZ,Z0,Frame.at,bI]
def CC.zQ(K:J0 P F){fnc:Func}(s:¬Mc P f)(z:F[f]?=P.funcs[f]?)(q:P.funcs[f]?=bO fnc)(x:fnc.body=bO c)(B:hot [])
  (h:Xn P f c (fun e a w=>a.defers=[]/\match e with
   | .normal| .ret=>∃v,(∀t d,∃t' d',(results fnc a.tmps).run (wf P F) (re w t d)= .ok v (re w t' d'))/\R (.returned v) w
   | .panic ch=>R (.panicked ch) w
   |_=>False) ⟨args++aW (fnc.ntmps-args.size) bJ,[]⟩ w):CC P f args w R:=fun o p=>by
 have y:bF P f args .normal=(bF P f args .normal).at ⟨args++aW (fnc.ntmps-args.size) bJ,[]⟩ [.code c]:=by
  simp[bF,Frame.at,q,x]
 rw[y];have r:(wf P F).funcs[f]?=bO fnc:=by show F[f]?=_;rw[z];exact q
 refine h (bF P f args .normal) [] (o::p) _ rfl rfl (fun e n j b=>?_) fun e n j g' b i=>?_;cases e with
 |normal=>trivial
 |ret=>exact b.1
 |panic ch=>exact b.1
 |exit id=>exact b.2.elim
 |goto l=>exact b.2.elim
 |outgrown=>exact b.2.elim
 have leave:∀(g:List Item) v,(∀t d,∃t' d',(results fnc n.tmps).run (wf P F) (re j t d)= .ok v (re j t' d'))->R (.returned v) j->RX P (Z0 {(bF P f args .normal).at n g with mode:= .returning} (o::p)) j (fun g' j=>∃e,R e j/\UJ o p e g'):=fun g v m k=>
  RX.leave K s rfl b.1 r m (.refl ⟨_,k,rfl⟩)
 cases e with
 |normal=>
  obtain⟨_,rfl⟩:=i;obtain⟨hd,v,m,k⟩:=b;refine RX.ctl K (g':=Z0 {(bF P f args .normal).at n []with mode:= .returning} (o::p)) s (fun v=>?_) rfl rfl rfl<|leave _ v m k;simp[aZ,Z0,Frame.at,bI]
 |ret=>
  obtain⟨_,g,rfl⟩:=i;obtain⟨hd,v,m,k⟩:=b;exact leave _ v m k
 |panic ch=>
  obtain⟨_,g,rfl⟩:=i;exact RX.throw b.1 ⟨_,q⟩<|.refl ⟨_,b.2,rfl⟩
 |exit id=>exact b.2.elim
 |goto l=>exact b.2.elim
 |outgrown=>exact b.2.elim
end
section
variable {P:aV} {F:Array Func} {dm:Frame} {w:World} {a:Act} {Q:Exit->Act->World->Prop} {fn:FuncId} {ops:Array aD} {md:Region.Mode}
def Xn.draw(K:J0 P F)(s:¬Mc P fn)(y:P.follows .mixedOrders=bL)(h:∀t,gY P fn ops Q (aC .any ops ops.size t (aW ops.size bK) []) a w):Xn P fn (.region id ops bL) Q a w:=fun b k c o m p q r=>by
 have v:¬Mc P b.fn:=by rw[m];exact s
 refine(RX.one K v (G:=fun l w1=>∃t,l=Z0 (b.at a (.inRegion ops (aC .any ops ops.size t (aW ops.size bK) [])::k)) c/\kE w w1) fun X _ t d=>?_).trans fun l w1 ⟨t,f,g⟩=>?_;have z:∃n j,aZ (wf P F) bL (Z0 (b.at a (.code (.region id ops bL)::k)) c) (A.re w t d)= .go (Z0 (b.at a (.inRegion ops (aC .any ops ops.size n (aW ops.size bK) [])::k)) c) j #[]/\kE w j:=by
  have i:(wf P F).follows .mixedOrders=bL:=y;refine⟨t d<|.order b.fn id,A.re w t _, ?_,t,d+1,rfl⟩;simp[aZ,Z0,Frame.at,bI,choose,Sem.run,Region.schedule,i,Region.linearise,A.re];rfl
 obtain⟨n,j,e,x⟩:=z;exact⟨⟨_,_,⟨_,e,rfl,rfl⟩,n,rfl,x⟩,fun C D B f g=>by
  rw[e]at f;cases f;have:c.length=c.length+1:=g;omega⟩
 subst f;exact g.rx<|h t b k c o m p q r
def oX(P:Zp)(fn:FuncId)(ops:Array aD)(Q:Exit->Act->Zy->Prop)(i:Nat)(K:Act->Zy->Prop)(a:Act)(w:Zy):Prop:=
 ∀rest,(∀a' w',K a' w'->gY P fn ops Q rest a' w')->gY P fn ops Q (i::rest) a w
def UH(P:Zp)(fn:FuncId)(md:Region.Mode)(ops:Array aD)(Q:Exit->Act->Zy->Prop):Nat->Array Bool->Act->Zy->Prop
 |0,listed,a,w=>Region.ready md ops listed=[]/\Q .normal a w
 |fuel+1,listed,a,w=>(Region.ready md ops listed=[]->Q .normal a w)/\∀i∈Region.ready md ops listed,oX P fn ops Q i (UH P fn md ops Q fuel<|listed.setIfInBounds i bL) a w
def zvk(K:J0 P F)(d:¬Mc P fn):∀(fuel t:Nat) (listed:Array Bool) (a:Act) (w:Zy),UH P fn md ops Q fuel listed a w->gY P fn ops Q (aC md ops fuel t listed []) a w:=by
 intro fuel;induction fuel with
 |zero=>intro t listed a w h;simpa[aC]using gY.nil (ops:=ops) K d h.2
 |succ fuel ih=>
  intro t listed a w h;obtain⟨f,g⟩:=h;simp only[aC];change gY P fn ops Q (match(Region.ready md ops listed)[t%(Region.ready md ops listed).length]?with
   |some i=>aC md ops fuel (t/(Region.ready md ops listed).length) (listed.setIfInBounds i bL) [i]
   |none=>[].reverse) a w
  cases hi:(Region.ready md ops listed)[t%(Region.ready md ops listed).length]?with
  |none=>
   have b:Region.ready md ops listed=[]:=by
    cases hr:Region.ready md ops listed with
    |nil=>rfl
    |cons x xs=>
     rw[hr]at hi;have c:t%(x::xs).length<(x::xs).length:=Nat.mod_lt _ (by simp);simp at hi;simp at c;omega
   simpa using gY.nil (ops:=ops) K d<|f b
  |some i=>
   simp only[];rw[linearise_go_acc,XW,Wm];exact g i (List.mem_of_getElem? hi) _ fun e j hk=>ih _ _ e j hk
def Xn.any(K:J0 P F)(b:¬Mc P fn)(c:P.follows .mixedOrders=bL)(h:UH P fn .any ops Q ops.size (aW ops.size bK) a w):Xn P fn (.region id ops bL) Q a w:=
 Xn.draw K b c fun t=>zvk K b _ t _ a w h
end
section
variable {P:aV} {F:Array Func} {dm:Frame} {w w':World} {a:Act} {Q:Exit->Act->World->Prop} {fn:FuncId} {ops:Array aD} {md:Region.Mode} {i:Nat} {op:aD} {N:Act->World->Prop}
def oX.mono{N':Act->Zy->Prop}(h:∀a w,N a w->N' a w)(k:oX P fn ops Q i N a w):oX P fn ops Q i N' a w:=fun b hk=>k b fun c d e=>hk c d<|h c d e
def oX.value(K:J0 P F){val:Zv}(c:¬Mc P fn)(ho:ops[i]?=bO op)(hw:aX op (yielded ops a.tmps)=bL)
  (e:∀t d,∃t' d',(bG a.eval op).run (wf P F) (A.re w t d)= .ok (.value val) (A.re w' t' d'))(h:N (a.put op.dst val) w'):oX P fn ops Q i N a w:=fun b hk=>gY.value K c ho hw e<|hk _ _ h
def oX.skip(K:J0 P F)(c:¬Mc P fn)(ho:ops[i]?=bO op)(hw:aX op (yielded ops a.tmps)=bL)
  (e:∀t d,∃t' d',(bG a.eval op).run (wf P F) (A.re w t d)= .ok .skip (A.re w' t' d'))(h:N (a.put op.dst bJ) w'):oX P fn ops Q i N a w:=fun b hk=>gY.skip K c ho hw e<|hk _ _ h
def oX.call(K:J0 P F)(c:¬Mc P fn)(hd:a.defers=[])(ho:ops[i]?=bO op)(hw:aX op (yielded ops a.tmps)=bL)
  (k:∀v,(bG a.eval op).run (wf P F) v= .ok (.enter f args) v)(j:Ys P F f)(e:CC P f args w R)
  (h:∀v w',R (.returned v) w'->N (a.put op.dst v) w')(g:∀ch w',R (.panicked ch) w'->Q (.panic ch) a w'):oX P fn ops Q i N a w:=fun b hk=>gY.call K c hd ho hw k j e (fun v w' d=>hk _ _<|h v w' d) g
end
section
variable {P:aV} {F:Array Func} {dm:Frame} {w w':World} {a:Act} {Q:Exit->Act->World->Prop} {fn:FuncId} {ops:Array aD} {i:Nat} {op:aD} {rest:List Nat}
def RX.mP{b:Zf}{k:List Item}{cs:List Zf}{G':Zg->Zy->Prop}(ho:ops[i]?=bO op)(hw:aX op (yielded ops a.tmps)=bL)(hk:b.kind≠ .early)
  (t:∀v,(bG a.eval op).run P v= .ok (.enter f args) v)(q:∀v,listed P b.fn a op v=#[])(r:Mc P f)(m:CC P f args w R)
  (s:∀v w',R (.returned v) w'->RX P (Z0 (b.at (a.put op.dst v) (.inRegion ops rest::k)) cs) w' G')
  (p:∀ch w',R (.panicked ch) w'->RX P (Z0 {b.at a (.inRegion ops (i::rest)::k)with mode:= .panicking ch} cs) w' G'):
  RX P (Z0 (b.at a (.inRegion ops (i::rest)::k)) cs) w G':=by
 refine(RX.move (g':=Z0 (bF P f args .normal) (b.at a (.inRegion ops (i::rest)::k)::cs)) (es:=#[]) (fun v=>by rw[<-q v];exact stepG_enter ho hw hk<|t v) (fun d=>⟨.inl ?_,fun c h=>?_⟩) rfl rfl fun X n e o=>by simp at o).trans ?_;show Mc P (bF P f args .normal).fn;have:(bF P f args .normal).fn=f:=by unfold bF;first|rfl|(split<;>rfl)
 rw[this];exact r;rcases xf.1 h with rfl|l
 exact d.1;exact d.2 c l;rintro x w1 ⟨rfl,rfl⟩;refine(m _ _).trans ?_;rintro g' w' ⟨e,j,g⟩;cases e with
 |outgrown=>exact g.elim
 |returned v=>cases g;rw[IB,ho];exact s _ _ j
 |panicked ch=>cases g;rw[Frame.raise_at];exact p _ _ j
def gY.mP(hd:a.defers=[])(ho:ops[i]?=bO op)(hw:aX op (yielded ops a.tmps)=bL)
  (r:∀v,(bG a.eval op).run P v= .ok (.enter f args) v)(o:∀v,listed P fn a op v=#[])(p:Mc P f)(m:CC P f args w R)
  (q:∀v w',R (.returned v) w'->gY P fn ops Q rest (a.put op.dst v) w')(n:∀ch w',R (.panicked ch) w'->Q (.panic ch) a w'):gY P fn ops Q (i::rest) a w:=fun b k j h d e l g=>
 RX.mP ho hw (by rw[e];simp) r (by rw[d];exact o) p m (fun v w' c=>q v w' c b k j h d e l g) (fun ch w' c=>g (.panic ch) a w' _ (n ch w' c) ⟨hd,_,rfl⟩)
end
end
end A
namespace A
open Go Go.Conc Go.RowKit
variable [pn:Pn]
section
variable {R:Ending→Zy→Prop}
section
variable {P:aV} {F:Array Func} {dm:Frame} {w w':World} {a:Act} {Q:Exit->Act->World->Prop} {fn:FuncId} {ops:Array aD} {rest:List aD} {op:aD}
def kT(Q:Exit->Act->Zy->Prop):Prop:=∀e a w t d,Q e a (re w t d)↔Q e a w
def kT.dV(h:kT Q){y:Code}:kT<|A.dV (fun a' w'=>Xn P fn y Q a' w') Q:=by
 intro e a w t d;cases e with
 |normal=>exact Xn.zU
 |exit id=>exact h _ _ _ _ _
 |goto l=>exact h _ _ _ _ _
 |ret=>exact h _ _ _ _ _
 |panic ch=>exact h _ _ _ _ _
 |outgrown=>exact h _ _ _ _ _
def Xn.go(K:J0 P F)(b:gN P dm)(c:¬Mc P fn)(e:kT Q){x y:Code}(hy:hot [.code y])(h:∀t d,x.wp (wf P F) (A.dV (fun a' w'=>Xn P fn y Q a' w') Q) a<|re w t d):Xn P fn (.seq x y) Q a w:=
 Xn.seq K c hy (Xn.of_wp K b c e.dV h)
def Xn.go'(K:J0 P F)(b:gN P dm)(c:¬Mc P fn)(f:kT Q){x y:Code}(hy:hot [.code y])
  (h:∀(w0:Zy) (Po:Exit->Act->Zy->Prop),kE w w0->Hid (∀a' w',Xn P fn y Q a' w'->Po .normal a' w')->Hid (∀e a' w',e≠ .normal->Q e a' w'->Po e a' w')->x.wp (wf P F) Po a w0):Xn P fn (.seq x y) Q a w:=
 Xn.go K b c f hy fun t d=>h _ _ ⟨t,d,rfl⟩ (fun a' w' i=>i) fun e a' w' g j=>by cases e<;>first|exact j|exact absurd rfl g
def Xn.last'(K:J0 P F)(b:gN P dm)(c:¬Mc P fn)(f:kT Q){x:Code}
  (h:∀(w0:Zy) (Po:Exit->Act->Zy->Prop),kE w w0->Hid (∀e a' w',Q e a' w'->Po e a' w')->x.wp (wf P F) Po a w0):Xn P fn x Q a w:=
 Xn.of_wp K b c f fun t d=>h _ _ ⟨t,d,rfl⟩ fun e a' w' g=>g
def nJ(P:Zp)(F:Zc)(fnc:Func)(R:Ending->Zy->Prop)(e:Exit)(a:Act)(w:Zy):Prop:=
 a.defers=[]/\match e with
   | .normal| .ret=>∃v,(∀t d,∃t' d',(results fnc a.tmps).run (wf P F) (re w t d)= .ok v (re w t' d'))/\R (.returned v) w
   | .panic ch=>R (.panicked ch) w
   |_=>False
def AO{fnc:Func}(b:∀e w t d,R e (re w t d)↔R e w):kT<|nJ P F fnc R:=by
 intro e a w t d;refine and_congr_right fun _=>?_;cases e with
 |normal=>exact exists_congr fun v=>and_congr (by simp only[vK])<|b ..
 |ret=>exact exists_congr fun v=>and_congr (by simp only[vK])<|b ..
 |panic ch=>exact b ..
 |exit id=>exact Iff.rfl
 |goto l=>exact Iff.rfl
 |outgrown=>exact Iff.rfl
def CC.fA(K:J0 P F){f:FuncId}{args:Za}{fnc:Func}{c:Code}(a:¬Mc P f)(e:F[f]?=P.funcs[f]?)(d:P.funcs[f]?=bO fnc)(b:fnc.body=bO c)
  (h:Xn P f c (nJ P F fnc R) ⟨args++aW (fnc.ntmps-args.size) bJ,[]⟩ w):CC P f args w R:=CC.zQ K a e d b trivial h
def Jc(P:Zp)(fn:FuncId)(ops:Array aD)(Q:Exit->Act->Zy->Prop)(l:List aD)(a:Act)(w:Zy):Prop:=
 ∀k,(∀j,l[j]?=ops[k+j]?)->gY P fn ops Q (List.range' k l.length) a w
def Xn.dB(K:J0 P F){id:Nat}{l:List aD}(b:¬Mc P fn)(h:Jc P fn l.toArray Q l a w):Xn P fn (.region id l.toArray bK) Q a w:=by
 refine Xn.region K b ?_;have:=h 0 (fun j=>by simp);rwa[List.range_eq_range']
def Jc.nil(K:J0 P F)(b:¬Mc P fn)(h:Q .normal a w):Jc P fn ops Q [] a w:=fun k hk=>gY.nil K b h
def Jc.jG{l:List aD}{k:Nat}(h:∀j,(op::l)[j]?=ops[k+j]?):ops[k]?=bO op/\∀j,l[j]?=ops[k+1+j]?:=
 ⟨by simpa using(h 0).symm,fun j=>by have:=h<|j+1;simpa[Ja,zW 1 j]using this⟩
def Jc.value(K:J0 P F){val:Zv}(e:¬Mc P fn)(hw:aX op (yielded ops a.tmps)=bL)
  (f:∀t d,∃t' d',(bG a.eval op).run (wf P F) (re w t d)= .ok (.value val) (re w' t' d'))(h:Jc P fn ops Q rest (a.put op.dst val) w'):Jc P fn ops Q (op::rest) a w:=fun k hk=>by
 obtain⟨b,c⟩:=Jc.jG hk;rw[zh,IG];exact gY.value K e b hw f<|h _ c
def Jc.skip(K:J0 P F)(e:¬Mc P fn)(hw:aX op (yielded ops a.tmps)=bL)
  (f:∀t d,∃t' d',(bG a.eval op).run (wf P F) (re w t d)= .ok .skip (re w' t' d'))(h:Jc P fn ops Q rest (a.put op.dst bJ) w'):Jc P fn ops Q (op::rest) a w:=fun k hk=>by
 obtain⟨b,c⟩:=Jc.jG hk;rw[zh,IG];exact gY.skip K e b hw f<|h _ c
def Jc.call(K:J0 P F){f:FuncId}{args:Za}(d:¬Mc P fn)(hd:a.defers=[])(hw:aX op (yielded ops a.tmps)=bL)
  (l:∀v,(bG a.eval op).run (wf P F) v= .ok (.enter f args) v)(j:Ys P F f)(g:CC P f args w R)
  (i:∀v w',R (.returned v) w'->Jc P fn ops Q rest (a.put op.dst v) w')(h:∀ch w',R (.panicked ch) w'->Q (.panic ch) a w'):Jc P fn ops Q (op::rest) a w:=fun k hk=>by
 obtain⟨b,c⟩:=Jc.jG hk;rw[zh,IG];exact gY.call K d hd b hw l j g (fun v w' e=>i v w' e _ c) h
def Jc.mP{f:FuncId}{args:Za}(hd:a.defers=[])(hw:aX op (yielded ops a.tmps)=bL)
  (l:∀v,(bG a.eval op).run P v= .ok (.enter f args) v)(h:∀v,listed P fn a op v=#[])(i:Mc P f)(e:CC P f args w R)
  (j:∀v w',R (.returned v) w'->Jc P fn ops Q rest (a.put op.dst v) w')(g:∀ch w',R (.panicked ch) w'->Q (.panic ch) a w'):Jc P fn ops Q (op::rest) a w:=fun k hk=>by
 obtain⟨b,c⟩:=Jc.jG hk;rw[zh,IG];exact gY.mP hd b hw l h i e (fun v w' d=>j v w' d _ c) g
end
end
end A
namespace A
open Go Go.Conc
variable [pn:Pn]
section
variable {X:Nat->Prop} {Th:Loc->Prop} {Wg C c p B:Nat} {a0:Addr} {T u:Trace}
def qX(Wg:Nat)(l:Loc):Prop:=∃a,l= .cell a/\a.block=Wg
structure NK(X:ZP)(Th:Loc->Prop)(Wg C:Nat):Prop where
 th:∀l,Th l->oI X l\/∃r,l= .obj r/\X r
 wg:X Wg
 no:∀l,Th l->¬qX Wg l
 nc:¬Th (.obj C)
 xc:X C
structure TP(X:ZP)(Th:Loc->Prop)(Wg C c:Nat)(a0:Addr)(p B:Nat)(T:Trace):Prop where
 clean:∀said,¬Race said T
 k0:∀i a,touchAt T i=bO a->a.loc.isMemory=bL->Knows T 0 i\/(oI X a.loc/\a.kind= .atomic)\/(T.g? i=bO c/\Th a.loc/\a.write=bK/\a.kind= .plain)\/(rZ X a.loc/\¬Th a.loc/\a.write=bK)
 kc:∀i a,touchAt T i=bO a->Th a.loc->a.write=bL->Knows T c i
 kt:∀i a,touchAt T i=bO a->Th a.loc->Knows T 0 i\/(T.g? i=bO c/\a.write=bK/\a.kind= .plain)
 kC:∀i a,touchAt T i=bO a->a.loc= .obj C->a.write=bK
 kw:∀i a,touchAt T i=bO a->qX Wg a.loc->a.kind≠ .plain/\(a.kind= .said->Knows T 0 i)
 over:∀i g,T.g? i=bO g->g≠0->T.counts i->(∃j,T.g? j=bO 0/\HappensBefore T i j)\/g=c
 seen:∀i a,touchAt T i=bO a->a.loc.low B
 norel:∀i,p<=i->T.act? i≠bO (.mark<|.release a0)
def eE(X:ZP)(Th:Loc->Prop)(Wg C c g:Nat)(b:Touch):Prop:=
 (g=0/\(¬oI X b.loc\/Th b.loc)/\(Th b.loc->b.write=bK\/c=0)/\(rZ X b.loc->¬Th b.loc->b.write=bK))\/(qX Wg b.loc/\(b.kind= .atomic\/(b.kind= .said/\g=0)))\/(g=c/\Th b.loc/\b.write=bK/\b.kind= .plain)\/(g=c/\b.loc= .obj C/\b.write=bK)
def TP.mono{B':Nat}(h:TP X Th Wg C c a0 p B T)(b:B<=B'):TP X Th Wg C c a0 p B' T:=⟨h.clean,h.k0,h.kc,h.kt,h.kC,h.kw,h.over,fun i a d=>Loc.low_mono b<|h.seen i a d,h.norel⟩
def ZY(h:∀i,p<=i->T.act? i≠bO (.mark<|.release a0))(g:∀op∈u,op.act≠ .mark (.release a0)):∀i,p<=i->(T++u).act? i≠bO (.mark<|.release a0):=by
 intro i f d;obtain⟨op,e,a⟩:=zt.1 d;rcases getElem?_append_cases e with⟨_,b⟩|⟨_,c⟩
 exact h i f (by rw[act?_of b,a]);exact g op c a
def o6(h:∀i a,touchAt T i=bO a->a.loc.low B)(f:∀op∈u,∀x,op.act.touch?=bO x->x.loc.low B):∀i a,touchAt (T++u) i=bO a->a.loc.low B:=fun i a e=>by
 rcases Zo e with⟨_,b⟩|⟨_,op,c,_,d⟩;exact h i a b;exact f op c a d
def TP.app(A:NK X Th Wg C)(h:TP X Th Wg C c a0 p B T){g:Nat}(hg:g=0\/g=c)(D:∀op∈u,op.g=g)(J:∀op∈u,∀b,op.act.touch?=bO b->b.loc.isMemory=bL->eE X Th Wg C c g b)
  (hl:∀op∈u,∀x,op.act.touch?=bO x->x.loc.low B)(hr:∀op∈u,op.act≠ .mark (.release a0))(N:∀l,Th l->l.isMemory=bL):TP X Th Wg C c a0 p B<|T++u:=by
 have wx:∀l,qX Wg l->oI X l:=fun l ⟨a,e,I⟩=>⟨a,e,by rw[I];exact A.wg⟩;have wm:∀l,qX Wg l->l.isMemory=bL:=fun l ⟨a,e,I⟩=>by rw[e];rfl
 have wc:¬qX Wg (.obj C):=fun⟨a,e,_⟩=>by cases e
 have own:∀{i},T.g? i=bO 0->Knows T 0 i:=fun {i} hk=>by
  obtain⟨z,Q,H⟩:=zt.1 hk;have:=knows_own Q;rwa[H]at this
 refine⟨fun said=>noRace_append (h.clean said) D fun i a o op k b I r=>?_,fun i a o hm=>?_,fun i a o v O=>?_,fun i a o v=>?_,fun i a o L=>?_,fun i a o F=>?_,fun i g1 G M U=>?_,o6 h.seen hl,ZY h.norel hr⟩;have S:b.loc.isMemory=bL:=by rw[<-r.1];exact r.2.1
 have t:a.write=bK->b.write=bK->False:=fun f d=>by
  rcases r.2.2.1 with x|x;rw[f]at x;cases x;rw[d]at x;cases x
 rcases J op k b I S with⟨rfl,f,d,y⟩|⟨f,d⟩|⟨rfl,f,d,_⟩|⟨rfl,f,d⟩;by_cases s:Th b.loc;rcases h.kt i a o (r.1.symm▸s)with hk|⟨hk,R,_⟩;exact hk;rcases d s with h6|rfl;exact(t R h6).elim;exact own hk;rcases h.k0 i a o r.2.1 with hk|⟨hs,_⟩|⟨_,K,_⟩|⟨K,R⟩;exact hk;exact absurd (r.1▸hs)<|f.resolve_right s;exact absurd (r.1▸K) s;exact(t R.2<|y (r.1▸K) s).elim;obtain⟨y,K⟩:=h.kw i a o<|r.1.symm▸f;rcases d with d|⟨d,rfl⟩;rcases r.2.2.2 with x|x|⟨_,_,x⟩;exact absurd x y;rw[d]at x;cases x;rw[d]at x;cases x;rcases r.2.2.2 with x|x|⟨_,x,_⟩;exact absurd x y;rw[d]at x;cases x;exact K x;refine h.kc i a o (r.1.symm▸f) ?_;rcases r.2.2.1 with x|x;exact x;rw[d]at x;cases x;exact(t (h.kC i a o<|r.1.trans f) d).elim;rcases Zo o with⟨q,m⟩|⟨q,op,k,w,n⟩;rcases h.k0 i a m hm with hk|hk|⟨W,Y⟩|hk;exact .inl<|hk.app u;exact .inr<|.inl hk;exact .inr<|.inr<|.inl ⟨by rw[g?_old q];exact W,Y⟩;exact .inr<|.inr<|.inr hk;have E:Knows (T++u) g i:=by
  have:=knows_own w;rwa[D op k]at this
 rcases J op k a n hm with⟨rfl,_⟩|⟨f,d⟩|⟨rfl,f,d,y⟩|⟨rfl,f,d⟩;exact .inl E;rcases d with d|⟨_,rfl⟩;exact .inr<|.inl ⟨wx _ f,d⟩;exact .inl E;exact .inr<|.inr<|.inl ⟨by simp[Trace.g?,w,D op k],f,d,y⟩;exact .inr<|.inr<|.inr ⟨⟨C,f,A.xc⟩,f▸A.nc,d⟩;rcases Zo o with⟨q,m⟩|⟨q,op,k,w,n⟩;exact(h.kc i a m v O).app u;have E:Knows (T++u) g i:=by
  have:=knows_own w;rwa[D op k]at this
 rcases J op k a n (N _ v)with⟨rfl,_,d,_⟩|⟨f,_⟩|⟨_,_,d,_⟩|⟨_,f,_⟩;rcases d v with d|rfl;rw[d]at O;cases O;exact E;exact absurd f<|A.no _ v;rw[d]at O;cases O;exact absurd (f▸v) A.nc;rcases Zo o with⟨q,m⟩|⟨q,op,k,w,n⟩;exact(h.kt i a m v).imp (·.app u) fun x=>⟨by rw[g?_old q];exact x.1,x.2⟩;have E:Knows (T++u) g i:=by
  have:=knows_own w;rwa[D op k]at this
 rcases J op k a n (N _ v)with⟨rfl,_⟩|⟨f,_⟩|⟨rfl,_,d,y⟩|⟨_,f,_⟩;exact .inl E;exact absurd f<|A.no _ v;exact .inr ⟨by simp[Trace.g?,w,D op k],d,y⟩;exact absurd (f▸v) A.nc;rcases Zo o with⟨q,m⟩|⟨q,op,k,w,n⟩;exact h.kC i a m L;rcases J op k a n (by rw[L];rfl)with⟨_,_,_,d⟩|⟨f,_⟩|⟨_,_,d,_⟩|⟨_,_,d⟩;exact d ⟨C,L,A.xc⟩<|L▸A.nc;exact absurd (L▸f) wc;exact d;exact d;rcases Zo o with⟨q,m⟩|⟨q,op,k,w,n⟩;exact⟨(h.kw i a m F).1,fun e=>((h.kw i a m F).2 e).app u⟩;have E:Knows (T++u) g i:=by
  have:=knows_own w;rwa[D op k]at this
 rcases J op k a n (wm _ F)with⟨_,f,_⟩|⟨_,d⟩|⟨_,f,_⟩|⟨_,f,_⟩;rcases f with f|f;exact absurd (wx _ F) f;exact absurd F<|A.no _ f;rcases d with d|⟨d,rfl⟩;exact⟨by rw[d];simp,fun e=>by rw[d]at e;cases e⟩;exact⟨by rw[d];simp,fun _=>E⟩;exact absurd F<|A.no _ f;exact absurd (f▸F) wc;rcases Vi i T.size with q|q;rcases h.over i g1 (by rw[<-g?_old (u:=u) q];exact G) M ((counts_old q).1 U)with⟨j,hj,I⟩|e;have V:j<T.size:=by
  unfold Trace.g? at hj;obtain⟨z,Q,_⟩:=zt.1 hj;exact lt_size_of_getElem? Q
 exact .inl ⟨j,by rw[g?_old V];exact hj,hb_app u I⟩;exact .inr e;unfold Trace.g? at G;obtain⟨z,Q,H⟩:=zt.1 G;rcases getElem?_append_cases Q with⟨ba,_⟩|⟨_,Z⟩
 omega;have:=D z Z;rw[H]at this;rcases hg with rfl|rfl
 exact absurd this M;exact .inr this
def TP.mutes(h:TP X Th Wg C c a0 p B T){g:Nat}(M:∀op∈u,op.g=g)(o:∀op∈u,op.act.touch?=none)(L:∀op∈u,op.act≠ .mark (.release a0)):TP X Th Wg C c a0 p B<|T++u:=by
 refine⟨fun said=>noRace_append (h.clean said) M fun i a m op d b t Q=>(by rw[o op d]at t;cases t),fun i a m K=>?_,fun i a m v N=>?_,fun i a m v=>?_,fun i a m I=>?_,fun i a m G=>?_,fun i H w F q=>?_,o6 h.seen (fun op d x n=>by rw[o op d]at n;cases n),ZY h.norel L⟩;rcases Zo m with⟨l,k⟩|⟨l,op,d,n,f⟩
 rcases h.k0 i a k K with hk|hk|⟨D,E⟩|hk;exact .inl<|hk.app u;exact .inr<|.inl hk;exact .inr<|.inr<|.inl ⟨by rw[g?_old l];exact D,E⟩;exact .inr<|.inr<|.inr hk;rw[o op d]at f;cases f;rcases Zo m with⟨l,k⟩|⟨l,op,d,n,f⟩;exact(h.kc i a k v N).app u;rw[o op d]at f;cases f;rcases Zo m with⟨l,k⟩|⟨l,op,d,n,f⟩;exact(h.kt i a k v).imp (·.app u) fun x=>⟨by rw[g?_old l];exact x.1,x.2⟩;rw[o op d]at f;cases f;rcases Zo m with⟨l,k⟩|⟨l,op,d,n,f⟩;exact h.kC i a k I;rw[o op d]at f;cases f;rcases Zo m with⟨l,k⟩|⟨l,op,d,n,f⟩;exact⟨(h.kw i a k G).1,fun e=>((h.kw i a k G).2 e).app u⟩;rw[o op d]at f;cases f;obtain⟨x,n,_⟩:=id q;rcases Vi i T.size with l|l;rcases h.over i H (by rw[<-g?_old (u:=u) l];exact w) F ((counts_old l).1 q)with⟨j,hj,t⟩|e;have y:j<T.size:=by
  unfold Trace.g? at hj;obtain⟨z,O,_⟩:=zt.1 hj;exact lt_size_of_getElem? O
 exact .inl ⟨j,by rw[g?_old y];exact hj,hb_app u t⟩;exact .inr e;exfalso;obtain⟨op,d,s⟩:=touch_of n;rcases getElem?_append_cases d with⟨J,_⟩|⟨_,r⟩
 omega;rw[o op r]at s;cases s
def TP.fork(h:TP X Th Wg C 0 a0 p B T)(W:c≠0)(M:Deaf T 0=0)(H:Deaf T c=0){x y:MemOp}(hx:x.g=0/\x.act= .go c)(hy:y.g=c/\y.act= .start):TP X Th Wg C c a0 p B<|T++#[x,y]:=by
 have J:(T++#[x,y])[T.size]?=bO x:=by simp
 have K:(T++#[x,y])[T.size+1]?=bO y:=by simp
 have o:HappensBefore (T++#[x,y]) T.size<|T.size+1:=by
  refine .single<|.inr ⟨.spawn (by rw[act?_of J,hx.2]) (by rw[act?_of K,hy.2])<|by simp[Trace.g?,hy.1],⟨0,by simp[Trace.g?,hx.1], ?_⟩,⟨c,by simp[Trace.g?,hy.1], ?_⟩⟩;rw[deaf_old<|ze _];exact M;rw[deaf_succ J,deaf_old<|ze _];have:T.deaf c T.size=0:=H;rw[this];simp[deafStep,hx.2]
 have E:∀l∈#[x,y],l.act.touch?=none:=fun l d=>by
  simp at d;rcases d with rfl|rfl
  rw[hx.2];rfl;rw[hy.2];rfl
 have k:∀{i a},touchAt (T++#[x,y]) i=bO a->touchAt T i=bO a:=fun {i a} f=>by
  rcases Zo f with⟨s,G⟩|⟨s,l,d,hx,D⟩;exact G;rw[E l d]at D;cases D
 have U:∀{i a},touchAt T i=bO a->i<T.size:=fun {i a} f=>by
  obtain⟨z,n,_⟩:=touch_of f;exact lt_size_of_getElem? n
 refine⟨fun said=>?_,fun i a f Q=>?_,fun i a f F S=>?_,fun i a f F=> .inl ?_,fun i a f N=>h.kC i a (k f) N,fun i a f L=>⟨(h.kw i a (k f) L).1,fun e=>((h.kw i a (k f) L).2 e).app _⟩,fun i g O v r=>?_,o6 h.seen (fun l d x hx=>by rw[E l d]at hx;cases hx),ZY h.norel fun l d=>?_⟩;have e:T++#[x,y]=(T++#[x])++#[y]:=by rw[Zs];rfl
 rw[e];refine noRace_append (g:=c) (noRace_append (g:=0) (h.clean said) (fun l d=>by simp at d;subst d;exact hx.1) fun i a f l d b hb _=>?_) (fun l d=>by simp at d;subst d;exact hy.1) fun i a f l d b hb _=>?_;rw[E l<|by simp at d⊢;exact .inl d]at hb;cases hb;rw[E l<|by simp at d⊢;exact .inr d]at hb;cases hb;rcases h.k0 i a (k f) Q with hk|hk|⟨hk,_⟩|hk
 exact .inl<|hk.app _;exact .inr<|.inl hk;obtain⟨z,n,m⟩:=zt.1 hk;have:=knows_own n;rw[m]at this;exact .inl<|this.app _;exact .inr<|.inr<|.inr hk;obtain⟨q,z,n,m,hb⟩:=h.kc i a (k f) F S;have w:=lt_size_of_getElem? n;have V:HappensBefore (T++#[x,y]) q T.size:= .single (.inl ⟨w,0,by simp[Trace.g?,getElem?_append_old w,n,m],by simp[Trace.g?,hx.1]⟩);exact⟨T.size+1,y,K,hy.1,.inr<|(hb.app _).hb<|.trans V o⟩;rcases h.kt i a (k f) F with hk|⟨hk,_⟩
 exact hk.app _;obtain⟨z,n,m⟩:=zt.1 hk;have:=knows_own n;rw[m]at this;exact this.app _;rcases Vi i T.size with s|s
 rcases h.over i g (by rw[<-g?_old (u:=#[x,y]) s];exact O) v ((counts_old s).1 r)with⟨j,hj,hb⟩|e;have I:j<T.size:=by
  unfold Trace.g? at hj;obtain⟨z,n,_⟩:=zt.1 hj;exact lt_size_of_getElem? n
 exact .inl ⟨j,by rw[g?_old I];exact hj,hb_app _ hb⟩;exact absurd e v;exfalso;obtain⟨t,R,_⟩:=r;have:=U<|k R;omega;simp at d;rcases d with rfl|rfl
 rw[hx.2];simp;rw[hy.2];simp
structure Rel(a:Addr)(c:Nat)(T:Trace)(r:Nat):Prop where
 act:T.act? r=bO (.mark<|.releaseMerge a)
 g:T.g? r=bO c
 heard:T.heard r
 after:∀i,r<i->T.g? i=bO c->¬T.counts i
def Rel.app{a:Addr}{r:Nat}(h:Rel a c T r)(k:∀i,T.size<=i->(T++u).g? i=bO c->¬(T++u).counts i):Rel a c (T++u) r:=by
 have e:=lt_of_act? h.act;refine⟨by rw[act?_old e];exact h.act,by rw[g?_old e];exact h.g,(heard_old e).2 h.heard,fun i j f=>?_⟩;rcases Vi i T.size with b|d
 rw[counts_old b];exact h.after i j (by rw[<-g?_old (u:=u) b];exact f);exact k i d f
def TP.join(A:NK X Th Wg C)(h:TP X Th Wg C c a0 p B T){r q:Nat}(m:Rel a0 c T r)(L:p<=r)(M:T.act? q=bO (.mark<|.acquire a0))(E:T.g? q=bO 0)(I:T.heard q)(x:r<q)(hd:Deaf T 0=0)
  {X':ZP}(n:∀l,oI X l->¬Th l->oI X' l)(o:∀l,rZ X l->¬Th l->rZ X' l):qD X' B T:=by
 have d:HappensBefore T r q:= .single (.inr ⟨.marked x (.inr m.act) M fun k hk _=>h.norel k<|by omega,m.heard,I⟩);obtain⟨z,D,f⟩:∃z,T[q]?=bO z/\z.g=0:=by
  obtain⟨z,D,f⟩:=zt.1 E;exact⟨z,D,f⟩
 have G:∀i,T.g? i=bO c->T.counts i->HappensBefore T i q:=fun i a j=>by
  have K:=Nat.le_of_not_lt fun e=>m.after i e a j;rcases Vi i r with e|H
  exact .trans (.single<|.inl ⟨e,c,a,m.g⟩) d;obtain rfl:i=r:=by omega
  exact d
 refine⟨h.clean,fun i t y F=>?_,fun i g a w j=>?_,hd,h.seen⟩;by_cases b:Th t.loc;rcases h.kt i t y b with hk|⟨s,J,v⟩
 exact .inl hk;exact .inl ⟨q,z,D,f,.inr<|G i s ⟨t,y,F,.inl<|by rw[v];simp⟩⟩;rcases h.k0 i t y F with hk|hk|⟨_,hk,_⟩|hk
 exact .inl hk;exact .inr<|.inl ⟨n _ hk.1 b,hk.2⟩;exact absurd hk b;exact .inr<|.inr ⟨o _ hk.1 b,hk.2.2⟩;rcases h.over i g a w j with hk|rfl
 exact hk;exact⟨q,E,G i a j⟩
end
end A
namespace A
open Go Go.Conc
open Go.ConcN (sumTo upd sumTo_upd upd_ne upd_same RW DWs AtR0 AtK1 AtD1 AtD2 AtD3 AtD4 WgLive PayAt Has AsideCell EvW)
open Go.ConcR (KK wgBlock WgAt stA smA rd wr mk Payload DC0)
variable [pn:Pn]
section
variable [Payload] (P:aV) (ty:TypeId) (Wg C:Nat) (S:Nat->Prop) (D M c:Nat) (vals:List Value) (o:Nat->Obj)
def pK(S:ZP)(M:Nat)(l:Loc):Prop:=(∃a,l= .cell a/\(S a.block\/a.block=M))\/∃x,l= .obj x/\(S x\/x=M)
def Kc(S:ZP)(M:Nat)(o:Nat->Obj)(w:Zy):Prop:=∀x,S x\/x=M->w.heap[x]?=bO (o x)
def RS(S:ZP)(M:Nat)(o:Nat->Obj)(w w₁:Zy):Prop:=Kc S M o w->Kc S M o w₁
def xQ(S:ZP)(M:Nat)(e:Event):Prop:=(∀x,(aU e).touch?=bO x->pK S M x.loc/\x.write=bK/\x.kind= .plain)/\e.loc≠ .mark .disable/\e.loc≠ .mark .enable/\∀a,e.loc≠ .mark (.release a)
def DS(S:ZP)(M:Nat)(w w':Zy)(es:Array Event):Prop:=w'=w/\∀e∈es,xQ S M e
def rY:Nat->Loc->Prop:=fun _ _=>False
def WJ(g:Zg)(w:Zy):Prop:=g.status= .running/\(WgLive ty Wg w->∃v0 v1 m0 m1,
 Goes P bK (RW ty Wg D 3 0 0) (DWs Wg rY rY D 3 1) (AtR0 P ty Wg D 3 0 1 v0) m0 g w/\Goes P bK (RW ty Wg D 3 0 1) (DWs Wg rY rY D 3 2) (AtR0 P ty Wg D 3 0 2 v1) m1 g w)
def Fin(g:Zg)(w:Zy):Prop:=∃m,Goes P bK (RS S M o) (DS S M) (WJ P ty Wg D) m g w
def MB(g:Zg)(w:Zy):Prop:=g.status= .running/\mayWake P g=bL/\∀cap buf s r,w.heap[C]?=bO (.chan cap buf bK s r bK)->
 ∃g':Zg,aZ P bK g w= .go g' (w.setChan C cap buf bL s r bK) #[⟨.obj C,bK,bL⟩,⟨.obj C,bL,bL⟩]/\g'.status= .running/\∀w',Kc S M o w'->Fin P ty Wg S D M o g' w'
def BV(v:Zv)(Next:Zg->Zy->Prop)(g:Zg)(w:Zy):Prop:=g.status= .running/\∃g₂ z es,aZ P bK g w= .comm g₂ #[scase C v z] bL .send w es/\(∀e∈es,xQ S M e)/\∀w',Kc S M o w'->Next (Conc.served g₂ bJ) w'
def xD:Ze->Zg->Zy->Prop
 |[],g,w=>∃m,Goes P bK (RS S M o) (DS S M) (MB P ty Wg C S D M o) m g w
 |v::vs,g,w=>∃m,Goes P bK (RS S M o) (DS S M) (BV P C S M o v<|xD vs) m g w
inductive Ch:Nat->Nat->Nat->Ze->Zg->Zy->Prop
 |send {v vs m b w} (h:Goes P bK (RS S M o) (DS S M) (BV P C S M o v<|xD P ty Wg C S D M o vs) m b w):Ch 0 (10+vs.length) m (v::vs) b w
 |cls {m b w} (h:Goes P bK (RS S M o) (DS S M) (MB P ty Wg C S D M o) m b w):Ch 0 9 m [] b w
 |fin {m b w} (h:Goes P bK (RS S M o) (DS S M) (WJ P ty Wg D) m b w):Ch 0 8 m [] b w
 |dn {v0 v1 m0 m1 b w} (h0:Goes P bK (RW ty Wg D 3 0 0) (DWs Wg rY rY D 3 1) (AtR0 P ty Wg D 3 0 1 v0) m0 b w) (h1:Goes P bK (RW ty Wg D 3 0 1) (DWs Wg rY rY D 3 2) (AtR0 P ty Wg D 3 0 2 v1) m1 b w):Ch 0 7 (m0+m1) [] b w
 |rel {k m b w} (hk:k=1\/k=2) (h:Goes P bK (RW ty Wg D 3 0<|k-1) DC0 (AtK1 P ty Wg D 3 0 k) m b w):Ch 0 6 m [] b w
 |deaf {k m b w} (hk:k=1\/k=2) (h:Goes P bK (RW ty Wg D 3 0<|k-1) DC0 (AtD1 P ty Wg D 3 0 k) m b w):Ch 1 5 m [] b w
 |d2 {k m b w} (hk:k=1\/k=2) (h:Goes P bK (RW ty Wg D 3 0<|k-1) DC0 (AtD2 P ty Wg D 3 0 k) m b w):Ch 1 4 m [] b w
 |d3 {k m b w} (hk:k=1\/k=2) (h:Goes P bK (RW ty Wg D 3 0<|k-1) DC0 (AtD3 P ty Wg D 3 0 k) m b w):Ch 1 3 m [] b w
 |d4 {k m b w} (hk:k=1\/k=2) (h:Goes P bK (RW ty Wg D 3 0<|k-1) DC0 (AtD4 P ty Wg) m b w):Ch 1 2 m [] b w
 |out {d m b w} (h:QuitsD P m d b):Ch d 1 m [] b w
def iE(rg st:Nat):Int:=if rg=0\/rg=4 then(if st<=1 then 0 else KK)else if 5<=st then KK+1 else if 3<=st then 1 else 0
def gM(rg st:Nat):Int:=if rg=1/\st<=1 then 1 else 0
def xU(rg:Nat):Prop:=rg≠0/\rg≠1/\rg≠4
def e0(rg:Nat):Nat:=if rg=0 then 0 else 1
structure dU(X:ZP)(p rg r d st m:Nat)(left:Ze)(b:Zg)(q:Nat->Nat)(gs:Array Zg)(v:Zy)(t:Trace):Prop where
 pos:0<c
 size:gs.size=c+1
 hb:gs[c]?=bO b
 old:∀i g,0<i->i<c->gs[i]?=bO g->QuitsD P (q i) (Deaf t i) g
 above:∀j,c<j->Deaf t j=0
 ch:Ch P ty Wg C S D M o d st m left b v
 kc:Kc S M o v
 pay:PayAt D 3 v
 chan:v.heap[C]?=bO (.chan vals.length ((vals.take<|vals.length-left.length).drop r).toArray (decide (st<=8)) (vals.length-left.length) r bK)
 nV:r<=vals.length-left.length
 lefts:left=vals.drop (vals.length-left.length)
 wg:WgAt ty Wg v (iE rg st)<|gM rg st
 kH:1<st->st<5->rg=1
 kG:xU rg->st<=1
 tp:TP X (pK S M) Wg C c (stA Wg) p v.heap.size t
 deaf0:Deaf t 0=e0 rg
 eD:Deaf t c=d
 rel:st<=6->∃rr,p<=rr/\Rel (stA Wg) c t rr
 pt:p<=t.size
def JC(X:ZP)(p rg r:Nat)(k:Nat×Nat)(gs:Array Zg)(v:Zy)(t:Trace):Prop:=
 ∃d st m left b q,dU P ty Wg C S D M c vals o X p rg r d st m left b q gs v t/\k=(st,m+sumTo c q)
end
section
variable [Payload] {P:aV} {ty:TypeId} {Wg C:Nat} {S:Nat->Prop} {D M c:Nat} {vals:List Value} {o:Nat->Obj} {X:Nat->Prop} {p rg r:Nat}
def qr{R:Zy->Zy->Prop}{Dd:Zy->Zy->Array Event->Prop}{Stop:Zg->Zy->Prop}(b:∀g w,Stop g w->g.status= .running)(a:∀w,R w w){m:Nat}{g:Zg}{w:Zy}(h:Goes P bK R Dd Stop m g w):g.status= .running:=by
 cases m with
 |zero=>exact b _ _<|h w<|a w
 |succ m=>
  rcases h with h|⟨h,_⟩;exact b _ _<|h w<|a w;exact h
def Y9{i:Nat}(w:Zy):RW ty Wg D 3 0 i w w:=⟨fun _ _ _ _=>rfl,id,id,rfl⟩
def Ch.awake{d st m:Nat}{left:Ze}{b:Zg}{w:Zy}(h:Ch P ty Wg C S D M o d st m left b w):b.status= .running\/b.status= .finished:=by
 cases h with
 |send h=>exact .inl<|qr (fun _ _ x=>x.1) (fun _ x=>x) h
 |cls h=>exact .inl<|qr (fun _ _ x=>x.1) (fun _ x=>x) h
 |fin h=>exact .inl<|qr (fun _ _ x=>x.1) (fun _ x=>x) h
 |dn h0 h1=>exact .inl<|qr (fun _ _ x=>x.1) Y9 h0
 |rel hk h=>exact .inl<|qr (fun _ _ x=>x.1) Y9 h
 |deaf hk h=>exact .inl<|qr (fun _ _ x=>x.1) Y9 h
 |d2 hk h=>exact .inl<|qr (fun _ _ x=>x.1) Y9 h
 |d3 hk h=>exact .inl<|qr (fun _ _ x=>x.1) Y9 h
 |d4 hk h=>exact .inl<|qr (fun _ _ x=>x.1) Y9 h
 |out h=>exact h.status
def Ch.rely{d st m:Nat}{left:Ze}{b:Zg}{w w₁:Zy}(h:Ch P ty Wg C S D M o d st m left b w)(hk:Kc S M o w)(n:S D)(r:∀x,S x\/x=M->w₁.heap[x]?=w.heap[x]?)(y:WgLive ty Wg w₁):
  Ch P ty Wg C S D M o d st m left b w₁:=by
 have s:=r D<|.inl n;have p:RS S M o w w₁:=fun h x t=>(r x t).trans<|h x t;have q:∀a b c,RS S M o a b->RS S M o b c->RS S M o a c:=fun _ _ _ f k x=>k<|f x;have g:∀i,RW ty Wg D 3 0 i w w₁:=fun i=>⟨fun b l=>absurd l<|Wd _,fun _=>y,fun⟨v,e,z⟩=>⟨v,s.trans e,z⟩,by simp[World.cell?,s]⟩;have j:∀i a b c,RW ty Wg D 3 0 i a b->RW ty Wg D 3 0 i b c->RW ty Wg D 3 0 i a c:=fun i _ _ _ f k=>⟨fun b l=>absurd l<|Wd _,k.live∘f.live,k.pay∘f.pay,k.cell.trans f.cell⟩;cases h with
 |send h=>exact .send<|h.rely q p
 |cls h=>exact .cls<|h.rely q p
 |fin h=>exact .fin<|h.rely q p
 |dn h0 f=>exact .dn (h0.rely (j _)<|g _)<|f.rely (j _)<|g _
 |rel hk h=>exact .rel hk<|h.rely (j _)<|g _
 |deaf hk h=>exact .deaf hk<|h.rely (j _)<|g _
 |d2 hk h=>exact .d2 hk<|h.rely (j _)<|g _
 |d3 hk h=>exact .d3 hk<|h.rely (j _)<|g _
 |d4 hk h=>exact .d4 hk<|h.rely (j _)<|g _
 |out h=>exact .out h
def Bi{w v:Zy}(h:Sm P X w v){x:Nat}(hx:X x)(i:Pn.N<=x){o2:Obj}(ho:∀o o',WO o o'->v.heap[x]?=bO o'->WO o o2):Sm P X w {v with heap:=v.heap.setIfInBounds x o2}:=by
 refine⟨by simpa using h.size,fun r a=>?_,fun r a=>?_,h.oks,h.tape,h.drawn,h.os,h.output,⟨h.pin.1,fun r a g=>by
  have:x≠r:=by omega
  rw[show({v with heap:=v.heap.setIfInBounds x o2}:Zy).heap=v.heap.setIfInBounds x o2 from rfl,zd this];exact h.pin.2 r a g⟩⟩
 have:x≠r:=by rintro rfl;exact a hx
 rw[show({v with heap:=v.heap.setIfInBounds x o2}:Zy).heap=v.heap.setIfInBounds x o2 from rfl,zd this];exact h.out r a;obtain⟨o,o',e,c,f⟩:=h.dead r a;by_cases b:x=r;subst b;have d:x<v.heap.size:=(za.1 c).1;exact⟨o,o2,e,by simp[d],ho o o' f c⟩;exact⟨o,o',e,by rw[show({v with heap:=v.heap.setIfInBounds x o2}:Zy).heap=v.heap.setIfInBounds x o2 from rfl,zd b];exact c,f⟩
def RP{w v:Zy}(h:Sm P X w v)(hx:X C)(c:Pn.N<=C){cap s r' cap' s' r'':Nat}{buf buf':Za}{cl cl' tm tm':Bool}(d:v.heap[C]?=bO (.chan cap buf cl s r' tm)):Sm P X w<|v.setChan C cap' buf' cl' s' r'' tm':=
 Bi h hx c fun o i f e=>by
  rw[d]at e;cases e;rcases f with⟨a,_⟩|⟨g,e,_,b⟩
  exact .inl ⟨a,rfl⟩;cases b
def QI{v:Zy}{st sm:Int}(h:WgAt ty Wg v st sm)(x:Int):v.setCell (stA Wg) (.int .u64 x)={v with heap:=v.heap.setIfInBounds Wg<|wgBlock ty x sm}:=by
 unfold WgAt at h;unfold World.setCell;simp only[stA];rw[modify_eq_set _ _ _ _ h];simp[wgBlock]
def Fy{w v:Zy}{st sm:Int}(h:Sm P X w v)(hx:X Wg)(c:Pn.N<=Wg)(d:WgAt ty Wg v st sm)(x y:Int):Sm P X w {v with heap:=v.heap.setIfInBounds Wg<|wgBlock ty x y}:=
 Bi h hx c fun o i f e=>by
  rw[show v.heap[Wg]?=bO (wgBlock ty st sm)from d]at e;cases e;rcases f with⟨_,a⟩|⟨g,e,b,a⟩
  simp[wgBlock,odd]at a;simp only[wgBlock,Obj.cells.injEq]at a;exact .inr ⟨_,ty,by rw[b,a.2.1],rfl⟩
end
end A
namespace A
open Go Go.Conc
open Go.ConcN (sumTo upd sumTo_upd upd_ne upd_same RW DWs AtR0 AtK1 AtD1 WgLive PayAt Has AsideCell EvW)
open Go.ConcR (KK wgBlock WgAt stA smA rd wr mk Payload DC0)
variable [pn:Pn]
section
variable {es:Array Event} {gs:Array Zg}
section
variable [Payload] {P:aV} {ty:TypeId} {Wg C:Nat} {S:Nat->Prop} {D M c:Nat} {vals:List Value} {o:Nat->Obj} {X:Nat->Prop} {p rg r:Nat}
def BI:∀l,pK S M l->l.isMemory=bL:=by
 rintro l (⟨a,rfl,_⟩|⟨x,rfl,_⟩)<;>rfl
def xrh{v:Zy}(hk:Kc S M o v){l:Loc}(h:pK S M l):l.low v.heap.size:=by
 rcases h with⟨a,rfl,b⟩|⟨x,rfl,b⟩;exact(za.1<|hk _ b).1;exact(za.1<|hk x b).1
def fZ{g:Nat}{fn:FuncId}{pos:String}:∀op∈bD g fn pos es,op.g=g:=fun op a=>by obtain⟨e,_,rfl⟩:=zy a;rfl
def Wc{e:Event}{m:Mark}(h:aU e= .mark m):e.loc= .mark m:=by
 obtain⟨l,w,s⟩:=e;cases l with
 |mark m'=>simp only[aU]at h;cases h;rfl
 |obj r=>cases w<;>cases s<;>simp[aU]at h
 |_=>simp[aU]at h
def VN(A:NK X (pK S M) Wg C){v:Zy}{t:Trace}(h:TP X (pK S M) Wg C c (stA Wg) p v.heap.size t)(hk:Kc S M o v){fn:FuncId}{pos:String}(d:∀e∈es,xQ S M e):
  TP X (pK S M) Wg C c (stA Wg) p v.heap.size (t++bD c fn pos es):=by
 refine h.app A (.inr rfl) fZ (fun g a b j l=>?_) (fun g a x k=>?_) (fun g a e=>?_) BI;obtain⟨e,f,rfl⟩:=zy a;exact .inr<|.inr<|.inl ⟨rfl,(d e f).1 b j⟩;obtain⟨e,f,rfl⟩:=zy a;exact xrh hk ((d e f).1 x k).1;obtain⟨i,f,rfl⟩:=zy a;exact(d i f).2.2.2 _<|Wc e
def u_(a:∀e∈es,xQ S M e)(d:Nat):deafBehind d es=d:=deafBehind_still (fun e b=>⟨(a e b).2.1,(a e b).2.2.1⟩) d
def dU.next{d st m:Nat}{left:Ze}{b:Zg}{q:Nat->Nat}{v:Zy}{t:Trace}(h:dU P ty Wg C S D M c vals o X p rg r d st m left b q gs v t)
  {gs':Array Zg}{v':Zy}{u:Trace}{b':Zg}{d' st' m':Nat}{left':Ze}(Q:gs'.size=gs.size)(E:gs'[c]?=bO b')
  (k:∀j x',j≠c->gs'[j]?=bO x'->∃x,gs[j]?=bO x/\∀n d,QuitsD P n d x->x'=x)(G:∀op∈u,op.g=c)(B:Ch P ty Wg C S D M o d' st' m' left' b' v')(H:Kc S M o v')(l:PayAt D 3 v')
  (f:v'.heap[C]?=bO (.chan vals.length ((vals.take<|vals.length-left'.length).drop r).toArray (decide (st'<=8)) (vals.length-left'.length) r bK))(z:r<=vals.length-left'.length)(e:left'=vals.drop (vals.length-left'.length))
  (J:WgAt ty Wg v' (iE rg st')<|gM rg st')(y:1<st'->st'<5->rg=1)(w:xU rg->st'<=1)(I:TP X (pK S M) Wg C c (stA Wg) p v'.heap.size<|t++u)(a:Deaf (t++u) c=d')(s:st'<=6->∃rr,p<=rr/\Rel (stA Wg) c (t++u) rr):
  dU P ty Wg C S D M c vals o X p rg r d' st' m' left' b' q gs' v' (t++u):=by
 refine⟨h.pos,by rw[Q,h.size],E,fun i g L F K=>?_,fun j N=>?_,B,H,l,f,z,e,J,y,w,I, ?_,a,s,by have:=h.pt;simp;omega⟩;obtain⟨x,R,O⟩:=k i g (by omega) K;have:=h.old i x L F R;rw[O _ _ this,aG t (g':=c) (by omega) u G];exact this;rw[aG t (g':=c) (by omega) u G];exact h.above j N;rw[aG t (g':=c) (Xh h.pos) u G];exact h.deaf0
def JO{b b':Zg}{v':Zy}:∀j x',j≠c->((gs.map<|woken P b b' v').setIfInBounds c b')[j]?=bO x'->∃x,gs[j]?=bO x/\∀n d,QuitsD P n d x->x'=x:=fun j x' e a=>by
 rw[zd<|aL e,jj]at a;obtain⟨y,g,rfl⟩:=zt.1 a;exact⟨y,g,fun n d f=>woken_quitsD f⟩
def IY{b b' g0:Zg}{v':Zy}(d:c≠0)(a:gs[0]?=bO g0):((gs.map<|woken P b b' v').setIfInBounds c b')[0]?=bO (woken P b b' v' g0):=by
 rw[zd d,jj,a];rfl
def Yl{R:Zy->Zy->Prop}{Dd:Zy->Zy->Array Event->Prop}{Stop:Zg->Zy->Prop}(a:∀w,R w w){m:Nat}{g:Zg}{w:Zy}(h:Goes P bK R Dd Stop m g w):
  Stop g w\/∃m' g' w' es,m=m'+1/\aZ P bK g w= .go g' w' es/\Dd w w' es/\Goes P bK R Dd Stop m' g' w':=by
 cases m with
 |zero=>exact .inl<|h w<|a w
 |succ m=>
  rcases h with h|⟨_,h⟩;exact .inl<|h w<|a w;right;have:=h w<|a w;cases hs:aZ P bK g w with
  |go g' w' es=>
   rw[hs,goes_go]at this;exact⟨m,g',w',es,rfl,rfl,this⟩
  |_=>rw[hs]at this;exact this.elim
def zzb{v v':Zy}(c:AsideCell D 3 0 v v')(k:AsideCell D 3 1 v v')(h:PayAt D 3 v):v'.heap=v.heap:=by
 obtain⟨j,e,n⟩:=id h;obtain⟨a,d,m⟩:=c.pay h;apply Yc;intro b;by_cases f:b=D;subst f;rw[e,d];have:a=j:=by
  apply Yc;intro i;have l:v'.cell? (zq b i)=v.cell? (zq b i):=by
   by_cases g:i=0;subst g;exact k.cells 0 (by omega);exact c.cells i g
  simpa[World.cell?,e,d]using l
 rw[this];exact c.block b f
def AM{v v':Zy}(c:AsideCell D 3 0 v v')(m:AsideCell D 3 1 v v')(n:PayAt D 3 v):∃d,v'=v.at d:=by
 have l:=zzb c m n;obtain⟨k,tape,e,os,output⟩:=v;obtain⟨f,g,a,o,b⟩:=v';simp only at l;have h:=c.tape;have i:=c.os;have j:=c.output;simp only at h i j;subst l h i j;exact⟨a,rfl⟩
end
end
end A
namespace A
open Go Go.Conc
open Go.ConcN (sumTo upd sumTo_upd upd_ne upd_same RW DWs AtR0 AtK1 AtD1 WgLive PayAt Has AsideCell EvW ShN)
open Go.ConcR (KK wgBlock WgAt stA smA rd wr mk Payload DC0)
variable [pn:Pn]
section
variable {es:Array Event}
section
variable [Payload] {P:aV} {ty:TypeId} {Wg C:Nat} {S:Nat->Prop} {D M c:Nat} {vals:List Value} {o:Nat->Obj} {X:Nat->Prop} {p rg r:Nat}
def JV{rg a b:Nat}(c:5<=a)(d:5<=b):iE rg a=iE rg b:=by
 unfold iE;rw[aA c,aA d,aB (show¬a<=1 by omega),aB (show¬b<=1 by omega)]
def JU{rg a b:Nat}(c:2<=a)(d:2<=b):gM rg a=gM rg b:=by
 unfold gM;rw[aB<|by omega,aB<|by omega]
structure q9(X:ZP)(Wg C:Nat)(S:ZP)(D M:Nat):Prop where
 apart:NK X (pK S M) Wg C
 xc:X C
 xw:X Wg
 sd:S D
 cs:∀x,S x\/x=M->x≠C
 wc:Wg≠C
 ws:∀x,S x\/x=M->x≠Wg
 nc:Pn.N<=C
 nw:Pn.N<=Wg
variable (P ty Wg C S D M c vals o X p rg r)in
def TN(g0:Zg)(st mm:Nat)(q:Nat->Nat)(gs:Array Zg)(v:Zy)(sl:Option<|Nat×Nat)(t:Trace)(d' st':Nat)(left':Ze):Prop:=
 ∃gs' v' sl' ops m' b',runT P (crowd gs v sl) c=(.next<|crowd gs' v' sl',ops)/\vV (st',m'+sumTo c q) (st,mm+sumTo c q)/\(∃g0',gs'[0]?=bO g0'/\(g0'=g0\/∃a a',g0'=woken P a a' v' g0)/\(rg=1->st'<=1->1<st->∃bb,mayWake P bb=bL/\b'.status≠ .blocked/\b'.status≠ .waiting/\g0'=woken P bb b' v' g0))/\
  dU P ty Wg C S D M c vals o X p rg r d' st' m' left' b' q gs' v' (t++ops)/\(∀w,Sm P X (re w v.tape v.drawn) v->Sm P X (re w v'.tape v'.drawn) v')/\(st<=6->∀rr,Rel (stA Wg) c t rr->Rel (stA Wg) c (t++ops) rr)
variable (P ty Wg C S D M c vals o X p rg r)in
def rR(g0:Zg)(st mm:Nat)(q:Nat->Nat)(gs:Array Zg)(v:Zy)(sl:Option<|Nat×Nat)(t:Trace):Prop:=
 ∃d' st' left',TN P ty Wg C S D M c vals o X p rg r g0 st mm q gs v sl t d' st' left'
variable {d st m:Nat} {left:List Value} {b g0:aS} {q:Nat->Nat} {gs:Array aS} {v:World} {t:Trace} {sl:Option<|Nat×Nat}
def LU(h:dU P ty Wg C S D M c vals o X p rg r d st m left b q gs v t){b':Zg}{v':Zy}(e:aZ P bK b v= .go b' v' es):
  runT P (crowd gs v sl) c=(.next<|crowd ((gs.map<|woken P b b' v').setIfInBounds c b') v' sl,bD c b.frame.fn b.frame.place es):=by
 have a:(c==0)=bK:=by have:=h.pos;simp;omega
 exact runT_crowd_go h.hb<|by rw[a];exact e
def BL(B:q9 X Wg C S D M)(h:dU P ty Wg C S D M c vals o X p rg r d st m left b q gs v t)(H:gs[0]?=bO g0){b':Zg}{dr:Nat}(s:aZ P bK b v= .go b' (v.at dr) es)
  {st' m' mm:Nat}(i:Ch P ty Wg C S D M o d st' m' left b' (v.at dr))(l:vV (st',m'+sumTo c q) (st,mm+sumTo c q))(I:decide (st'<=8)=decide (st<=8))(E:iE rg st'=iE rg st/\gM rg st'=gM rg st)(F:5<=st'/\5<=st\/st'=st)(G:st'<=6->st<=6)
  (z:TP X (pK S M) Wg C c (stA Wg) p v.heap.size<|t++bD c b.frame.fn b.frame.place es)(k:deafBehind d es=d)(f:st<=6->es=#[]):TN P ty Wg C S D M c vals o X p rg r g0 st mm q gs v sl t d st' left:=by
 have j:c≠0:=Xh h.pos;have g:c<gs.size:=by rw[h.size];omega
 refine⟨_,v.at dr,sl,_,m',b',LU h s,l,⟨_,IY j H,.inr ⟨b,b',rfl⟩,fun _ x y=>by omega⟩,h.next (by simp) (by simp[g]) JO fZ i h.kc h.pay (by rw[I];exact h.chan) h.nV h.lefts (by rw[E.1,E.2];exact h.wg) (fun x y=>F.elim (fun F=>by omega) fun e=>h.kH (by omega)<|by omega) (fun x=>by have:=h.kG x;omega) z (by rw[Deaf_own,h.eD,k]) ?_,fun w J=>J.re _ _,fun a rr n=>by
  rw[f a,show t++bD c b.frame.fn b.frame.place #[]=t by simp[ofEvents_eq]];exact n⟩
 intro a;obtain⟨rr,K,n⟩:=h.rel<|G a;have:es=#[]:=f<|G a;subst this;refine⟨rr,K, ?_⟩;have e:t++bD c b.frame.fn b.frame.place #[]=t:=by simp[ofEvents_eq]
 rw[e];exact n
def LJ(B:q9 X Wg C S D M)(h:dU P ty Wg C S D M c vals o X p rg r d st m left b q gs v t)(g:gs[0]?=bO g0){b':Zg}{v':Zy}(f:aZ P bK b v= .go b' v' es)(j:DS S M v v' es)
  {m':Nat}(e:Ch P ty Wg C S D M o d st m' left b' v')(k:m'<m)(i:¬st<=6):TN P ty Wg C S D M c vals o X p rg r g0 st m q gs v sl t d st left:=by
 obtain⟨rfl,a⟩:=j;exact BL B h g f e (.right _<|by omega) rfl ⟨rfl,rfl⟩ (.inr rfl) id (VN B.apart h.tp h.kc a) (u_ a d) fun x=>absurd x i
def cR{vs:Ze}{b:Zg}{w:Zy}(h:xD P ty Wg C S D M o vs b w):∃m,Ch P ty Wg C S D M o 0 (9+vs.length) m vs b w:=by
 cases vs with
 |nil=>obtain⟨m,h⟩:=h;exact⟨m,.cls h⟩
 |cons v vs=>obtain⟨m,h⟩:=h;exact⟨m,by have:=Ch.send h;rwa[show 9+(v::vs).length=10+vs.length by simp;omega]⟩
def Rc{vs:Ze}{v0:Zv}(a:v0::vs=vals.drop (vals.length-(v0::vs).length))(f:r<=vals.length-(v0::vs).length):
  (((vals.take<|vals.length-(v0::vs).length).drop r).toArray).push v0=((vals.take<|vals.length-vs.length).drop r).toArray/\vals.length-vs.length=vals.length-(v0::vs).length+1/\vs=vals.drop (vals.length-vs.length):=by
 have b:(v0::vs).length<=vals.length:=by
  have:=congrArg List.length a;simp only[jb]at this;simp only[zh]at*;omega
 simp only[zh]at*;have e:vals.length-vs.length=vals.length-(vs.length+1)+1:=by omega
 have d:vals.take (vals.length-(vs.length+1)+1)=vals.take (vals.length-(vs.length+1))++[v0]:=by
  rw[List.take_add_one]
  congr 1
  have c:vals[vals.length-(vs.length+1)]?=bO v0:=by
   have:=congrArg (fun l=>l[0]?) a;simpa using this.symm
  rw[c];rfl
 refine⟨?_,e, ?_⟩;rw[e,d,Yj<|by simp;omega];simp;rw[e];have:=congrArg List.tail a;simpa using this
def xsl(B:q9 X Wg C S D M){vs:Ze}{v0:Zv}(h:dU P ty Wg C S D M c vals o X p rg r 0 (10+vs.length) m (v0::vs) b q gs v t)(Y:gs[0]?=bO g0)(R:offersAt g0 C bK=[])
  (T:BV P C S M o v0 (xD P ty Wg C S D M o vs) b v):rR P ty Wg C S D M c vals o X p rg r g0 (10+vs.length) m q gs v sl t:=by
 obtain⟨_,i,z,es,U,F,s⟩:=T;have L:c≠0:=Xh h.pos;have N:(c==0)=bK:=by have:=h.pos;simp;omega
 have H:c<gs.size:=by rw[h.size];omega
 have k:=h.chan;rw[show decide (10+vs.length<=8)=bK by simp;omega]at k;obtain⟨e1,e2,e3⟩:=Rc h.lefts h.nV;have hp:partners (gs.setIfInBounds c ph) C bK=[]:=partners_nil fun j x l=>by
  rcases getElem?_stand gs c j x l with⟨_,rfl⟩|⟨Z,n⟩;exact offersAt_ph _ _;rcases jl j with rfl|I;rw[Y]at n;cases n;exact R;refine offersAt_of_not_blocked ?_ _ _;have O:j<c:=by have:=(za.1 n).1;rw[h.size]at this;omega
  rcases(h.old j x I O n).status with e|e<;>rw[e]<;>simp
 have E:((vals.take<|vals.length-(v0::vs).length).drop r).toArray.size<vals.length:=by
  simp only[jg,jb,xt,zh];have:=congrArg List.length h.lefts;simp only[jb,zh]at this;omega
 have f:=crowd_send_room (sl:=sl) h.hb (by rw[N];exact U) k E hp;rw[finishComm_send]at f;let v':=v.setChan C vals.length ((((vals.take<|vals.length-(v0::vs).length).drop r).toArray).push v0) bK (vals.length-(v0::vs).length+1) r bK;have K:C<v.heap.size:=(za.1 k).1;have d:∀x,x≠C->v'.heap[x]?=v.heap[x]?:=fun x l=>by
  show(v.heap.setIfInBounds C _)[x]?=_;rw[zd<|aL l]
 have V:v'.heap.size=v.heap.size:=by show(v.heap.setIfInBounds C _).size=_;simp
 have G:Kc S M o v':=fun x l=>(d x<|B.cs x l).trans<|h.kc x l;obtain⟨m',Q⟩:=cR<|s v' G;have W:=VN (fn:=b.frame.fn) (pos:=b.frame.place) B.apart h.tp h.kc F;refine⟨0,9+vs.length,vs,_,v',sl,_,m',Conc.served i bJ,f,.left _ _<|by omega, ?_,h.next (by simp) (by simp[H]) (fun j x' Z l=>?_) (fun J a=>?_) Q G ?_ ?_ (by have:=h.nV;omega) e3 ?_ (fun x y=>by omega) (fun x=>by have:=h.kG x;omega) ?_ ?_ fun x=>by omega,fun w hS=>?_,fun x=>by omega⟩;exact⟨g0,by rw[zd L];exact Y,.inl rfl,fun _ x=>by omega⟩;rw[zd<|aL Z]at l;exact⟨x',l,fun _ _ _=>rfl⟩;rcases IE.1 a with x|x
 exact fZ J x;simp at x;rcases x with rfl|rfl<;>rfl
 obtain⟨cs,e,T⟩:=h.pay;exact⟨cs,(d D<|B.cs D<|.inl B.sd).trans e,T⟩;rw[show decide (9+vs.length<=8)=bK by simp;omega,<-e1,e2];show(v.heap.setIfInBounds C _)[C]?=_;simp[K];rw[show iE rg (9+vs.length)=iE rg (10+vs.length)from JV (by omega)<|by omega,show gM rg (9+vs.length)=gM rg (10+vs.length)from JU (by omega)<|by omega];exact h.wg.of_block<|d Wg B.wc;rw[V,<-Zs];refine W.mutes (fun J a=>by simp at a;rcases a with rfl|rfl<;>rfl) (fun J a=>by simp at a;rcases a with rfl|rfl<;>rfl) (fun J a=>by simp at a;rcases a with rfl|rfl<;>simp);rw[<-Zs,show(#[{g:=c,fn:=i.frame.fn,pos:=i.frame.place,act:=MemAct.send C<|vals.length-(v0::vs).length},{g:=c,fn:=i.frame.fn,pos:=i.frame.place,act:=MemAct.sendDone C<|vals.length-(v0::vs).length}]:Trace)=#[{g:=c,fn:=i.frame.fn,pos:=i.frame.place,act:=MemAct.send C<|vals.length-(v0::vs).length}]++#[{g:=c,fn:=i.frame.fn,pos:=i.frame.place,act:=MemAct.sendDone C<|vals.length-(v0::vs).length}]from rfl,<-Zs,Deaf_push,Deaf_push,Deaf_own,h.eD,u_ F];simp[deafStep];have:=RP (cap':=vals.length) (s':=vals.length-(v0::vs).length+1) (r'':=r) (buf':=(((vals.take<|vals.length-(v0::vs).length).drop r).toArray).push v0) (cl':=bK) (tm':=bK) hS B.xc B.nc k;exact this
end
end
end A
namespace A
open Go Go.Conc
open Go.ConcN (sumTo upd sumTo_upd upd_ne upd_same RW DWs AtR0 AtK1 AtD1 AtD2 AtD3 AtD4 WgLive PayAt Has AsideCell EvW ShN)
open Go.ConcR (KK wgBlock WgAt stA smA rd wr mk Payload DC0)
variable [pn:Pn]
section
variable {k:Nat}
section
variable [Payload] {P:aV} {ty:TypeId} {Wg C:Nat} {S:Nat->Prop} {D M c:Nat} {vals:List Value} {o:Nat->Obj} {X:Nat->Prop} {p rg r:Nat}
variable {d st m:Nat} {left:List Value} {b g0:aS} {q:Nat->Nat} {gs:Array aS} {v:World} {t:Trace} {sl:Option<|Nat×Nat}
def Ud(B:q9 X Wg C S D M)(h:dU P ty Wg C S D M c vals o X p rg r 0 9 m [] b q gs v t)(R:gs[0]?=bO g0)(F:MB P ty Wg C S D M o b v):
  ∃b' m',runT P (crowd gs v sl) c=(.next<|crowd ((gs.map<|woken P b b'<|v.setChan C vals.length ((vals.take<|vals.length-([]:Ze).length).drop r).toArray bL (vals.length-([]:Ze).length) r bK).setIfInBounds c b') (v.setChan C vals.length ((vals.take<|vals.length-([]:Ze).length).drop r).toArray bL (vals.length-([]:Ze).length) r bK) sl,bD c b.frame.fn b.frame.place #[⟨.obj C,bK,bL⟩,⟨.obj C,bL,bL⟩])/\
   b'.status= .running/\mayWake P b=bL/\dU P ty Wg C S D M c vals o X p rg r 0 8 m' [] b' q ((gs.map<|woken P b b'<|v.setChan C vals.length ((vals.take<|vals.length-([]:Ze).length).drop r).toArray bL (vals.length-([]:Ze).length) r bK).setIfInBounds c b') (v.setChan C vals.length ((vals.take<|vals.length-([]:Ze).length).drop r).toArray bL (vals.length-([]:Ze).length) r bK) (t++bD c b.frame.fn b.frame.place #[⟨.obj C,bK,bL⟩,⟨.obj C,bL,bL⟩])/\
   ∀w,Sm P X (re w v.tape v.drawn) v->Sm P X (re w v.tape v.drawn) (v.setChan C vals.length ((vals.take<|vals.length-([]:Ze).length).drop r).toArray bL (vals.length-([]:Ze).length) r bK):=by
 have g:=h.chan;rw[show decide (9<=8)=bK from rfl]at g;obtain⟨_,H,F⟩:=F;obtain⟨b',I,k,j⟩:=F _ _ _ _ g;have Q:=Xh h.pos;have E:c<gs.size:=by rw[h.size];omega
 generalize hv':v.setChan C vals.length ((vals.take<|vals.length-([]:Ze).length).drop r).toArray bL (vals.length-([]:Ze).length) r bK=v' at*;have n:=(za.1 g).1;have f:∀x,x≠C->v'.heap[x]?=v.heap[x]?:=fun x d=>by
  rw[<-hv'];show(v.heap.setIfInBounds C _)[x]?=_;rw[zd<|aL d]
 have J:v'.heap.size=v.heap.size:=by rw[<-hv'];show(v.heap.setIfInBounds C _).size=_;simp
 have z:Kc S M o v':=fun x d=>(f x<|B.cs x d).trans<|h.kc x d;obtain⟨m',G⟩:=j v' z;have s:∀l∈bD c b.frame.fn b.frame.place #[⟨.obj C,bK,bL⟩,⟨.obj C,bL,bL⟩],∀x,l.act.touch?=bO x->x.loc= .obj C/\x.write=bK:=fun l a x d=>by
  obtain⟨N,i,rfl⟩:=zy a;simp at i;rcases i with rfl|rfl
  simp only[aU,aR,zp]at d;subst d;exact⟨rfl,rfl⟩;simp[aU,aR]at d
 refine⟨b',m',LU h I,k,H,h.next (by simp) (by simp[E]) JO fZ (.fin G) z ?_ ?_ h.nV h.lefts ?_ (fun x y=>by omega) (fun x=>by have:=h.kG x;omega) ?_ ?_ fun x=>by omega,fun w O=>?_⟩;obtain⟨cs,e,F⟩:=h.pay;exact⟨cs,(f D<|B.cs D<|.inl B.sd).trans e,F⟩;rw[<-hv'];show(v.heap.setIfInBounds C _)[C]?=_;simp[n];rw[show iE rg 8=iE rg 9 from JV (by omega)<|by omega,show gM rg 8=gM rg 9 from JU (by omega)<|by omega];exact h.wg.of_block<|f Wg B.wc;rw[J];refine h.tp.app B.apart (.inr rfl) fZ (fun l a x d T=>?_) (fun l a x d=>?_) (fun l a e=>?_) BI;obtain⟨K,L⟩:=s l a x d;exact .inr<|.inr<|.inr ⟨rfl,K,L⟩;rw[(s l a x d).1];exact n;obtain⟨N,i,rfl⟩:=zy a;simp at i;rcases i with rfl|rfl<;>simp[aU]at e
 rw[Deaf_own,h.eD];refine deafBehind_still (fun e i=>?_) 0;simp at i;rcases i with rfl|rfl<;>simp
 rw[<-hv'];exact RP O B.xc B.nc g
def xtr(B:q9 X Wg C S D M)(h:dU P ty Wg C S D M c vals o X p rg r 0 9 m [] b q gs v t)(d:gs[0]?=bO g0)(i:MB P ty Wg C S D M o b v):rR P ty Wg C S D M c vals o X p rg r g0 9 m q gs v sl t:=by
 obtain⟨a,j,e,_,_,f,g⟩:=Ud (sl:=sl) B h d i;exact⟨0,8,[],_,_,sl,_,j,a,e,.left _ _<|by omega,⟨_,IY (Xh h.pos) d,.inr ⟨b,a,rfl⟩,fun _ x=>by omega⟩,f,g,fun x=>by omega⟩
def Ee(B:q9 X Wg C S D M)(h:dU P ty Wg C S D M c vals o X p rg r d st m [] b q gs v t)(K:gs[0]?=bO g0){b':Zg}{mk':Mark}(H:aZ P bK b v= .go b' v #[mk mk'])(k:(MemAct.mark mk').touch?=none)(G:∀a,mk'≠ .release a)
  {d' st' m' mm:Nat}(s:Ch P ty Wg C S D M o d' st' m' [] b' v)(F:st'<st)(L:st<=8)(U:5<=st')(hd:deafBehind d #[mk mk']=d')(l:∃rr,p<=rr/\Rel (stA Wg) c (t++bD c b.frame.fn b.frame.place #[mk mk']) rr):
  rR P ty Wg C S D M c vals o X p rg r g0 st mm q gs v sl t:=by
 have E:=Xh h.pos;have j:c<gs.size:=by rw[h.size];omega
 have I:∀g∈bD c b.frame.fn b.frame.place #[mk mk'],g.act= .mark mk':=fun g f=>by
  obtain⟨e,J,rfl⟩:=zy f;simp at J;subst J;rfl
 refine⟨d',st',[],_,v,sl,_,m',b',LU h H,.left _ _ F,⟨_,IY E K,.inr ⟨b,b',rfl⟩,fun _ x=>by omega⟩,h.next (by simp) (by simp[j]) JO fZ s h.kc h.pay ?_ h.nV h.lefts (by rw[JV (a:=st') (b:=st) (by omega)<|by omega,JU (a:=st') (b:=st) (by omega)<|by omega];exact h.wg) (fun x y=>by omega) (fun x=>by have:=h.kG x;omega) (h.tp.mutes fZ (fun g f=>by rw[I g f];exact k) fun g f e=>by rw[I g f]at e;cases e;exact G _ rfl) (by rw[Deaf_own,h.eD];exact hd) fun _=>l,fun w N=>N,fun _ rr R=>R.app fun i W V O=>?_⟩;rw[show decide (st'<=8)=bL by simp;omega];have:=h.chan;rwa[show decide (st<=8)=bL by simpa using L]at this;obtain⟨z,T,_⟩:=O;rcases Zo T with⟨Q,_⟩|⟨_,g,f,_,n⟩
 omega;rw[I g f,k]at n;cases n
def Ho(B:q9 X Wg C S D M)(h:dU P ty Wg C S D M c vals o X p rg r 0 st m [] b q gs v t)(n:st=8\/st=7)(f:gs[0]?=bO g0)(hk:k=1\/k=2){val:Zv}(l:AtR0 P ty Wg D 3 0 k val b v)(w:Nat):
  rR P ty Wg C S D M c vals o X p rg r g0 st w q gs v sl t:=by
 obtain⟨_,_,x,d,E,e⟩:=l;refine Ee B h f d rfl (by simp) (.rel hk e) (by omega) (by omega) (by omega) (by simp[mk,deafBehind]) ⟨t.size,h.pt, ?_⟩;have a:(t++bD c b.frame.fn b.frame.place #[mk<|.releaseMerge<|stA Wg])[t.size]?=bO {g:=c,fn:=b.frame.fn,pos:=b.frame.place,act:= .mark (.releaseMerge<|stA Wg)}:=by
  simp[ofEvents_eq,mk,aU]
 refine⟨by rw[act?_of a],by simp[Trace.g?,a],⟨c,by simp[Trace.g?,a], ?_⟩,fun i y j=>?_⟩;rw[deaf_old<|ze _];exact h.eD;obtain⟨z,s,_⟩:=zt.1 j;have:=lt_size_of_getElem? s;simp[ofEvents_eq]at this;omega
def xxa(B:q9 X Wg C S D M)(h:dU P ty Wg C S D M c vals o X p rg r 0 6 m [] b q gs v t)(l:gs[0]?=bO g0)(hk:k=1\/k=2)(z:AtK1 P ty Wg D 3 0 k b v)(F:Nat):
  rR P ty Wg C S D M c vals o X p rg r g0 6 F q gs v sl t:=by
 obtain⟨_,G,d,J,f⟩:=z;obtain⟨rr,w,y⟩:=h.rel<|ze _;refine Ee B h l d rfl (by simp) (.deaf hk f) (by omega) (by omega) (by omega) (by simp[mk,deafBehind]) ⟨rr,w,y.app fun i I H n=>?_⟩;obtain⟨x,E,_⟩:=n;rcases Zo E with⟨s,_⟩|⟨_,K,a,_,g⟩
 omega;obtain⟨e,j,rfl⟩:=zy a;simp at j;subst j;cases g
def RL{a:Addr}(b:a.block=Wg){w:Bool}{x:Touch}(hx:(aU ⟨.cell a,w,bL⟩).touch?=bO x):qX Wg x.loc/\x.kind= .atomic:=by
 simp only[ofEvent_cell0,aR,zp,if_true]at hx;subst hx;exact⟨⟨a,rfl,b⟩,rfl⟩
def GV(B:q9 X Wg C S D M)(h:dU P ty Wg C S D M c vals o X p rg r 1 st m [] b q gs v t)(h0:gs[0]?=bO g0){b':Zg}{x y:Int}{es:Array Event}(bc:aZ P bK b v= .go b' {v with heap:=v.heap.setIfInBounds Wg<|wgBlock ty x y} es)
  (H:∀e∈es,(∃a w,e=⟨.cell a,w,bL⟩/\a.block=Wg)\/e.mute=bL)(Y:deafBehind 1 es=1)(Z:∀j,j<=es.size->deafBehind 1 (es.extract 0 j)≠0)(h5:st<=5){st' m' mm:Nat}(R:Ch P ty Wg C S D M o 1 st' m' [] b' {v with heap:=v.heap.setIfInBounds Wg<|wgBlock ty x y})(ba:st'<st)(hx:iE rg st'=x)(hy:gM rg st'=y)(bb:1<st'->rg=1)(N:xU rg->st'<=1)(F:rg=1->st'<=1->mayWake P b=bL/\b'.status≠ .blocked/\b'.status≠ .waiting):
  rR P ty Wg C S D M c vals o X p rg r g0 st mm q gs v sl t:=by
 have V:=Xh h.pos;have K:c<gs.size:=by rw[h.size];omega
 have G:=(za.1 h.wg).1;have k:∀z,z≠Wg->(v.heap.setIfInBounds Wg<|wgBlock ty x y)[z]?=v.heap[z]?:=fun z f=>by
  rw[zd<|aL f]
 have bd:(v.heap.setIfInBounds Wg<|wgBlock ty x y).size=v.heap.size:=by simp
 obtain⟨rr,hp,hr⟩:=h.rel (by omega);have E:∀n∈bD c b.frame.fn b.frame.place es,∀z,n.act.touch?=bO z->qX Wg z.loc/\z.kind= .atomic:=fun n d z f=>by
  obtain⟨e,he,rfl⟩:=zy d;rcases H e he with⟨a,w,rfl,ha⟩|L
  exact RL ha f;have O:(aU e).touch?=bO z:=f;rw[touch_mute L]at O;cases O
 have Q:∀i,t.size<=i->(t++bD c b.frame.fn b.frame.place es).g? i=bO c->¬(t++bD c b.frame.fn b.frame.place es).counts i:=fun i hi hg hc=>by
  obtain⟨z,f,L,hk⟩:=hc;rcases Zo f with⟨bg,_⟩|⟨_,n,d,bf,be⟩
  omega;obtain⟨_,U⟩:=E n d z be;rcases hk with hk|⟨g,I,W⟩
  exact hk U;have:g=c:=by
   rw[hg]at I;exact(jf I).symm
  subst this;have J:i-t.size<=es.size:=by
   have:=lt_size_of_getElem? bf;simp[ofEvents_eq]at this;omega
  have:=deaf_inside t g b.frame.fn b.frame.place es _ J;rw[show t.size+(i-t.size)=i by omega,W,h.eD]at this;exact Z _ J this.symm
 refine⟨1,st',[],_,{v with heap:=v.heap.setIfInBounds Wg _},sl,_,m',b',LU h bc,.left _ _ ba,⟨_,IY V h0,.inr ⟨b,b',rfl⟩,fun z1 z2 _=>⟨b,(F z1 z2).1,(F z1 z2).2.1,(F z1 z2).2.2,rfl⟩⟩,h.next (by simp) (by simp[K]) JO fZ R
  (fun z f=>(k z<|B.ws z f).trans<|h.kc z f) ?_ ?_ h.nV h.lefts ?_ (fun z _=>bb z) N ?_ ?_ (fun _=>⟨rr,hp,hr.app Q⟩),fun w hS=>Fy hS B.xw B.nw h.wg x y,fun _ rr hr=>hr.app Q⟩
 obtain⟨cs,e,hs⟩:=h.pay;exact⟨cs,(k D<|B.ws D<|.inl B.sd).trans e,hs⟩;rw[show decide (st'<=8)=bL by simp;omega];have:=h.chan;rw[show decide (st<=8)=bL by simp;omega]at this;exact(k C<|aL B.wc).trans this;rw[hx,hy];show(v.heap.setIfInBounds Wg<|wgBlock ty x y)[Wg]?=_;simp[G];show TP X (pK S M) Wg C c (stA Wg) p (v.heap.setIfInBounds Wg<|wgBlock ty x y).size _;rw[bd];refine h.tp.app B.apart (.inr rfl) fZ (fun n d z f L=>?_) (fun n d z f=>?_) (fun n d e=>?_) BI;obtain⟨k1,k2⟩:=E n d z f;exact .inr<|.inl ⟨k1,.inl k2⟩;obtain⟨⟨a',e,T⟩,_⟩:=E n d z f;rw[e];show a'.block<_;rw[T];exact G;obtain⟨ev,he,rfl⟩:=zy d;rcases H ev he with⟨a,w,rfl,ha⟩|L
 simp[ofEvent_cell0]at e;have h1:=Wc e;obtain⟨l,a,s⟩:=ev;cases h1;simp[Event.mute]at L;rw[Deaf_own,h.eD];exact Y
def ZC{es:Array Event}(f:∀e∈es,∃a w,e=(⟨.cell a,w,bL⟩:Event)/\a.block=Wg):deafBehind 1 es=1/\∀j,j<=es.size->deafBehind 1 (es.extract 0 j)≠0:=by
 have:∀b:Array Event,(∀e∈b,e∈es)->deafBehind 1 b=1:=fun b g=>deafBehind_still (fun e d=>by obtain⟨a,w,rfl,_⟩:=f e<|g e d;simp) 1;refine⟨this es fun _ h=>h,fun j _=>?_⟩;rw[this _ (fun e d=>by
  obtain⟨j,c⟩:=Array.mem_iff_getElem?.1 d;rw[Array.getElem?_extract]at c;split at c;exact Array.mem_iff_getElem?.2 ⟨_,c⟩;cases c)]
 simp
def NR:∀e∈#[rd<|stA Wg,wr<|stA Wg],∃a w,e=(⟨.cell a,w,bL⟩:Event)/\a.block=Wg:=fun e b=>by
 simp at b;rcases b with rfl|rfl
 exact⟨_,bK,rfl,rfl⟩;exact⟨_,bL,rfl,rfl⟩
def CP:∀e∈#[rd<|stA Wg],∃a w,e=(⟨.cell a,w,bL⟩:Event)/\a.block=Wg:=fun e b=>by
 simp at b;subst b;exact⟨_,bK,rfl,rfl⟩
def Gx:∀e∈#[wr<|stA Wg],∃a w,e=(⟨.cell a,w,bL⟩:Event)/\a.block=Wg:=fun e b=>by
 simp at b;subst b;exact⟨_,bL,rfl,rfl⟩
def xw2(B:q9 X Wg C S D M)(h:dU P ty Wg C S D M c vals o X p rg r 1 5 m [] b q gs v t)(w:gs[0]?=bO g0)(hk:k=1\/k=2)(l:AtD1 P ty Wg D 3 0 k b v)(G:Nat):
  rR P ty Wg C S D M c vals o X p rg r g0 5 G q gs v sl t:=by
 obtain⟨_,l⟩:=l;have y:=h.wg;have s:¬xU rg:=fun e=>by have:=h.kG e;omega
 have E:gM rg 5=0:=by unfold gM;rw[aB<|by omega]
 obtain⟨g,i⟩:=ZC (Wg:=Wg) NR;by_cases j:rg=0\/rg=4;have a:WgAt ty Wg v KK 0:=by
  have e:iE rg 5=KK:=by unfold iE;rw[aA j];rfl
  rwa[e,E]at y
 obtain⟨z,d,_,f⟩:=l 0 0 (by omega) (by omega) (by simpa[KK]using a);obtain⟨F,f⟩:=f (by omega);rw[QI a,show((0:Nat):Int)*KK+((0:Nat):Int)=0 by simp]at d;exact GV B h w d (fun e n=> .inl (NR e n)) g i (by omega) (.out f) (by omega) (by unfold iE;rw[aA j];rfl) (by unfold gM;rw[aB<|by omega]) (by omega) (by omega) (fun x=>by omega);obtain rfl:rg=1:=by
  unfold xU at s;omega
 have a:WgAt ty Wg v (KK+1) 0:=y;obtain⟨z,d,f,_⟩:=l 0 1 (by omega) (by omega) (by simpa[KK]using a);obtain⟨F,f⟩:=f ⟨rfl,rfl⟩;rw[QI a,show((0:Nat):Int)*KK+((1:Nat):Int)=1 by simp]at d f;exact GV B h w d (fun e n=> .inl (NR e n)) g i (by omega) (.d2 hk f) (by omega) rfl rfl (fun _=>rfl) (fun x=>absurd rfl x.2.1) fun _ x=>by omega
def SE{st' sm':Int}(h:WgAt ty Wg v st' sm'):{v with heap:=v.heap.setIfInBounds Wg<|wgBlock ty st' sm'}=v:=by
 obtain⟨heap,g,b,j,a⟩:=v;have c:heap[Wg]?=bO (wgBlock ty st' sm'):=h;obtain⟨d,e⟩:=za.1 c;simp only[World.mk.injEq,and_true];apply Yc;intro i;by_cases f:Wg=i;subst f;simp[d,e];rw[zd f]
def xw3(B:q9 X Wg C S D M)(h:dU P ty Wg C S D M c vals o X p rg r 1 4 m [] b q gs v t)(j:gs[0]?=bO g0)(hk:k=1\/k=2)(n:AtD2 P ty Wg D 3 0 k b v)(s:Nat):
  rR P ty Wg C S D M c vals o X p rg r g0 4 s q gs v sl t:=by
 obtain rfl:=h.kH (by omega) (by omega);have d:WgAt ty Wg v 1 0:=h.wg;obtain⟨w,a,y,i⟩:=n.2 d;rw[<-SE d]at a i;obtain⟨f,g⟩:=ZC (Wg:=Wg) CP;exact GV B h j (by rw[SE d];rw[SE d]at a;exact a) (fun e l=> .inl (CP e l)) f g (by omega) (.d3 hk i) (by omega) rfl rfl (fun _=>rfl) (fun x=>absurd rfl x.2.1) fun _ x=>by omega
def xw4(B:q9 X Wg C S D M)(h:dU P ty Wg C S D M c vals o X p rg r 1 3 m [] b q gs v t)(j:gs[0]?=bO g0)(hk:k=1\/k=2)(n:AtD3 P ty Wg D 3 0 k b v)(s:Nat):
  rR P ty Wg C S D M c vals o X p rg r g0 3 s q gs v sl t:=by
 obtain rfl:=h.kH (by omega) (by omega);have g:WgAt ty Wg v 1 0:=h.wg;obtain⟨w,a,y,i⟩:=n.2 g;rw[QI g]at a i;obtain⟨d,f⟩:=ZC (Wg:=Wg) Gx;exact GV B h j a (fun e l=> .inl (Gx e l)) d f (by omega) (.d4 hk i) (by omega) rfl rfl (fun _=>rfl) (fun x=>absurd rfl x.2.1) fun _ x=>by omega
def Pm{st sm:Int}(h:WgAt ty Wg v st sm)(x:Int):v.setCell (smA Wg) (zu x)={v with heap:=v.heap.setIfInBounds Wg<|wgBlock ty st x}:=by
 unfold WgAt at h;unfold World.setCell;simp only[smA];rw[modify_eq_set _ _ _ _ h];simp[wgBlock]
def xw5(B:q9 X Wg C S D M)(h:dU P ty Wg C S D M c vals o X p rg r 1 2 m [] b q gs v t)(k:gs[0]?=bO g0)(i:AtD4 P ty Wg b v)(n:Nat):
  rR P ty Wg C S D M c vals o X p rg r g0 2 n q gs v sl t:=by
 obtain rfl:=h.kH (by omega) (by omega);have f:WgAt ty Wg v 0 0:=h.wg;obtain⟨s,a,w,d⟩:=i.2.2 f;rw[Pm f]at a;refine GV B h k a (fun e g=>?_) (by simp[semEvents,deafBehind]) (fun j l=>?_) (by omega) (.out d) (by omega) rfl rfl (by omega) (fun x=>absurd rfl x.2.1) fun _ _=>⟨i.2.1,by rcases d.status with e|e<;>rw[e]<;>simp,by rcases d.status with e|e<;>rw[e]<;>simp⟩;simp[semEvents]at g;rcases g with rfl|rfl|rfl|rfl;exact .inr rfl;exact .inl ⟨_,bK,rfl,rfl⟩;exact .inl ⟨_,bL,rfl,rfl⟩;exact .inr rfl;have:j<=4:=by simpa[semEvents]using l
 rcases(show j=0\/j=1\/j=2\/j=3\/j=4 by omega)with rfl|rfl|rfl|rfl|rfl<;>simp[semEvents,deafBehind]
def xuq(B:q9 X Wg C S D M)(h:dU P ty Wg C S D M c vals o X p rg r d 1 m [] b q gs v t)(R:gs[0]?=bO g0)(F:b.status= .running)(Q:QuitsD P m d b):
  rR P ty Wg C S D M c vals o X p rg r g0 1 m q gs v sl t:=by
 cases m with
 |zero=>rw[Q.1]at F;cases F
 |succ m=>
  rcases Q with⟨Y,_⟩|⟨_,K,E,N,k,I⟩;rw[Y]at F;cases F;have G:=Xh h.pos;have j:c<gs.size:=by rw[h.size];omega
  have O:∀y∈bD c b.frame.fn b.frame.place E,y.act.touch?=none:=fun y f=>by
   obtain⟨e,H,rfl⟩:=zy f;exact touch_mute<|N e H
  have z:∀i,t.size<=i->(t++bD c b.frame.fn b.frame.place E).g? i=bO c->¬(t++bD c b.frame.fn b.frame.place E).counts i:=fun i hi hg W=>by
   obtain⟨x,hx,_⟩:=W;rcases Zo hx with⟨Z,_⟩|⟨_,y,f,_,n⟩
   omega;rw[O y f]at n;cases n
  obtain⟨rr,hp,J⟩:=h.rel (by omega);refine⟨deafBehind d E,1,[],_,v,sl,_,m,K,LU h<|k v,.right _<|by omega,⟨_,IY G R,.inr ⟨b,K,rfl⟩,fun _ _ x=>by omega⟩,h.next (by simp) (by simp[j]) JO fZ (.out I) h.kc h.pay h.chan h.nV h.lefts h.wg h.kH h.kG
   (h.tp.mutes fZ O fun y f e=>?_) (by rw[Deaf_own,h.eD]) (fun _=>⟨rr,hp,J.app z⟩),fun w V=>V,fun _ rr J=>J.app z⟩
  obtain⟨L,H,rfl⟩:=zy f;have T:=Wc e;have U:=N L H;obtain⟨l,a,s⟩:=L;cases T;simp[Event.mute]at U
end
section
variable [Payload] {P:aV} {ty:TypeId} {Wg C:Nat} {S:Nat->Prop} {D M c:Nat} {vals:List Value} {o:Nat->Obj} {X:Nat->Prop} {p rg r:Nat}
variable {d st m:Nat} {left:List Value} {b g0:aS} {q:Nat->Nat} {gs:Array aS} {v:World} {t:Trace} {sl:Option<|Nat×Nat}
def Gw(B:q9 X Wg C S D M)(h:dU P ty Wg C S D M c vals o X p rg r 0 st m [] b q gs v t)(g:st=8\/st=7)(y:gs[0]?=bO g0){v0 v1:Zv}{m0 m1 mm:Nat}(I:st=8\/mm=m0+m1)
  (s:Goes P bK (RW ty Wg D 3 0 0) (DWs Wg rY rY D 3 1) (AtR0 P ty Wg D 3 0 1 v0) m0 b v)(w:Goes P bK (RW ty Wg D 3 0 1) (DWs Wg rY rY D 3 2) (AtR0 P ty Wg D 3 0 2 v1) m1 b v):
  rR P ty Wg C S D M c vals o X p rg r g0 st mm q gs v sl t:=by
 rcases Yl Y9 s with l|⟨n0,b',v',N,rfl,l,K,V⟩;exact Ho B h g y (.inl rfl) l mm;rcases Yl Y9 w with f|⟨n1,b1,w1,O,rfl,f,z,E⟩;exact Ho B h g y (.inr rfl) f mm;rw[l]at f;cases f;obtain⟨dr,rfl⟩:=AM K.1 z.1 h.pay;have J:Wg<v.heap.size:=(za.1 h.wg).1;have d:∀e∈N,(∀x,(aU e).touch?=bO x->qX Wg x.loc/\x.kind= .atomic)/\e.loc≠ .mark .disable/\e.loc≠ .mark .enable/\e.loc≠ .mark (.release<|stA Wg):=fun e i=>by
  obtain⟨Q,R,T,U⟩:=K.2 e i;refine⟨fun x k=>?_,R,T,U⟩;rcases(Q 0 "").2 x k with⟨⟨a,F,W⟩,G,H⟩|x|⟨x,_⟩
  refine⟨⟨a,F,W⟩, ?_⟩;cases hk:x.kind with
  |plain=>exact absurd hk G
  |said=>exact absurd hk H
  |atomic=>rfl
  exact x.elim;exact x.elim
 refine⟨_,_,_,BL B h y l (.dn V E) ?_ ?_ ⟨JV (by omega)<|by omega,JU (by omega)<|by omega⟩ (by omega) (by omega) ?_ (deafBehind_still (fun e i=>⟨(d e i).2.1,(d e i).2.2.1⟩) 0) fun x=>by omega⟩;rcases g with rfl|rfl
 exact .left _ _ (by omega);rcases I with x|rfl
 omega;exact .right _ (by omega);rcases g with rfl|rfl<;>rfl
 ·refine h.tp.app B.apart (.inr rfl) fZ (fun L j x k hm=>?_) (fun L j x k=>?_) (fun L j e=>?_) BI
  all_goals obtain⟨n,i,rfl⟩:=zy j
  obtain⟨Y,Z⟩:=(d n i).1 x k;exact .inr<|.inl ⟨Y,.inl Z⟩;obtain⟨⟨a,e,F⟩,_⟩:=(d n i).1 x k;rw[e];show a.block<_;rw[F];exact J;exact(d n i).2.2.2<|Wc e
def Oi(B:q9 X Wg C S D M)(h:dU P ty Wg C S D M c vals o X p rg r d st m left b q gs v t)(f:gs[0]?=bO g0)(s:offersAt g0 C bK=[])(E:b.status= .running):rR P ty Wg C S D M c vals o X p rg r g0 st m q gs v sl t:=by
 have j:WgLive ty Wg v:=⟨_,_,h.wg⟩;cases h.ch with
 | @send F vs m b w hG=>
  rcases Yl (fun _ x=>x) hG with e|⟨n,g,l,i,rfl,e,hD,a⟩;exact xsl B h f s e;exact⟨_,_,_,LJ B h f e hD (.send a) (by omega)<|by omega⟩
 |cls hG=>
  rcases Yl (fun _ x=>x) hG with e|⟨n,g,l,i,rfl,e,hD,a⟩;exact xtr B h f e;exact⟨_,_,_,LJ B h f e hD (.cls a) (by omega)<|by omega⟩
 |fin hG=>
  rcases Yl (fun _ x=>x) hG with e|⟨n,g,l,i,rfl,e,hD,a⟩;obtain⟨F,I,G,H,y,z⟩:=e.2 j;exact Gw B h (.inl rfl) f (.inl rfl) y z;exact⟨_,_,_,LJ B h f e hD (.fin a) (by omega)<|by omega⟩
 |dn y z=>exact Gw B h (.inr rfl) f (.inr rfl) y z
 | @rel k m b w hk hG=>
  rcases Yl Y9 hG with e|⟨n,g,l,i,rfl,e,⟨rfl,rfl⟩,a⟩;exact xxa B h f hk e m;exact⟨_,_,_,BL B h f e (.rel hk a) (.right _<|by omega) rfl ⟨rfl,rfl⟩ (.inr rfl) id (by simpa[ofEvents_eq]using h.tp) rfl fun _=>rfl⟩
 | @deaf k m b w hk hG=>
  rcases Yl Y9 hG with e|⟨n,g,l,i,rfl,e,⟨rfl,rfl⟩,a⟩;exact xw2 B h f hk e m;exact⟨_,_,_,BL B h f e (.deaf hk a) (.right _<|by omega) rfl ⟨rfl,rfl⟩ (.inr rfl) id (by simpa[ofEvents_eq]using h.tp) rfl fun _=>rfl⟩
 | @d2 k m b w hk hG=>
  rcases Yl Y9 hG with e|⟨n,g,l,i,rfl,e,⟨rfl,rfl⟩,a⟩;exact xw3 B h f hk e m;exact⟨_,_,_,BL B h f e (.d2 hk a) (.right _<|by omega) rfl ⟨rfl,rfl⟩ (.inr rfl) id (by simpa[ofEvents_eq]using h.tp) rfl fun _=>rfl⟩
 | @d3 k m b w hk hG=>
  rcases Yl Y9 hG with e|⟨n,g,l,i,rfl,e,⟨rfl,rfl⟩,a⟩;exact xw4 B h f hk e m;exact⟨_,_,_,BL B h f e (.d3 hk a) (.right _<|by omega) rfl ⟨rfl,rfl⟩ (.inr rfl) id (by simpa[ofEvents_eq]using h.tp) rfl fun _=>rfl⟩
 | @d4 k m b w hk hG=>
  rcases Yl Y9 hG with e|⟨n,g,l,i,rfl,e,⟨rfl,rfl⟩,a⟩;exact xw5 B h f e m;exact⟨_,_,_,BL B h f e (.d4 hk a) (.right _<|by omega) rfl ⟨rfl,rfl⟩ (.inr rfl) id (by simpa[ofEvents_eq]using h.tp) rfl fun _=>rfl⟩
 |out hq=>exact xuq B h f E hq
def VH(B:q9 X Wg C S D M)(h:dU P ty Wg C S D M c vals o X p rg r d st m left b q gs v t)(dr:Nat):dU P ty Wg C S D M c vals o X p rg r d st m left b q gs (v.at dr) t:=
 ⟨h.pos,h.size,h.hb,h.old,h.above,h.ch.rely h.kc B.sd (fun _ _=>rfl) ⟨_,_,h.wg⟩,h.kc,h.pay,h.chan,h.nV,h.lefts,h.wg,h.kH,h.kG,h.tp,h.deaf0,h.eD,h.rel,h.pt⟩
def YQ(h:dU P ty Wg C S D M c vals o X p rg r d st m left b q gs v t)(h0:gs[0]?=bO g0){i:Nat}{g1:Zg}(F:0<i)(E:i<c)(R:gs[i]?=bO g1)(n:g1.status= .running):
  ∃gs' ops q',runT P (crowd gs v sl) i=(.next<|crowd gs' v sl,ops)/\sumTo c q'<sumTo c q/\(∃g0',gs'[0]?=bO g0'/\(g0'=g0\/∃a a',g0'=woken P a a' v g0))/\dU P ty Wg C S D M c vals o X p rg r d st m left b q' gs' v (t++ops)/\∀rr,Rel (stA Wg) c t rr->Rel (stA Wg) c (t++ops) rr:=by
 have L:=h.old i g1 F E R;have T:(i==0)=bK:=by simp;omega
 have W:i<gs.size:=(za.1 R).1;cases hqi:q i with
 |zero=>rw[hqi]at L;rw[L.1]at n;cases n
 |succ k=>
  rw[hqi]at L;rcases L with⟨hf,_⟩|⟨_,g',O,hm,H,Y⟩
  rw[hf]at n;cases n;have z:=runT_crowd_go (sl:=sl) R (by rw[T];exact H v);have ba:sumTo c (upd q i k)+(k+1)=sumTo c q+k:=by
   have:=sumTo_upd q k id E;simpa[hqi]using this
  have hn:∀J∈bD i g1.frame.fn g1.frame.place O,J.act.touch?=none:=fun J f=>by
   obtain⟨e,Q,rfl⟩:=zy f;exact touch_mute<|hm e Q
  have K:∀N,t.size<=N->(t++bD i g1.frame.fn g1.frame.place O).g? N=bO c->¬(t++bD i g1.frame.fn g1.frame.place O).counts N:=fun N bb hg hc=>by
   obtain⟨x,B,_⟩:=hc;rcases Zo B with⟨bc,_⟩|⟨_,J,f,_,I⟩
   omega;rw[hn J f]at I;cases I
  refine⟨_,_,upd q i k,z,by omega, ?_,⟨h.pos,by simp[h.size], ?_,fun j x U V B=>?_,fun j U=>?_,h.ch,h.kc,h.pay,h.chan,h.nV,h.lefts,h.wg,h.kH,h.kG,h.tp.mutes fZ hn fun J f e=>?_, ?_, ?_,fun h6=>?_,by have:=h.pt;simp;omega⟩,fun rr Z=>Z.app K⟩;exact⟨woken P g1 g' v g0,by rw[zd<|by omega,jj,h0];rfl,.inr ⟨g1,g',rfl⟩⟩;rw[zd<|by omega,jj,h.hb];simp only[js,zp];rcases h.ch.awake with e|e
  exact woken_run e;cases h.ch with
  |out hq2=>exact woken_quitsD hq2
  |_=>
   rename_i hG
   first
    |(have:=qr (fun _ _ x=>x.1) (fun _ x=>x) hG;rw[e]at this;cases this)
    |(have:=qr (fun _ _ x=>x.1) Y9 hG;rw[e]at this;cases this)
  by_cases w:i=j;subst w;rw[zx<|by simpa using W]at B;obtain rfl:=jf B;rw[upd_same,Deaf_own];exact Y;rw[zd w,jj]at B;obtain⟨y,hy,rfl⟩:=zt.1 B;have G:=h.old j y U V hy;rw[woken_quitsD G,upd_ne q k<|aL w,aG t w _ fZ];exact G;rw[aG t (g':=i) (by omega) _ fZ];exact h.above j U;obtain⟨ev,Q,rfl⟩:=zy f;have h1:=Wc e;have h2:=hm ev Q;obtain⟨l,a,s⟩:=ev;cases h1;simp[Event.mute]at h2;rw[aG t (g':=i) (by omega) _ fZ];exact h.deaf0;rw[aG t (g':=i) (by omega) _ fZ];exact h.eD;obtain⟨rr,hp,Z⟩:=h.rel h6;exact⟨rr,hp,Z.app K⟩
end
end
end A
namespace A
open Go Go.Conc
open Go.ConcN (sumTo upd sumTo_upd upd_ne upd_same RW DWs AtR0 AtK1 AtD1 WgLive PayAt Has AsideCell EvW ShN)
open Go.ConcR (KK wgBlock WgAt stA smA rd wr mk Payload DC0)
variable [pn:Pn]
section
variable [Payload] {P:aV} {F:Array Func} {dm:Frame} {ty:TypeId} {Wg C:Nat} {S:Nat->Prop} {D M c:Nat} {vals:List Value} {o:Nat->Obj} {X:Nat->Prop} {p rg r:Nat}
variable {d st m:Nat} {left:List Value} {b g0:aS} {q:Nat->Nat} {gs:Array aS} {v:World} {t:Trace} {sl:Option<|Nat×Nat}
def q9.xs(B:q9 X Wg C S D M):∀x,S x\/x=M->X x:=fun x b=>by
 rcases B.apart.th (.cell<|zq x 0) (.inl ⟨_,rfl,b⟩)with⟨a,e,h⟩|⟨r,e,_⟩;cases e;exact h;cases e
def q9.xd(B:q9 X Wg C S D M):X D:=B.xs D<|.inl B.sd
def Fv(B:q9 X Wg C S D M)(h:dU P ty Wg C S D M c vals o X p rg r d st m left b q gs v t)(h0:gs[0]?=bO g0){g':Zg}{v':Zy}{es:Array Event}(hk:∀x,X x->v'.heap[x]?=v.heap[x]?)(k:∀e∈es,qI X v'.heap.size e)(R:v.heap.size<=v'.heap.size)
  {f:Zg->Zg}(W:f=woken P g0 g' v'\/f=id):
  dU P ty Wg C S D M c vals o X p rg r d st m left b q ((gs.map f).setIfInBounds 0 g') v' (t++bD 0 g0.frame.fn g0.frame.place es):=by
 have s:c≠0:=Xh h.pos;have G:∀{n d} {x:Zg},QuitsD P n d x->f x=x:=fun F=>by
  rcases W with rfl|rfl;exact woken_quitsD F;rfl
 have N:∀{x:Zg},x.status= .running->f x=x:=fun F=>by
  rcases W with rfl|rfl;exact woken_run F;rfl
 refine⟨h.pos,by simp[h.size], ?_,fun i g Y O H=>?_,fun j hj=>?_,h.ch.rely h.kc B.sd (fun x l=>hk x<|B.xs x l) ⟨_,_,h.wg.of_block<|hk Wg B.xw⟩,fun x l=>(hk x<|B.xs x l).trans<|h.kc x l, ?_,(hk C B.xc).trans h.chan,h.nV,h.lefts,h.wg.of_block<|hk Wg B.xw,h.kH,h.kG, ?_, ?_, ?_,fun h6=>?_,by have:=h.pt;simp;omega⟩;rw[zd<|aL s,jj,h.hb];simp only[js,zp];rcases h.ch.awake with e|e
 exact N e;cases h.ch with
 |out hq2=>exact G hq2
 |_=>
  rename_i hG
  first
   |(have:=qr (fun _ _ x=>x.1) (fun _ x=>x) hG;rw[e]at this;cases this)
   |(have:=qr (fun _ _ x=>x.1) Y9 hG;rw[e]at this;cases this)
 rw[zd<|by omega,jj]at H;obtain⟨y,hy,rfl⟩:=zt.1 H;have F:=h.old i y Y O hy;rw[G F,aG t (g':=0) (by omega) _ fZ];exact F;rw[aG t (g':=0) (by omega) _ fZ];exact h.above j hj;obtain⟨cs,e,hs⟩:=h.pay;exact⟨cs,(hk D B.xd).trans e,hs⟩
 ·refine(h.tp.mono R).app B.apart (.inl rfl) fZ (fun Z w x l I=>?_) (fun Z w x l=>?_) (fun Z w e=>?_) BI
  all_goals obtain⟨K,E,rfl⟩:=zy w
  obtain⟨_,J⟩:=IV (k K E) l;refine .inl ⟨rfl,.inl (J I).1,fun T=> .inl ?_,fun⟨r1,e,Q⟩ _=>(J I).2 r1 e Q⟩;rcases T with⟨a,e,L⟩|⟨x1,e,L⟩
  exact absurd ⟨a,e,B.xs _ L⟩ (J I).1;exact(J I).2 x1 e<|B.xs x1 L;exact(IV (k K E) l).1;exact(JF<|k K E).2.2 _<|Wc e
 rw[Deaf_own,deafBehind_still fun e E=>⟨(JF<|k e E).1,(JF<|k e E).2.1⟩];exact h.deaf0;rw[aG t (g':=0) (aL s) _ fZ];exact h.eD;obtain⟨rr,hp,hr⟩:=h.rel h6;refine⟨rr,hp,hr.app fun i Y H _=>?_⟩;obtain⟨z,hz,U⟩:=zt.1 H;rcases getElem?_append_cases hz with⟨ba,_⟩|⟨_,V⟩
 omega;exact s<|U.symm.trans<|fZ z V
def Yi(B:q9 X Wg C S D M):BD P X (JC P ty Wg C S D M c vals o X p rg r) where
 awake k gs v t hJ i g hi hg:=by
  obtain⟨d,st,m,left,b,q,h,_⟩:=hJ;have F:i<c+1:=by have:=(za.1 hg).1;rwa[h.size]at this
  by_cases e:i=c;subst e;rw[h.hb]at hg;cases hg;exact awake_of<|h.ch.awake.elim .inl fun x=> .inr (.inr x);exact awake_of<|(h.old i g hi (by omega) hg).status.elim .inl fun x=> .inr (.inr x)
 drawn k gs v t dr hJ:=by
  obtain⟨d,st,m,left,b,q,h,hk⟩:=hJ;exact⟨d,st,m,left,b,q,VH B h dr,hk⟩
 other k gs v t i g g0 sl hJ hi hg hrun h0 hrun0 hdy:=by
  obtain⟨d,st,m,left,b,q,h,rfl⟩:=hJ;have F:i<c+1:=by have:=(za.1 hg).1;rwa[h.size]at this
  by_cases e:i=c;subst e;rw[h.hb]at hg;cases hg;obtain⟨Q,H,n,l,K,G,s,R,O,y,I,⟨j,z,f,_⟩,E,N,_⟩:=Oi (sl:=sl) B h h0 (offersAt_of_not_blocked (by rw[hrun0];simp) _ _) hrun;have:j=g0:=by
   rcases f with e|⟨a,L,e⟩;exact e;rw[e];exact woken_run hrun0
  subst this;exact⟨l,K,G,s,_,y,I,z,⟨Q,H,R,n,O,q,E,rfl⟩,N⟩;obtain⟨l,s,J,y,I,⟨j,z,f⟩,E,_⟩:=YQ (sl:=sl) h h0 hi (by omega) hg hrun;have:j=g0:=by
   rcases f with e|⟨a,L,e⟩;exact e;rw[e];exact woken_run hrun0
  subst this;exact⟨l,v,sl,s,(st,m+sumTo c J),y,.right _<|by omega,z,⟨d,st,m,left,b,J,E,rfl⟩,fun w h=>h⟩
 own k gs v t g0 g' K es hJ h0 hst hrun hrun' hk hes hsz:=by
  obtain⟨d,st,m,left,b,q,h,rfl⟩:=hJ;exact⟨d,st,m,left,b,q,Fv B h h0 hk hes hsz<|.inl rfl,rfl⟩
end
section
variable [Payload] {P:aV} {ty:TypeId} {Wg C:Nat} {S:Nat->Prop} {D M c:Nat} {vals:List Value} {o:Nat->Obj} {X:Nat->Prop} {p rg r:Nat}
variable {d st m:Nat} {left:List Value} {b g0:aS} {q:Nat->Nat} {gs:Array aS} {v:World} {t:Trace} {sl:Option<|Nat×Nat}
def got(vals:Ze)(z:Zv)(r:Nat):Zv:=if r<vals.length then .tuple #[vals.getD r bJ,.bool bL]else .tuple #[z,.bool bK]
def vO(vals:Ze)(r:Nat):Nat:=if r<vals.length then r+1 else r
variable (P ty Wg C S D M c vals o X p rg)in
def wZ(r:Nat)(g₂:Zg)(z:Zv)(m:Machine)(t:Trace)(w:Zy):Prop:=
 ∃N gs' v' sl' t' k',runNT P N m t=(.next<|crowd gs' v' sl',t')/\JC P ty Wg C S D M c vals o X p rg (vO vals r) k' gs' v' t'/\gs'[0]?=bO (Conc.served g₂<|got vals z r)/\Sm P X (re w v'.tape v'.drawn) v'
def wZ.step{g₂:Zg}{z:Zv}{m m1:Machine}{t t1:Trace}{w:Zy}{N:Nat}(h:runNT P N m t=(.next m1,t1))(k:wZ P ty Wg C S D M c vals o X p rg r g₂ z m1 t1 w):wZ P ty Wg C S D M c vals o X p rg r g₂ z m t w:=by
 obtain⟨d,a,j,b,i,g,e,f⟩:=k;exact⟨N+d,a,j,b,i,g,ql h e,f⟩
def dU.recv(B:q9 X Wg C S D M)(h:dU P ty Wg C S D M c vals o X p rg r d st m left b q gs v t){r':Nat}{gs':Array Zg}{v':Zy}{u:Trace}(N:gs'.size=gs.size)(n:∀j,j≠0->gs'[j]?=gs[j]?)(E:∀op∈u,op.g=0)(I:∀op∈u,op.act.touch?=none/\(∀a,op.act≠ .mark (.release a))/\op.act≠ .mark .disable/\op.act≠ .mark .enable)
  (k:∀x,x≠C->v'.heap[x]?=v.heap[x]?)(O:v'.heap.size=v.heap.size)
  (s:v'.heap[C]?=bO (.chan vals.length ((vals.take<|vals.length-left.length).drop r').toArray (decide (st<=8)) (vals.length-left.length) r' bK))(G:r'<=vals.length-left.length):
  dU P ty Wg C S D M c vals o X p rg r' d st m left b q gs' v' (t++u):=by
 have w:c≠0:=Xh h.pos;have K:∀x,S x\/x=M->v'.heap[x]?=v.heap[x]?:=fun x J=>k x<|B.cs x J;have hd:Deaf (t++u) 0=Deaf t 0:=by
  obtain⟨l⟩:=u;rw[Deaf_append];have F:∀op∈l,op.act≠ .mark .disable/\op.act≠ .mark .enable:=fun op f=>(I op<|by simpa using f).2.2;clear E I;generalize Deaf t 0=x;induction l generalizing x with
  |nil=>rfl
  |cons y l ih=>
   rw[J4];have:deafStep 0 x y=x:=by
    obtain⟨h1,h2⟩:=F y (by simp);unfold deafStep;split<;>simp_all
   rw[this];exact ih (fun op f=>F op<|by simp[f]) x
 refine⟨h.pos,by rw[N,h.size],by rw[n c w];exact h.hb,fun i g T L H=>?_,fun j V=>?_,h.ch.rely h.kc B.sd K ⟨_,_,h.wg.of_block<|k Wg B.wc⟩,fun x J=>(K x J).trans<|h.kc x J, ?_,s,G,h.lefts,h.wg.of_block<|k Wg B.wc,h.kH,h.kG,by rw[O];exact h.tp.mutes E (fun op f=>(I op f).1) fun op f=>(I op f).2.1 _,hd.trans h.deaf0,by rw[aG t (aL w) u E];exact h.eD,fun U=>?_,by have:=h.pt;simp;omega⟩;rw[n i<|by omega]at H;rw[aG t (g':=0) (by omega) u E];exact h.old i g T L H;rw[aG t (g':=0) (by omega) u E];exact h.above j V;obtain⟨cs,e,N⟩:=h.pay;exact⟨cs,(K D<|.inl B.sd).trans e,N⟩;obtain⟨rr,Y,Z⟩:=h.rel U;refine⟨rr,Y,Z.app fun i T H _=>?_⟩;obtain⟨z,hz,Q⟩:=zt.1 H;rcases getElem?_append_cases hz with⟨W,_⟩|⟨_,R⟩
 omega;exact w<|Q.symm.trans<|E z R
def YS(h:dU P ty Wg C S D M c vals o X p rg r d st m left b q gs v t)(f:Bool):partners (gs.setIfInBounds 0 ph) C f=[]:=partners_nil fun j x i=>by
 rcases getElem?_stand gs 0 j x i with⟨_,rfl⟩|⟨k,a⟩;exact offersAt_ph _ _;refine offersAt_of_not_blocked ?_ _ _;have g:j<c+1:=by have:=(za.1 a).1;rwa[h.size]at this
 by_cases e:j=c;subst e;rw[h.hb]at a;cases a;rcases h.ch.awake with e|e<;>rw[e]<;>simp
 rcases(h.old j x (by omega) (by omega) a).status with e|e<;>rw[e]<;>simp
def zt7(l:Ze):l.toArray.extract 1 l.toArray.size=(l.drop 1).toArray:=by
 apply Array.ext';simp only[Array.toList_extract,jg,XQ];exact qj<|by simp
def Fd(B:q9 X Wg C S D M)(h:dU P ty Wg C S D M c vals o X p rg r d st m left b q gs v t){g₂:Zg}{z:Zv}(n:gs[0]?=bO g0)(l:aZ P bL g0 v= .comm g₂ #[rcase C z] bL (.recv bL) v #[])(E:r<vals.length-left.length){w:Zy}(s:Sm P X (re w v.tape v.drawn) v):
  ∃gs' v' t',runT P (crowd gs v sl) 0=(.next<|crowd gs' v' sl,t')/\dU P ty Wg C S D M c vals o X p rg (r+1) d st m left b q gs' v' (t++t')/\gs'[0]?=bO (Conc.served g₂<|.tuple #[vals.getD r bJ,.bool bL])/\Sm P X (re w v'.tape v'.drawn) v':=by
 have f:((vals.take<|vals.length-left.length).drop r).length=vals.length-left.length-r:=by simp
 have e:=crowd_recv_buf (sl:=sl) n l h.chan (by simp only[jg,f];omega)<|YS h bL;have g:C<v.heap.size:=(za.1 h.chan).1;have i:0<gs.size:=(za.1 n).1;have F:((vals.take<|vals.length-left.length).drop r).toArray.getD 0 bJ=vals.getD r bJ:=by
  have k:r<vals.length:=by omega
  simp[Zj,Xo,E,k]
 rw[finishComm_recv,F]at e;refine⟨_,_,_,e,h.recv B (by simp) (fun j y=>by rw[zd<|aL y]) (fun H a=>?_) (fun H a=>?_) (fun x G=>?_) (by show(v.heap.setIfInBounds C _).size=_;simp) ?_<|by omega,by simp[i,recvd],RP (C:=C) s B.xc B.nc h.chan⟩;simp[ofEvents_eq]at a;rcases a with rfl|rfl<;>rfl
 simp[ofEvents_eq]at a;rcases a with rfl|rfl<;>simp[aR]
 show(v.heap.setIfInBounds C _)[x]?=_;rw[zd<|aL G];show(v.heap.setIfInBounds C _)[C]?=_;rw[zt7,Vx];simp[g]
def zyf(B:q9 X Wg C S D M)(h:dU P ty Wg C S D M c vals o X p rg r d st m left b q gs v t){g₂:Zg}{z:Zv}(k:gs[0]?=bO g0)(i:aZ P bL g0 v= .comm g₂ #[rcase C z] bL (.recv bL) v #[])(y:¬r<vals.length-left.length)(l:st<=8):
  ∃gs' t',runT P (crowd gs v sl) 0=(.next<|crowd gs' v sl,t')/\dU P ty Wg C S D M c vals o X p rg r d st m left b q gs' v (t++t')/\gs'[0]?=bO (Conc.served g₂<|.tuple #[z,.bool bK]):=by
 have n:((vals.take<|vals.length-left.length).drop r).toArray=#[]:=by
  have:((vals.take<|vals.length-left.length).drop r)=[]:=Yp (by simp;omega);rw[this]
 have f:=h.chan;rw[n,show decide (st<=8)=bL by simpa using l]at f;have e:=crowd_recv_closed (sl:=sl) k i f<|YS h bL;have g:0<gs.size:=(za.1 k).1;rw[finishComm_recv]at e;refine⟨_,_,e,h.recv B (by simp) (fun j s=>by rw[zd<|aL s]) (fun w a=>?_) (fun w a=>?_) (fun x E=>rfl) rfl h.chan h.nV,by simp[g,recvd]⟩;simp[ofEvents_eq]at a;subst a;rfl;simp[ofEvents_eq]at a;subst a;simp[aR]
end
end A
end Go.Proofs.YtjnbhiamaabbgaaGreatDoor
