import Derived.Test.YtjnbhiamaabbgaaGreatDoorM0
set_option linter.all false
set_option maxRecDepth 100000
set_option maxHeartbeats 8000000
namespace Go.Proofs.YtjnbhiamaabbgaaGreatDoor
open Bool renaming false->bK,true->bL
open Go renaming Program->aV,results->aN,stepG->aZ,tryRecover->aH,unwind->aI
open Go.Frame renaming enter->bF
open Go.GStep renaming after->bA
open Go.stepG renaming apply->bH,exec->bI
open Option renaming none->bN,some->bO
namespace A
open Go Go.Conc
variable [pn:Pn]
section
variable {fr:Zf} {cs:List Zf} {w w1:Zy} {p:Zp} {n:Next} {f:FuncId} {s:Sem Next} {es es':Array Event} {b:Bool} {g':Zg} {l:Nat} {args:Za} {d:Deferred} {ρ:Operand→Zv} {k:List Item} {w':Zy} {fn:FuncId} {t:Nat→Question→Nat}
section
variable {α β:Type} {P:aV} {F:Array Func} {X:Nat->Prop}
structure Af(P:Zp)(X:ZP)(v w' v':Zy)(es:Array Event):Prop where
 sm:Sm P X w' v'
 kept:∀x,X x->v'.heap[x]?=v.heap[x]?
 evs:∀e∈es,qI X v'.heap.size e
 grows:v.heap.size<=v'.heap.size
def Gu(P:Zp)(X:ZP)(v:Zy)(s' s:GStep):Prop:=
 ∀g' w' es',s'= .go g' w' es'->g'.dying=bN->∃v' es,s= .go g' v' es/\Af P X v w' v' es
def Nx:Next->Prop
 | .value _| .skip| .enter _ _| .round ..| .defer _| .recover=>True
 |_=>False
def Ys(P:Zp)(F:Zc)(f:FuncId):Prop:=F[f]?=P.funcs[f]?/\¬Ref F f
def Af.sub{v w' v':Zy}(h:Af P X v w' v' es)(b:∀e∈es',e∈es):Af P X v w' v' es':=
 ⟨h.sm,h.kept,fun e a=>h.evs e<|b e a,h.grows⟩
def CR.af{r:Result α}{r2:Result α×Array Event}{v v':Zy}{new:Array Event}(h:CR P X v #[] r r2 v' new):Af P X v (rW r) v' new:=⟨h.sm,h.kept,h.evs,h.grows⟩
def CR.run{s:Sem α}{r:Result α}{v v':Zy}{new:Array Event}(h:CR P X v #[] r (s.runT P v #[]) v' new):s.run P v=Ww v' r/\s.events P v #[]=new:=by
 have:=h.eq;rw[zg]at this;have a:=(Prod.mk.inj this).1;have b:=(Prod.mk.inj this).2;exact⟨a,by simpa using b⟩
def zdt(h:F[f]?=P.funcs[f]?)(args:Za)(k:CallKind):bF (wf P F) f args k=bF P f args k:=by
 unfold bF;rw[show(wf P F).funcs[f]?=P.funcs[f]?from h]
def Nu{ps:List ByteArray}{m:String}{w w':Zy}(h:bA es (dieOf fr ps m b w)= .go g' w' es'):g'.dying≠bN:=by
 unfold dieOf at h;cases h;simp
def PV{m:String}{w w':Zy}(h:bA es (endThrow fr m w)= .go g' w' es')(hd:g'.dying=bN):False:=Nu h hd
def PU{m:String}{w w':Zy}(h:bA es (endFatal p fr cs bN m w)= .go g' w' es')(hd:g'.dying=bN):False:=by
 unfold endFatal at h;dsimp only at h;split at h;exact Nu h hd;cases h;cases h
def IU{P1 P2:Zp}{w1 w2 v2:Zy}{r:Result Next}(hk:fr.kind≠ .early)(j:P1.follows=P2.follows)
  (o:s.run P1 w1=r)(i:s.run P2 w2=Ww v2 r)(p:nR r)(v:∀n x,r= .ok n x->Nx n)(q:∀f a x k,r= .ok (.enter f a) x->bF P1 f a k=bF P2 f a k)
{es':Array Event}(h:bH P1 bL fr cs bN s w1= .go g' w' es')(hd:g'.dying=bN):
  jK r/\w'=rW r/\bH P2 bL fr cs bN s w2= .go g' v2 (seen P2 fr.fn<|s.events P2 w2 #[]):=by
 have e:(fr.kind==CallKind.early)=bK:=by
  cases hq:fr.kind<;>simp_all
 cases r with
 |halt hh x=>
  cases hh with
  |panic y=>
   simp only[bH,zg,if_true,o,e]at h;cases h;refine⟨trivial,rfl, ?_⟩;simp[bH,zg,i,Ww,e,bA]
  |blocked=>exact p.elim
  |waiting=>exact p.elim
  |goexit=>exact p.elim
  |fatal m=>
   exfalso;simp only[bH,zg,if_true,o,e]at h;exact PU h hd
  |throw m=>
   exfalso;simp only[bH,zg,if_true,o,e]at h;exact PV h hd
  |exit c=>
   exfalso;simp only[bH,zg,if_true,o,e]at h;cases h
  |stuck m=>
   exfalso;simp only[bH,zg,if_true,o,e]at h;cases h
  |unsupported u=>
   exfalso;cases u with
   |initOrder g=>exact p.elim
   |_=>
    simp only[bH,zg,if_true,o,e]at h;cases h
 |ok n x=>
  have t:=v n x rfl;cases n with
  |value y=>
   simp only[bH,zg,if_true,o,e]at h;cases h;refine⟨trivial,rfl, ?_⟩;simp[bH,zg,i,Ww,e,bA]
  |skip=>
   simp only[bH,zg,if_true,o,e]at h;cases h;refine⟨trivial,rfl, ?_⟩;simp[bH,zg,i,Ww,e,bA]
  |enter f a=>
   simp only[bH,zg,if_true,o,e]at h;cases h;refine⟨trivial,rfl, ?_⟩;rw[q f a _ _ rfl];simp[bH,zg,i,Ww,e,bA]
  |round l f ts a b=>
   simp only[bH,zg,if_true,o,e]at h;cases h;refine⟨trivial,rfl, ?_⟩;simp[bH,zg,i,Ww,e,bA]
  |defer d=>
   simp only[bH,zg,if_true,o,e]at h;cases h;refine⟨trivial,rfl, ?_⟩;simp[bH,zg,i,Ww,e,bA]
  |recover=>
   simp only[bH,zg,if_true,o,e,j]at h;cases hro:fr.roundOf with
   |none=>
    cases htr:aH fr cs<;>
    ·simp only[hro,htr]at h
     cases h;refine⟨trivial,rfl, ?_⟩;simp[bH,zg,i,Ww,e,bA,hro,htr]
   |some l=>
    cases j:P2.follows .rangeFuncRecover with
    |true=>
     cases htr:aH fr cs<;>
     ·simp only[hro,j,htr,if_true]at h
      cases h;refine⟨trivial,rfl, ?_⟩;simp[bH,zg,i,Ww,e,bA,hro,j,htr]
    |false=>
     cases htr:tryRecoverLoop l cs<;>
     ·simp only[hro,j,htr,xu,if_false]at h
      cases h;refine⟨trivial,rfl, ?_⟩;simp[bH,zg,i,Ww,e,bA,hro,j,htr]
  |_=>exact t.elim
def zza(j:BN P F X s){w v:Zy}(d:Sm P X w v)(hk:fr.kind≠ .early)
  (i:∀n w1,s.run (wf P F) w= .ok n w1->Nx n)(c:∀f a w1,s.run (wf P F) w= .ok (.enter f a) w1->Ys P F f):
  Gu P X v (bH (wf P F) bL fr cs bN s w) (bH P bL fr cs bN s v):=by
 intro z B o h hd;have b:=j.dZ w d.self;have r:=(IU (P2:=wf P F) hk rfl rfl (ET _).symm b i (fun _ _ _ _ _=>rfl) h hd).1;obtain⟨y,t,g⟩:=j.gJ w v #[] d r fun f a w1 e=>(c f a w1 e).2;obtain⟨p,q⟩:=g.run;obtain⟨_,l,m⟩:=IU (P1:=wf P F) (P2:=P) (s:=s) (w1:=w) hk rfl rfl p b i (fun f a x k e=>zdt (c f a x e).1 a k) h hd;refine⟨y,_,m, ?_⟩;rw[l,q];exact g.af.sub fun e c=>mem_seen c
def DD(w:Zy)(st:Zy->GStep):Prop:=∀g' w' es',st w= .go g' w' es'->g'.dying=bN->w.drawn<=w'.drawn/\w'.tape=w.tape/\
 ∀t d,BU w (w'.drawn-w.drawn) t d->∃es,st (re w t d)= .go g' (re w' t<|d+(w'.drawn-w.drawn)) es
def Pz(e:BN P F X s){w:Zy}(b:Sm P X w w)(hk:fr.kind≠ .early)
  (c:∀n w1,s.run (wf P F) w= .ok n w1->Nx n):DD w<|bH (wf P F) bL fr cs bN s:=by
 intro m o g h hd;have a:=e.dZ w b;obtain⟨i,f,_⟩:=IU (P2:=wf P F) hk rfl rfl (ET _).symm a c (fun _ _ _ _ _=>rfl) h hd;obtain⟨l1,k,l⟩:=e.loc w b i;rw[f];refine⟨l1,k,fun t d j=>⟨_,(IU (P2:=wf P F) hk rfl rfl (l t d j) a c (fun _ _ _ _ _=>rfl) h hd).2.2⟩⟩
end
section
variable {α β:Type} {P:aV} {F:Array Func} {X:Nat->Prop}
def jm{s:Sem α}{k:α->Sem β}{b:β}(h:(s>>=k).run p w= .ok b w1):∃a w2,s.run p w= .ok a w2/\(k a).run p w2= .ok b w1:=by
 rw[show(s>>=k).run p w=_ from qh p s k w]at h;cases hs:s.run p w with
 |ok a w2=>rw[hs]at h;exact⟨a,w2,rfl,h⟩
 |halt x w2=>rw[hs]at h;cases h
def QW{s:Sem Zv}(h:(s>>=fun x=>(pure (.value x):Sem Next)).run p w= .ok n w1):Nx n:=by
 obtain⟨a,c,_,b⟩:=jm h;cases b;trivial
def TE{s:Sem Unit}(h:(s>>=fun _=>(pure .skip:Sem Next)).run p w= .ok n w1):Nx n:=by
 obtain⟨a,c,_,b⟩:=jm h;cases b;trivial
def YT(H:Fit P F X)(h:(callFunc f args).run (wf P F) w= .ok n w1):Nx n:=by
 unfold callFunc at h;obtain⟨p,d,c,a⟩:=jm h;cases c;change(match F[f]?with|none=>_|some fn=>_:Sem Next).run (wf P F) w=_ at a;cases hf:F[f]?with
 |none=>rw[hf]at a;cases a
 |some fn=>
  rw[hf]at a;simp only[H.name f fn hf]at a;cases hb:fn.body.isNone with
  |false=>
   simp only[hb]at a;cases a;trivial
  |true=>
   simp only[hb,if_true,H.next f fn hf hb]at a;obtain⟨_,g,_,b⟩:=jm a;cases he:Extern.find fn with
   |some e=>
    rw[he]at b;exact QW b
   |none=>
    rw[he]at b;dsimp only at b;split at b;cases b;trivial;cases b
def Lj(H:Fit P F X){r:Zv}{name:String}(h:(callMethod r name args).run (wf P F) w= .ok n w1):Nx n:=by
 unfold callMethod at h;split at h;obtain⟨p,e,c,a⟩:=jm h;obtain⟨y,f,d,b⟩:=jm a;exact YT H b;exact absurd h<|Yr _ _ _ _ _;cases h
def tA{b:Builtin}{ts:Array Zt}{t:Zt}{c:Array Bool}{a:Za}(d:yF P b ts=bL)(h:(builtin b ts t c a).run p w= .ok n w1):Nx n:=by
 unfold builtin at h;cases b<;>simp only[yF,xu]at d<;>first|exact QW h|(cases h;trivial)
def I3{a:Za}(h:(Instr.yield l a).run p w= .ok n w1):Nx n:=by
 unfold Instr.yield at h;obtain⟨r,f,d,b⟩:=jm h;split at b;obtain⟨_,g,c,e⟩:=jm b;cases c;cases b;trivial
def yE(H:Fit P F X){t:Target}(d:Vn P t=bL)(h:(invoke t args).run (wf P F) w= .ok n w1):Nx n:=by
 unfold invoke at h;cases t with
 |nil=>exact absurd h<|Yr _ _ _ _ _
 |builtin b ts u c=>exact tA d h
 |collected r=>cases h
 |coroexit c=>cases d
 |fn f c=>
  cases f with
  |func f=>exact YT H h
  |method m=>
   dsimp only at h;split at h;exact Lj H h;cases h
  |methodOf t m=>
   dsimp only at h;split at h;obtain⟨p,g,e,a⟩:=jm h;exact Lj H a;cases h
  |via t p f b=>
   dsimp only at h;split at h;obtain⟨p,g,e,a⟩:=jm h;exact YT H a;cases h
  |yield l=>exact I3 h
def zig(H:Fit P F X){o:Oper}(ho:qM P o.op=bL)(h:(execOp ρ o).run (wf P F) w= .ok n w1):Nx n:=by
 unfold execOp at h;cases hop:o.op<;>rw[hop]at ho h<;>simp only[qM,xu]at ho
 case call c=>
  obtain⟨d,f,b,a⟩:=jm h;exact yE H (Y4 ho b) a
 case defer c=>
  obtain⟨d,f,b,a⟩:=jm h;cases a;trivial
 case move=>cases h;trivial
 case assign=>cases h;trivial
 case pick=>
  obtain⟨d,f,b,a⟩:=jm h;cases a;trivial
 case panic=>exact QW h
 case nilCheck x=>
  dsimp only at h;split at h;exact absurd h<|Yr _ _ _ _ _;exact absurd h<|Yr _ _ _ _ _;exact absurd h<|Yr _ _ _ _ _;split at h;exact absurd h<|Yr _ _ _ _ _;obtain⟨p,f,b,a⟩:=jm h;obtain⟨y,k,i,e⟩:=jm a;split at e;obtain⟨z,l,g,j⟩:=jm e;cases g;cases e;trivial;cases h;trivial;cases h;trivial
 all_goals first|exact QW h|exact TE h
end
section
variable {α β:Type} {P:aV} {F:Array Func} {X:Nat->Prop}
def tD{ops:Array Oper}(h:rT P bK ops=bL):rT P bL ops=bL:=by
 unfold rT at*;rw[Array.all_eq_true]at*;intro i a;have:=h i a;simp only[xl,Bool.false_or,Bool.true_or,and_true]at*;exact this.1
def V7:∀{c:Code},qn P bK c=bL->qn P bL c=bL
 | .region _ ops _,h=>tD h
 | .seq a b,h=>by
  simp only[qn,xl]at*;exact⟨V7 h.1,V7 h.2⟩
 | .cond _ a b,h=>by
  simp only[qn,xl]at*;exact⟨V7 h.1,V7 h.2⟩
 | .block _ a,h=>V7 (c:=a) h
 | .loop a,h=>V7 (c:=a) h
 | .scope a,h=>V7 (c:=a) h
 | .rangeFunc _ _ a b,h=>h
 | .skip,_| .exit _,_| .label _,_| .goto _,_| .ret,_| .refuse _,_=>rfl
def tB{c:Code}(h:qn P bK c=bL):qn P b c=bL:=by
 cases b with
 |false=>exact h
 |true=>exact V7 h
def Y3(P:Zp)(b:Bool):Item->Prop
 | .code c=>qn P b c=bL
 | .inLoop c=>qn P b c=bL
 | .inScope c=>qn P b c=bL
 | .inRegion ops _=>rT P b ops=bL
 | .call ..=>False
 | .extern ..=>False
 |_=>True
structure Xv(P:Zp)(fr:Zf):Prop where
 items:∀it∈fr.todo,Y3 P fr.roundOf.isNone it
 gI:∀d∈fr.defers,Vn P d.target=bL
 kind:fr.kind≠ .early/\fr.kind≠ .report
 init:P.inits.idxOf? fr.fn=bN
def Mc(P:Zp)(f:FuncId):Prop:=∃fn c,P.funcs[f]?=bO fn/\fn.body=bO c/\qn P bL c=bK
def fK(P:Zp)(fr:Zf):Prop:=Mc P fr.fn\/Xv P fr
def nP(P:Zp)(g:Zg):Prop:=fK P g.frame/\∀c∈g.callers,fK P c
def Xv.todo(h:Xv P fr)(hk:∀it∈k,Y3 P fr.roundOf.isNone it):Xv P {fr with todo:=k}:=⟨hk,h.gI,h.kind,h.init⟩
def Xv.mode(h:Xv P fr)(m:FrameMode):Xv P {fr with mode:=m}:=⟨h.items,h.gI,h.kind,h.init⟩
def Xv.raise(h:Xv P fr)(a:List PanicEntry):Xv P<|fr.raise a:=by
 unfold Frame.raise;split<;>exact h.mode _
def Xv.finish(h:Xv P fr)(v:Zv):Xv P<|fr.finish v:=by
 unfold Frame.finish;have b:=h.items;split
 rename_i ops i rest k e
 rw[e]at b;refine⟨fun c a=>?_,h.gI,h.kind,h.init⟩;simp only[xf]at a;rcases a with rfl|a
 exact b (.inRegion ops (i::rest)) (by simp);exact b c<|by simp[a]
 rename_i l k e
 rw[e]at b;refine⟨fun c a=>?_,h.gI,h.kind,h.init⟩;simp only[xf]at a;rcases a with rfl|a
 trivial;exact b c<|by simp[a]
 rename_i k e
 rw[e]at b;exact⟨fun c a=>b c<|by simp[a],h.gI,h.kind,h.init⟩
 rename_i e
 rw[e]at b;exact False.elim<|b _<|jo ..
 rename_i e
 rw[e]at b;exact False.elim<|b _<|jo ..;exact h
def fK.mode(h:fK P fr)(m:FrameMode):fK P {fr with mode:=m}:=h.imp id fun h=>h.mode m
def fK.raise(h:fK P fr)(a:List PanicEntry):fK P<|fr.raise a:=by
 unfold Frame.raise;split<;>exact h.mode _
def DM(fr:Zf)(v:Zv):(fr.finish v).fn=fr.fn:=by
 unfold Frame.finish;split<;>rfl
def fK.finish(h:fK P fr)(v:Zv):fK P<|fr.finish v:=h.imp (fun h=>by rw[DM];exact h) fun h=>h.finish v
def YH{id:Nat}:∀{k k':List Item},(∀it∈k,Y3 P b it)->exitTo id k=bO k'->∀it∈k',Y3 P b it
 |[],k',h,e=>by cases e
 |x::k,k',h,e=>by
  have hk:∀it∈k,Y3 P b it:=fun it a=>h it (by simp[a]);unfold exitTo at e;split at e
  rename_i id' k1 e1
  cases e1;split at e;cases e;exact hk;exact YH hk e
  rename_i x1 k1 _ e1
  cases e1;exact YH hk e;cases e
def YG:∀{c r:Code},qn P b c=bL->findLabel c l=bO r->qn P b r=bL
 | .seq x y,r,h,e=>by
  simp only[qn,xl]at h;unfold findLabel at e;cases hx:findLabel x l with
  |some r1=>
   rw[hx]at e;cases e;simp only[qn,xl];exact⟨YG h.1 hx,h.2⟩
  |none=>
   rw[hx]at e;exact YG h.2 e
 | .label l',r,h,e=>by
  unfold findLabel at e;split at e<;>cases e
  rfl
 | .skip,r,_,e| .region ..,r,_,e| .cond ..,r,_,e| .block ..,r,_,e| .loop _,r,_,e| .rangeFunc ..,r,_,e| .exit _,r,_,e| .scope _,r,_,e| .goto _,r,_,e| .ret,r,_,e| .refuse _,r,_,e=>by cases e
def YM:∀{k k':List Item},(∀it∈k,Y3 P b it)->gotoIn l k=bO k'->∀it∈k',Y3 P b it
 |[],k',h,e=>by cases e
 |x::k,k',h,e=>by
  have hk:∀it∈k,Y3 P b it:=fun it a=>h it (by simp[a]);unfold gotoIn at e;split at e
  rename_i body k1 e1
  cases e1;have c:qn P b body=bL:=h (.inScope body) (by simp);split at e
  rename_i r hr
  cases e;intro it a;simp only[xf]at a;rcases a with rfl|rfl|a
  exact YG c hr;exact c;exact hk it a;exact YM hk e
  rename_i x1 k1 _ e1
  cases e1;exact YM hk e;cases e
def IA:∀{cs cs':List Zf} {fr:Zf} {v:Zv},(∀c∈cs,fK P c)->aH fr cs=bO (v,cs')->∀c∈cs',fK P c
 |[],cs',fr,v,h,e=>by
  unfold aH at e;split at e<;>simp_all
 |c::cs,cs',fr,v,h,e=>by
  unfold aH at e;split at e
  rename_i caller rest hk e1
  cases e1;split at e;cases e;intro x a;simp only[xf]at a;rcases a with rfl|a
  exact(h c<|by simp).mode _;exact h x (by simp[a]);cases e
  rename_i wrapper rest hk e1
  cases e1;cases ht:aH c cs with
  |none=>rw[ht]at e;cases e
  |some y=>
   rw[ht]at e;cases e;intro x a;simp only[xf]at a;rcases a with rfl|a
   exact h _ (by simp);exact IA (fun z b=>h z<|by simp[b]) ht x a
  cases e
def Wx:∀{cs cs':List Zf} {l:Nat} {v:Zv},(∀c∈cs,fK P c)->tryRecoverLoop l cs=bO (v,cs')->∀c∈cs',fK P c
 |[],cs',l,v,h,e=>by cases e
 |c::cs,cs',l,v,h,e=>by
  have hk:∀x∈cs,fK P x:=fun x a=>h x (by simp[a]);unfold tryRecoverLoop at e;obtain⟨y,b,d⟩:=zt.1 e;cases d;intro x a;simp only[xf]at a;rcases a with rfl|a
  exact h _ (by simp);split at b;exact Wx hk b x a;split at b;exact IA hk b x a;exact Wx hk b x a;exact Wx hk b x a
end
section
variable {α β:Type} {P:aV} {F:Array Func} {X:Nat->Prop}
def vX(P:Zp):Next->Prop
 | .round _ f _ a b=>qn P bK a=bL/\qn P bK b=bL/\P.inits.idxOf? f=bN
 | .defer d=>Vn P d.target=bL
 |_=>True
def Lm{c:Call}{t:Zt}{w w':Zy}(a:(resolve ρ c t).run p w= .ok d w'):w'=w:=by
 unfold resolve at a;cases hc:c.callee with
 |builtin b=>rw[hc]at a;cases a;rfl
 |invoke r n=>rw[hc]at a;cases a;rfl
 |value f=>
  rw[hc]at a;unfold Deferred.ofValue at a;dsimp only at a;split at a<;>cases a<;>rfl
def Ot{w w':Zy}{r:Loop}(h:(Instr.getLoop l).run p w= .ok r w'):w.heap[l]?=bO (.loop r)/\w'=w:=by
 unfold Instr.getLoop at h;obtain⟨o,c,a,b⟩:=jm h;rw[Jv]at a;cases ho:w.heap[l]?with
 |none=>rw[ho]at a;cases a
 |some o'=>
  rw[ho]at a;cases o'<;>cases a<;>cases b
  exact⟨rfl,rfl⟩
def zuo(i:Nx n)(h:(callFunc f args).run p w= .ok n w1)(g:∀fn,p.funcs[f]?=bO fn->fn.body.isNone=bL->Extern.findNext fn=bN):vX P n:=by
 unfold callFunc at h;obtain⟨j,k,d,b⟩:=jm h;cases d;cases hq:p.funcs[f]?with
 |none=>rw[hq]at b;cases b
 |some fn=>
  rw[hq]at b;dsimp only at b;split at b;cases b;trivial;split at b
  rename_i hb
  rw[g fn hq hb]at b;obtain⟨_,l,_,c⟩:=jm b;dsimp only at c;split at c;obtain⟨a,m,_,e⟩:=jm c;cases e;trivial;split at c;cases c;trivial;cases c;cases b;trivial
def ZL(H:Fit P F X){t:Target}(o:Vn P t=bL)(x:Sm P X w w)(h:(invoke t args).run (wf P F) w= .ok n w1):vX P n:=by
 have B:=yE H o h;have i:∀{f:FuncId} {args:Za} {g:Zy},(callFunc f args).run (wf P F) g= .ok n w1->vX P n:=fun h=>zuo B h fun fn e b=>H.next _ fn e b;have j:∀{r:Zv} {name:String} {args:Za} {g:Zy},(callMethod r name args).run (wf P F) g= .ok n w1->vX P n:=fun h=>by
  unfold callMethod at h;split at h;obtain⟨p,g,k,d⟩:=jm h;obtain⟨y,C,q,s⟩:=jm d;exact i s;exact absurd h<|Yr _ _ _ _ _;cases h
 unfold invoke at h;cases t with
 |nil=>exact absurd h<|Yr _ _ _ _ _
 |builtin b ts u c=>
  unfold builtin at h;have z:yF P b ts=bL:=o;cases b<;>simp only[yF,xu]at z<;>first|(obtain⟨a,g,_,d⟩:=jm h;cases d;trivial)|(cases h;trivial)
 |collected r=>cases h
 |coroexit c=>cases o
 |fn f c=>
  cases f with
  |func f=>exact i h
  |method m=>
   dsimp only at h;split at h;exact j h;cases h
  |methodOf t m=>
   dsimp only at h;split at h;obtain⟨p,g,k,d⟩:=jm h;exact j d;cases h
  |via t p f b=>
   dsimp only at h;split at h;obtain⟨p,g,k,d⟩:=jm h;exact i d;cases h
  |yield l=>
   unfold Instr.yield at h;obtain⟨r,g,k,d⟩:=jm h;obtain⟨v,rfl⟩:=Ot k;split at d;obtain⟨_,C,q,s⟩:=jm d;cases q;cases d;have:=(x.oks l).loop r v;exact⟨this.1,this.2.1,this.2.2.2⟩
def sX(H:Fit P F X){o:Oper}(ho:qM P o.op=bL)(j:Sm P X w w)(h:(execOp ρ o).run (wf P F) w= .ok n w1):vX P n:=by
 have m:=zig H ho h;unfold execOp at h;cases hop:o.op<;>rw[hop]at ho h<;>simp only[qM,xu]at ho
 case call c=>
  obtain⟨d,g,e,b⟩:=jm h;obtain rfl:=Lm e;exact ZL H (Y4 ho e) j b
 case defer c=>
  obtain⟨d,g,e,b⟩:=jm h;cases b;exact Y4 ho e
 case move=>cases h;trivial
 case assign=>cases h;trivial
 case nilCheck x=>
  dsimp only at h;split at h;exact absurd h<|Yr _ _ _ _ _;exact absurd h<|Yr _ _ _ _ _;exact absurd h<|Yr _ _ _ _ _;split at h;exact absurd h<|Yr _ _ _ _ _;obtain⟨p,g,e,b⟩:=jm h;obtain⟨y,q,k,f⟩:=jm b;split at f;obtain⟨z,r,i,l⟩:=jm f;cases i;cases f;trivial;cases h;trivial;cases h;trivial
 all_goals (obtain⟨a,g,_,b⟩:=jm h;cases b;trivial)
def pE(P:Zp)(F:Zc):Prop:=∀f,Ys P F f->P.inits.idxOf? f=bN/\(Mc P f\/∀fn c,F[f]?=bO fn->fn.body=bO c->qn P bL c=bL)
def j_(e:pE P F)(g:Ys P F f)(h:¬Mc P f)(a:Za){k:CallKind}(hk:k≠ .early/\k≠ .report):Xv P<|bF (wf P F) f a k:=by
 refine⟨fun i b=>?_,fun d hd=>(by cases hd),hk,(e f g).1⟩;unfold bF at b;simp only[jp]at b;subst b;show qn P bL _=bL;rw[show(wf P F).funcs[f]?=F[f]?from rfl];cases hf:F[f]?with
 |none=>rfl
 |some fn=>
  cases hb:fn.body with
  |none=>simp[hb];rfl
  |some c=>simp[hb];exact(e f g).2.resolve_left h fn c hf hb
def JX(b:pE P F)(d:Ys P F f)(a:Za){k:CallKind}(hk:k≠ .early/\k≠ .report):fK P<|bF (wf P F) f a k:=
 (Classical.em<|Mc P f).imp id fun c=>j_ b d c a hk
def cN{ts:Za}{a b:Code}(h:qn P bK a=bL/\qn P bK b=bL/\P.inits.idxOf? f=bN){k:CallKind}(hk:k≠ .early/\k≠ .report):Xv P<|Frame.round l f ts a b k:=by
 refine⟨fun e c=>?_,fun d hd=>(by cases hd),hk,h.2.2⟩;unfold Frame.round at c;simp only[xf,Vy,or_false]at c;rcases c with rfl|rfl|rfl
 exact h.1;trivial;exact h.2.1
def QY(E:pE P F){w:Zy}(g:Xv P fr)(i:∀c∈cs,fK P c)(C:nR<|s.run (wf P F) w)(D:∀n x,s.run (wf P F) w= .ok n x->Nx n)
  (hk:∀n x,s.run (wf P F) w= .ok n x->vX P n)(q:∀f a x,s.run (wf P F) w= .ok (.enter f a) x->Ys P F f)
{es':Array Event}(h:bH (wf P F) bL fr cs bN s w= .go g' w' es')(hd:g'.dying=bN):nP P g':=by
 have j:(fr.kind==CallKind.early)=bK:=by
  have:=g.kind.1;cases hq:fr.kind<;>simp_all
 have m:∀c∈fr::cs,fK P c:=fun c t=>by
  simp only[xf]at t;rcases t with rfl|t
  exact .inr g;exact i c t
 have z:∀k:CallKind,(k=match fr.todo with| .call _ bL _ _::_=>CallKind.wrapped|_=> .normal)->k≠ .early/\k≠ .report:=fun k e=>by
  subst e;split<;>exact⟨by simp,by simp⟩
 have o:=(IU (P2:=wf P F) g.kind.1 rfl rfl (ET _).symm C D (fun _ _ _ _ _=>rfl) h hd).1;cases hr:s.run (wf P F) w with
 |halt hh x=>
  rw[hr]at o;cases hh with
  |panic y=>
   simp only[bH,zg,if_true,hr,j]at h;cases h;exact⟨.inr<|g.raise _,i⟩
  |_=>exact o.elim
 |ok n x=>
  have B:=D n x hr;have r:=hk n x hr;cases n with
  |value y=>
   simp only[bH,zg,if_true,hr,j]at h;cases h;exact⟨.inr<|g.finish _,i⟩
  |skip=>
   simp only[bH,zg,if_true,hr,j]at h;cases h;exact⟨.inr<|g.finish _,i⟩
  |enter f a=>
   simp only[bH,zg,if_true,hr,j]at h;cases h;exact⟨JX E (q f a _ hr) a<|z _ rfl,m⟩
  |round l f ts a b=>
   simp only[bH,zg,if_true,hr,j]at h;cases h;exact⟨.inr<|cN r ⟨by simp,by simp⟩,m⟩
  |defer d=>
   simp only[bH,zg,if_true,hr,j]at h;cases h;have:Xv P {fr with defers:=d::fr.defers}:=⟨g.items,fun e q=>by
    simp only[xf]at q;rcases q with rfl|q
    exact r;exact g.gI e q,g.kind,g.init⟩
   exact⟨.inr<|this.finish _,i⟩
  |recover=>
   simp only[bH,zg,if_true,hr,j]at h;have fin:∀y:Option<|Zv×List Zf,(∀v p,y=bO (v,p)->∀c∈p,fK P c)->bA (seen (wf P F) fr.fn (if bK=bL then#[]else s.events (wf P F) w #[])) (match y with
     |some (v,callers)=> .go {frame:=fr.finish v,callers,status:= .running,dying:=bN} x
     |none=> .go {frame:=fr.finish .nilIface,callers:=cs,status:= .running,dying:=bN} x)= .go g' w' es'->nP P g':=fun y G h=>by
    cases y with
    |none=>cases h;exact⟨.inr<|g.finish _,i⟩
    |some y=>cases h;exact⟨.inr<|g.finish _,G _ _ rfl⟩
   refine fin _ (fun v p e=>?_) h;split at e;split at e;exact IA i e;exact Wx i e;exact IA i e
  |_=>exact B.elim
end
section
variable {α β γ:Type} {P:aV} {F:Array Func} {X:Nat->Prop}
structure G3(En:Prop)(P:Zp)(X:ZP)(w v:Zy)(st':Zy->GStep)(st:GStep):Prop where
 zN:En->Gu P X v (st' w) st
 loc:DD w st'
 ok:En->∀g' w' es',st' w= .go g' w' es'->g'.dying=bN->nP P g'
section
variable {En:Prop}
def Af.still{w v:Zy}(a:Sm P X w v):Af P X v w v #[]:=⟨a,fun _ _=>rfl,by simp,ze _⟩
def wU{w v:Zy}(g:Sm P X w v){st':Zy->GStep}{st:GStep}{g1:Zg}(b:∀w,st' w= .go g1 w #[])(h:st= .go g1 v #[])(i:g1.dying=bN->nP P g1):G3 En P X w v st' st:=by
 refine⟨fun _ c f a e hd=>?_,fun c f a e hd=>?_,fun _ c f a e hd=>?_⟩;rw[b]at e;cases e;exact⟨v,#[],h,.still g⟩;rw[b]at e;cases e;exact⟨ze _,rfl,fun t d _=>⟨#[],by rw[b];simp⟩⟩;rw[b]at e;cases e;exact i hd
def yS{w v:Zy}{st':Zy->GStep}{st:GStep}(a:∀g' w' es',st' w≠ .go g' w' es'):G3 En P X w v st' st:=
 ⟨fun _ g' w' es' e _=>absurd e<|a _ _ _,fun g' w' es' e _=>absurd e<|a _ _ _,fun _ g' w' es' e _=>absurd e<|a _ _ _⟩
def K_{s:Sem γ}(m:B P F X s){w v:Zy}(k:Sm P X w v){cont' cont:Result γ->GStep}
  (j:∀r g' w' es',cont' r= .go g' w' es'->g'.dying=bN->jK r/\w'=rW r/\es'=#[]/\∀u,cont' (Ww u r)= .go g' u #[]/\cont (Ww u r)= .go g' u #[])
  (g:∀g' w' es',cont' (s.run (wf P F) w)= .go g' w' es'->g'.dying=bN->nP P g'):
  G3 En P X w v (fun w=>bA (seen (wf P F) fn<|s.events (wf P F) w #[])<|cont'<|s.run (wf P F) w) (bA (seen P fn<|s.events P v #[])<|cont<|s.run P v):=by
 have inv:∀{i es':Array Event} {st:GStep} {g':Zg} {w':Zy},bA i st= .go g' w' es'->∃a,st= .go g' w' a:=fun {i es' st g' w'} e=>by
  cases st<;>cases e
  exact⟨_,rfl⟩
 refine⟨fun _ g' w' es' e hd=>?_,fun g' w' es' e hd=>?_,fun _ g' w' es' e hd=>?_⟩;obtain⟨a,b⟩:=inv e;obtain⟨f,rfl,_,c⟩:=j _ _ _ _ b hd;obtain⟨n,h,l⟩:=m.gJ w v #[] k f;obtain⟨o,p⟩:=l.run;refine⟨n,seen P fn h, ?_,l.af.sub fun e x=>mem_seen x⟩;rw[o,p,(c n).2];simp[bA];obtain⟨a,b⟩:=inv e;obtain⟨f,rfl,_,c⟩:=j _ _ _ _ b hd;obtain⟨l1,y,z⟩:=m.loc w k.self f;refine⟨l1,y,fun t d q=>⟨seen (wf P F) fn (s.events (wf P F) (re w t d) #[])++#[], ?_⟩⟩;show bA _ (cont'<|s.run (wf P F)<|re w t d)=_;rw[z t d q,(c _).1];rfl;obtain⟨a,b⟩:=inv e;exact g _ _ _ b hd
def zv4{w x:Zy}{a:Za}(c:s.run p w= .ok (.enter f a) x)(hk:fr.kind≠ .early):
  ∃k es,bH p bL fr cs bN s w= .go {frame:=bF p f a k,callers:=fr::cs,status:= .running,dying:=bN} x es:=by
 have b:(fr.kind==CallKind.early)=bK:=by cases hq:fr.kind<;>simp_all
 exact⟨_,_,by simp only[bH,zg,if_true,c,b];rfl⟩
def qR(P:Zp)(F:Zc)(n:Nat)(s:GStep):Prop:=∀g' w' es',s= .go g' w' es'->g'.callers.length=n+1->g'.frame.roundOf=bN->Ys P F g'.frame.fn
def Tw(p:pE P F){w v:Zy}(g:Sm P X w v)(b:Xv P fr)(i:∀c∈cs,fK P c)(l:BN P F X s)
  (j:∀n x,s.run (wf P F) w= .ok n x->Nx n)(hk:∀n x,s.run (wf P F) w= .ok n x->vX P n)(q:En->qR P F cs.length (bH (wf P F) bL fr cs bN s w)):
  G3 En P X w v (bH (wf P F) bL fr cs bN s) (bH P bL fr cs bN s v):=by
 have m:En->∀f a x,s.run (wf P F) w= .ok (.enter f a) x->Ys P F f:=fun d f a x e=>by
  obtain⟨k,r,h⟩:=zv4 (cs:=cs) e b.kind.1;exact q d _ _ _ h rfl rfl
 exact⟨fun d=>zza l g b.kind.1 j<|m d,Pz l g.self b.kind.1 j,fun d t y o e hd=>QY p b i (l.dZ w g.self) j hk (m d) e hd⟩
def QE{c:Zf}(hk:fr.kind≠ .early/\fr.kind≠ .report)(b:fK P c)(a:∀x∈cs,fK P x)(val:Zv):
  ∃g1,(∀p w,doReturn p bL fr (c::cs) bN val w= .go g1 w #[])/\g1.dying=bN/\nP P g1:=by
 cases hq:fr.kind with
 |normal=>exact⟨_,fun p w=>by simp[doReturn,hq];rfl,rfl,b.finish _,a⟩
 |wrapped=>exact⟨_,fun p w=>by simp[doReturn,hq];rfl,rfl,b.finish _,a⟩
 |early=>exact absurd hq hk.1
 |report=>exact absurd hq hk.2
 |deferred=>
  refine⟨_,fun p w=>by simp only[doReturn,hq];rfl,rfl, ?_,a⟩;dsimp only;split;split;exact b.mode _;exact b.mode _;exact b
def IM(hk:fr.kind≠ .report)(a:p.inits.idxOf? fr.fn=bN)(val:Zv)(w:Zy):doReturn p bL fr [] bN val w= .ended (.done val) w:=by
 have h:∀o:Option Nat,o=bN->(match o with
   |some k=>GStep.go {frame:=bF p (p.initFrom<|k+1) #[] .normal,callers:=[],status:= .running,dying:=bN} w
   |none=>GStep.ended (.done val) w)= .ended (.done val) w:=fun o e=>by rw[e]
 cases hq:fr.kind with
 |report=>exact absurd hq hk
 |_=>simp only[doReturn,hq];exact h _ a
end
end
section
variable {En:Prop} {α β γ:Type} {P:aV} {F:Array Func} {X:Nat->Prop}
def Jw(p:Zp)(fr:Zf)(cs:List Zf)(jump:Option Code)(w:Zy):GStep:=
 match fr.roundOf with
 |none=>if jump matches bN|some .ret then .go {frame:={fr with mode:= .returning},callers:=cs,status:= .running,dying:=bN} w else .ended (.stuck "exit, goto: no such block or label" (fr.pos p)) w
 |some l=>bA (seen p fr.fn<|(Instr.endRound l jump).events p w #[]) (match(Instr.endRound l jump).run p w with
  | .ok v w=>doReturn p bL fr cs bN v w
  | .halt _ w=> .ended (.stuck "range over a function: no such loop" (fr.pos p)) w)
def W3{w v:Zy}(i:Sm P X w v)(f:Xv P fr)(d:∀c∈cs,fK P c)(m:cs=[]->P.inits.idxOf? fr.fn=bN)(b:Option Code)(t:∀c,b=bO c->qn P bK c=bL):
  G3 En P X w v (Jw (wf P F) fr cs b) (Jw P fr cs b v):=by
 unfold Jw;cases hro:fr.roundOf with
 |none=>
  have n:Xv P {fr with mode:= .returning,roundOf:=bN}:=by
   have:=f.mode .returning;rw[hro]at this;exact this
  cases b with
  |none=>exact wU i (fun _=>rfl) rfl fun _=>⟨.inr n,d⟩
  |some c=>
   cases c with
   |ret=>exact wU i (fun _=>rfl) rfl fun _=>⟨.inr n,d⟩
   |_=>exact yS fun _ _ _ e=>by cases e
 |some l=>
  dsimp only;refine K_ (cont':=fun r=>match r with
   | .ok v w=>doReturn (wf P F) bL fr cs bN v w
   | .halt _ w=> .ended (.stuck "range over a function: no such loop" (fr.pos<|wf P F)) w) (cont:=fun r=>match r with
   | .ok v w=>doReturn P bL fr cs bN v w
   | .halt _ w=> .ended (.stuck "range over a function: no such loop" (fr.pos P)) w) (zzi l b t) i (fun r o y h e hd=>?_) fun o y h e hd=>?_
  cases r with
  |halt x w1=>cases e
  |ok a w1=>
   dsimp only at e;cases cs with
   |nil=>rw[IM (p:=wf P F) f.kind.2<|m rfl]at e;cases e
   |cons c cs=>
    obtain⟨q,g,s,k⟩:=QE (cs:=cs) f.kind (d c<|by simp) (fun x j=>d x<|xj _ j) a;rw[g]at e;cases e;exact⟨trivial,rfl,rfl,fun u=>⟨g _ _,g _ _⟩⟩
  cases hr:(Instr.endRound l b).run (wf P F) w with
  |halt x w1=>rw[hr]at e;cases e
  |ok a w1=>
   rw[hr]at e;dsimp only at e;cases cs with
   |nil=>rw[IM (p:=wf P F) f.kind.2<|m rfl]at e;cases e
   |cons c cs=>
    obtain⟨q,g,s,k⟩:=QE (cs:=cs) f.kind (d c<|by simp) (fun x j=>d x<|xj _ j) a;rw[g]at e;cases e;exact k
def Q4{s:Sem γ}(G:B P F X s){w v:Zy}(C:Sm P X w v){K' K:γ->Zy->GStep}{E' E:Zy->GStep}
  (hk:∀a w1 v1,s.run (wf P F) w= .ok a w1->Sm P X w1 v1->G3 En P X w1 v1 (K' a) (K a v1))(J:∀w g' w' es',E' w≠ .go g' w' es'):
  G3 En P X w v (fun w=>bA (seen (wf P F) fn<|s.events (wf P F) w #[]) (match s.run (wf P F) w with| .ok a w=>K' a w| .halt _ w=>E' w))
   (bA (seen P fn<|s.events P v #[]) (match s.run P v with| .ok a w=>K a w| .halt _ w=>E w)):=by
 have inv:∀{h es':Array Event} {st:GStep} {g':Zg} {w':Zy},bA h st= .go g' w' es'->∃c,st= .go g' w' c:=fun {h es' st g' w'} e=>by
  cases st<;>cases e
  exact⟨_,rfl⟩
 cases hr:s.run (wf P F) w with
 |halt x w1=>
  refine yS fun g' w' es' e=>?_;obtain⟨c,b⟩:=inv e;rw[hr]at b;exact J _ _ _ _ b
 |ok a w1=>
  obtain⟨v1,p,g⟩:=G.gJ w v #[] C (by rw[hr];trivial);obtain⟨l1,j,o⟩:=G.loc w C.self (by rw[hr];trivial);rw[hr]at g l1 j o;simp only[rW,Ww]at l1 j o;obtain⟨r,I⟩:=g.run;simp only[Ww]at r;have n:=hk a w1 v1 hr g.sm;refine⟨fun k g' w' es' e hd=>?_,fun g' w' es' e hd=>?_,fun k g' w' es' e hd=>?_⟩;obtain⟨c,b⟩:=inv e;rw[hr]at b;obtain⟨O,h,m,f⟩:=n.zN k _ _ _ b hd;rw[r,I];dsimp only;rw[m];refine⟨O,seen P fn p++h,rfl,f.sm,fun x H=>(f.kept x H).trans<|g.kept x H,fun y L=>?_,xz g.grows f.grows⟩;rcases IE.1 L with z|z
  exact(g.evs y<|mem_seen z).mono f.grows;exact f.evs y z;obtain⟨c,b⟩:=inv e;rw[hr]at b;obtain⟨R,M,N⟩:=n.loc _ _ _ b hd;refine⟨by omega,M.trans j,fun t d D=>?_⟩;have m:=o t d (D.le<|by omega);obtain⟨l,f⟩:=N t (d+(w1.drawn-w.drawn)) (fun i q Q=>by
   have:=D (w1.drawn-w.drawn+i) q (by omega);rw[Ja,this,j,show w.drawn+(w1.drawn-w.drawn+i)=w1.drawn+i by omega])
  refine⟨seen (wf P F) fn (s.events (wf P F) (re w t d) #[])++l, ?_⟩;show bA _ (match s.run (wf P F) (re w t d)with| .ok a w=>K' a w| .halt _ w=>E' w)=_;rw[m];dsimp only;rw[f,show d+(w1.drawn-w.drawn)+(w'.drawn-w1.drawn)=d+(w'.drawn-w.drawn) by omega];rfl;obtain⟨c,b⟩:=inv e;rw[hr]at b;exact n.ok k _ _ _ b hd
def YU{it:Item}(h:∀x∈it::k,Y3 P b x):∀x∈k,Y3 P b x:=fun x a=>h x<|by simp[a]
def Xp{it:Item}(h:Y3 P b it)(hk:∀x∈k,Y3 P b x):∀x∈it::k,Y3 P b x:=fun x a=>by
 simp only[xf]at a;rcases a with rfl|a
 exact h;exact hk x a
end
section
variable {En:Prop} {α β γ:Type} {P:aV} {F:Array Func} {X:Nat->Prop}
def EV(s:GStep):bA #[] s=s:=by cases s<;>simp[bA]
def G3.congr{w v:Zy}{a b:Zy->GStep}{c d:GStep}(h:G3 En P X w v b d)(e:∀w,a w=b w)(f:c=d):G3 En P X w v a c:=by
 rw[show a=b from funext e,f];exact h
def zq7(q:Question)(p:Zp)(w:Zy):(choose q).events p w #[]=#[]:=by
 unfold Sem.events choose;simp only[Sem.runT];split<;>rfl
def Jx(p:Zp)(fn:FuncId):seen p fn #[]=#[]:=by simp[seen]
def zz3{j:Option Code}(g:Sm P X w w)(h:(Instr.endLoop l).run p w= .ok j w1):∀c,j=bO c->qn P bK c=bL:=by
 unfold Instr.endLoop at h;obtain⟨r,m,e,a⟩:=jm h;obtain⟨d,rfl⟩:=Ot e;have i:=(g.oks l).loop r d;split at a;obtain⟨_,k,b,_⟩:=jm a;exact absurd b<|Yr _ _ _ _ _;obtain⟨_,k,b,f⟩:=jm a;cases f;exact i.2.2.1
def Km{ts:Za}{ps:Array Tmp}{a b:Code}{r:Option Nat}{mark:List Deferred}(h:(Instr.enterLoop fn ts ps a b r).run p w= .ok (l,mark) w1):∀d∈mark,Vn P d.target=bL:=by
 unfold Instr.enterLoop at h;cases r with
 |some l0=>
  dsimp only at h;obtain⟨x,k,i,c⟩:=jm h;obtain⟨y,m,e,f⟩:=jm c;obtain⟨z,n,j,g⟩:=jm f;cases e;cases g;intro d hd;cases hd
 |none=>
  dsimp only at h;obtain⟨x,k,i,c⟩:=jm h;obtain⟨y,m,e,f⟩:=jm c;obtain⟨z,n,j,g⟩:=jm f;cases e;cases g;intro d hd;simp only[jp]at hd;subst hd;rfl
def xmn(H:Fit P F X)(hC:pE P F){w v:Zy}(L:Sm P X w v)(g:Xv P fr)(C:∀c∈cs,fK P c)(hB:cs=[]->P.inits.idxOf? fr.fn=bN)
  (hE:En->qR P F cs.length (bI (wf P F) bL bL fr cs bN w)):
  G3 En P X w v (bI (wf P F) bL bL fr cs bN) (bI P bL bL fr cs bN v):=by
 have Y:=g.items;have G:∀{k':List Item},(∀it∈k',Y3 P fr.roundOf.isNone it)->(∀p w,bI p bL bL fr cs bN w= .go {frame:={fr with todo:=k'},callers:=cs,status:= .running,dying:=bN} w #[])->
   G3 En P X w v (bI (wf P F) bL bL fr cs bN) (bI P bL bL fr cs bN v):=fun hk h=>
  wU L (fun w=>h _ w) (h _ v) fun _=>⟨.inr<|g.todo hk,C⟩
 have W:∀q:Option Code,(∀c,q=bO c->qn P bK c=bL)->(∀p w,bI p bL bL fr cs bN w=Jw p fr cs q w)->
   G3 En P X w v (bI (wf P F) bL bL fr cs bN) (bI P bL bL fr cs bN v):=fun q hj h=>
  (W3 (F:=F) L g C hB q hj).congr (fun w=>h _ w) (h _ v)
 have ap:∀{s:Sem Next},BN P F X s->(∀n x,s.run (wf P F) w= .ok n x->Nx n)->(∀n x,s.run (wf P F) w= .ok n x->vX P n)->(∀p w,bI p bL bL fr cs bN w=bH p bL fr cs bN s w)->
   G3 En P X w v (bI (wf P F) bL bL fr cs bN) (bI P bL bL fr cs bN v):=fun hs hn hk h=>
  (Tw hC L g C hs hn hk<|by rw[<-h];exact hE).congr (fun w=>h _ w) (h _ v)
 cases hto:fr.todo with
 |nil=>
  refine W bN (fun c e=>by cases e) fun p w=>?_;simp only[bI,hto,Jw,zg];rfl
 |cons it k=>
  rw[hto]at Y;have hk:=YU Y;have m:=Y it<|jo ..;cases it with
  |call d b r s=>exact m.elim
  |extern r a=>exact m.elim
  |inBlock id=>exact G hk fun p w=>by simp only[bI,hto]
  |inScope c=>exact G hk fun p w=>by simp only[bI,hto]
  |inLoop c=>exact G (Xp (it:= .code c) m<|Xp (it:= .inLoop c) m hk) fun p w=>by simp only[bI,hto]
  |inRangeFunc l=>exact yS fun _ _ _ e=>by simp only[bI,hto]at e;cases e
  |endRangeFunc l=>
   let ct (p:Zp) (r:Result<|Option Code):GStep:=match r with
    | .ok q w=> .go {frame:={fr with todo:=(q.map Item.code).toList++k},callers:=cs,status:= .running,dying:=bN} w
    | .halt (.panic v) w=> .go {frame:=fr.raise [{v,recovered:=bK}],callers:=cs,status:= .running,dying:=bN} w
    | .halt _ w=> .ended (.stuck "range over a function: no such loop" (fr.pos p)) w
   have e:∀p w,bI p bL bL fr cs bN w=bA (seen p fr.fn<|(Instr.endLoop l).events p w #[]) (ct p<|(Instr.endLoop l).run p w):=fun p w=>by
    simp only[bI,hto,zg];cases(Instr.endLoop l).run p w with
    |ok j w1=>rfl
    |halt x w1=>cases x<;>rfl
   refine(K_ (cont':=ct<|wf P F) (cont:=ct P) (fn:=fr.fn) (GP l) L (fun r Q O I h hd=>?_) fun Q O I h hd=>?_).congr (e _)<|e _ v;cases r with
   |ok j w1=>cases h;exact⟨trivial,rfl,rfl,fun u=>⟨rfl,rfl⟩⟩
   |halt x w1=>
    cases x with
    |panic y=>cases h;exact⟨trivial,rfl,rfl,fun u=>⟨rfl,rfl⟩⟩
    |_=>cases h
   cases U:(Instr.endLoop l).run (wf P F) w with
   |ok j w1=>
    rw[U]at h;cases h;refine⟨.inr<|g.todo fun x z=>?_,C⟩;rcases Je.1 z with z|z
    cases j with
    |none=>cases z
    |some c=>
     simp only[js,Option.toList,jp]at z;subst z;exact tB<|zz3 L.self U c rfl
    exact hk x z
   |halt x w1=>
    rw[U]at h;cases x with
    |panic y=>cases h;exact⟨.inr<|g.raise _,C⟩
    |_=>cases h
  |beginRound=>
   have hb:B P F X<|fr.roundOf.elim (stuck "beginRound: no round") Instr.beginRound:=by
    cases fr.roundOf with
    |none=>exact ja _
    |some l=>exact YE l
   refine ap (s:=fr.roundOf.elim (stuck "beginRound: no round") Instr.beginRound>>=fun _=>pure .skip) (Bl.next<|xp hb fun _=>xr _) (fun n x h=>?_) (fun n x h=>?_) fun p w=>by simp only[bI,hto]
   exact TE h;obtain⟨a,w2,_,R⟩:=jm h;cases R;trivial
  |inRegion ops todo=>
   cases todo with
   |nil=>exact G hk fun p w=>by simp only[bI,hto]
   |cons i rest=>
    cases hw:((ops[i]?).map (Region.wanted · (yielded ops fr.tmps))).getD bK with
    |false=>
     refine wU L (g1:={frame:=fr.finish undef,callers:=cs,status:= .running,dying:=bN}) (fun w=>?_) ?_ fun _=>⟨.inr<|g.finish _,C⟩;simp only[bI,hto,hw];rfl;simp only[bI,hto,hw];rfl
    |true=>
     cases ho:ops[i]?with
     |none=>rw[ho]at hw;cases hw
     |some o=>
      have T:=Wk ho;have J:qM P o.op=bL/\(fr.roundOf.isNone|| !AX o.op)=bL:=by
       have N:rT P fr.roundOf.isNone ops=bL:=m;unfold rT at N;rw[qi]at N;have:=N o T;rw[xl]at this;exact this
      have Z:fr.oper?=bO o:=by simp only[Frame.oper?,hto,ho]
      refine ap (EF H fr.eval o J.1) (fun n x h=>zig H J.1 h) (fun n x h=>sX H J.1 L.self h) fun p w=>?_;simp only[bI,hto,hw,if_true,stepG.oper,Z];split
      rename_i l c hro hdf
      exfalso;rw[hro,hdf]at J;exact absurd J.2 (by simp[AX]);rfl
  |code c=>
   cases c with
   |skip=>exact G hk fun p w=>by simp only[bI,hto]
   |label l=>exact G hk fun p w=>by simp only[bI,hto]
   |ret=>
    refine W (bO .ret) (fun c e=>by cases e;rfl) fun p w=>?_;simp only[bI,hto,Jw,zg];rfl
   |seq a b=>
    simp only[Y3,qn,xl]at m;exact G (Xp (it:= .code a) m.1<|Xp (it:= .code b) m.2 hk) fun p w=>by simp only[bI,hto]
   |block id c=>exact G (Xp (it:= .code c) m<|Xp (it:= .inBlock id) trivial hk) fun p w=>by simp only[bI,hto]
   |loop c=>exact G (Xp (it:= .code c) m<|Xp (it:= .inLoop c) m hk) fun p w=>by simp only[bI,hto]
   |scope c=>exact G (Xp (it:= .code c) m<|Xp (it:= .inScope c) m hk) fun p w=>by simp only[bI,hto]
   |refuse s=>exact yS fun _ _ _ e=>by simp only[bI,hto]at e;cases e
   |cond c a b=>
    simp only[Y3,qn,xl]at m;cases hev:fr.eval c with
    |bool t=>
     refine G (k':= .code (if t then a else b)::k) (Xp ?_ hk) fun p w=>by simp only[bI,hto,hev]
     cases t;exact m.2;exact m.1
    |_=>exact yS fun _ _ _ e=>by simp only[bI,hto,hev]at e;cases e
   |exit id=>
    cases z:exitTo id k with
    |some k'=>exact G (YH hk z) fun p w=>by simp only[bI,hto,z];rfl
    |none=>
     refine W (bO<|.exit id) (fun c e=>by cases e;rfl) fun p w=>?_;simp only[bI,hto,z,Jw,zg];rfl
   |goto l=>
    cases z:gotoIn l k with
    |some k'=>exact G (YM hk z) fun p w=>by simp only[bI,hto,z];rfl
    |none=>
     refine W (bO<|.goto l) (fun c e=>by cases e;rfl) fun p w=>?_;simp only[bI,hto,z,Jw,zg];rfl
   |region id ops draw=>
    cases draw with
    |false=>exact G (Xp (it:= .inRegion ops (List.range ops.size)) m hk) fun p w=>by simp only[bI,hto];rfl
    |true=>
     have e:∀p w,bI p bL bL fr cs bN w=bA (seen p fr.fn<|(choose<|.order fr.fn id).events p w #[]) (match(choose<|.order fr.fn id).run p w with
       | .ok t w=> .go {frame:={fr with todo:= .inRegion ops (Region.schedule (p.follows .mixedOrders) ops t)::k},callers:=cs,status:= .running,dying:=bN} w
       | .halt _ w=> .ended (.stuck "order" (fr.pos p)) w):=fun p w=>by
      rw[zq7,Jx,EV];simp only[bI,hto];rfl
     refine(Q4 (fn:=fr.fn) (Yy<|.order fr.fn id) L (K':=fun t w=> .go {frame:={fr with todo:= .inRegion ops (Region.schedule ((wf P F).follows .mixedOrders) ops t)::k},callers:=cs,status:= .running,dying:=bN} w) (E':=fun w=> .ended (.stuck "order" (fr.pos<|wf P F)) w) (K:=fun t w=> .go {frame:={fr with todo:= .inRegion ops (Region.schedule (P.follows .mixedOrders) ops t)::k},callers:=cs,status:= .running,dying:=bN} w) (E:=fun w=> .ended (.stuck "order" (fr.pos P)) w)
      (fun t w1 v1 _ M=>?_) (fun w Q O I h=>by cases h)).congr (e _)<|e _ v
     exact wU M (fun _=>rfl) rfl fun _=>⟨.inr<|g.todo<|Xp (it:= .inRegion ops _) m hk,C⟩
   |rangeFunc f ps a b=>
    simp only[Y3,qn,xl]at m;let fr' (x:Nat×List Deferred):Zf:={fr with todo:= .inRangeFunc x.1::k,defers:=x.2++fr.defers};let cl (x:Nat×List Deferred):Call:={callee:= .value f,args:=#[.const<|.func (.yield x.1) #[] #[]],argTypes:=#[]};let sm (x:Nat×List Deferred):Sem Next:=resolve (fr' x).eval (cl x) 0>>=fun d=>invoke d.target d.args;have e:∀p w,bI p bL bL fr cs bN w=bA (seen p fr.fn<|(Instr.enterLoop fr.fn fr.tmps ps a b fr.roundOf).events p w #[]) (match(Instr.enterLoop fr.fn fr.tmps ps a b fr.roundOf).run p w with
      | .ok x w=>bH p bL (fr' x) cs bN (sm x) w
      | .halt _ w=> .ended (.stuck "range over a function: no such loop" (fr.pos p)) w):=fun p w=>by
     simp only[bI,hto,zg];cases(Instr.enterLoop fr.fn fr.tmps ps a b fr.roundOf).run p w with
     |ok x w1=>rfl
     |halt x w1=>rfl
    refine(Q4 (F:=F) (fn:=fr.fn) (YJ fr.fn fr.tmps ps a b fr.roundOf m.1 m.2 g.init) L (K':=fun x w=>bH (wf P F) bL (fr' x) cs bN (sm x) w) (E':=fun w=> .ended (.stuck "range over a function: no such loop" (fr.pos<|wf P F)) w) (K:=fun x w=>bH P bL (fr' x) cs bN (sm x) w) (E:=fun w=> .ended (.stuck "range over a function: no such loop" (fr.pos P)) w)
     (fun x w1 v1 z M=>?_) (fun w Q O I h=>by cases h)).congr (fun w=>(e (wf P F) w).trans<|by cases(Instr.enterLoop fr.fn fr.tmps ps a b fr.roundOf).run (wf P F) w<;>rfl)<|(e P v).trans<|by cases(Instr.enterLoop fr.fn fr.tmps ps a b fr.roundOf).run P v<;>rfl
    have hm:=Km (P:=P) (l:=x.1) (mark:=x.2) z;have S:Xv P<|fr' x:=⟨Xp (it:= .inRangeFunc x.1) trivial hk,fun d hd=>by
     rcases Je.1 hd with hd|hd;exact hm d hd;exact g.gI d hd,g.kind,g.init⟩
    have D:ES P (cl x)=bL:=rfl;refine Tw hC M S C (RB (JB _ _ _) (fun w d O U=>Y4 D U) fun d hd=>AU H _ _ hd) (fun n y h=>?_) (fun n y h=>?_) fun en Q O I h=>?_;obtain⟨d,w2,V,R⟩:=jm h;exact yE H (Y4 D V) R;obtain⟨d,w2,V,R⟩:=jm h;obtain rfl:=Lm V;exact ZL H (Y4 D V) M.self R;refine hE en Q O (seen (wf P F) fr.fn ((Instr.enterLoop fr.fn fr.tmps ps a b fr.roundOf).events (wf P F) w #[])++I) ?_;rw[e,z];dsimp only;rw[h];rfl
end
section
variable {En:Prop} {α β γ:Type} {P:aV} {F:Array Func} {X:Nat->Prop}
def o_{c:Prop}[Decidable c]{a b x:α}(h:(if c then a else b)=x):(c/\a=x)\/(¬c/\b=x):=by
 by_cases d:c;rw[aA d]at h;exact .inl ⟨d,h⟩;rw[aB d]at h;exact .inr ⟨d,h⟩
def KU{P1 P2:Zp}{w1 w2 v2:Zy}{r:Result Next}
  (g:(invoke d.target d.args).run P1 w1=r)(e:(invoke d.target d.args).run P2 w2=Ww v2 r)(j:nR r)(q:∀n x,r= .ok n x->Nx n)(o:∀f a x k,r= .ok (.enter f a) x->bF P1 f a k=bF P2 f a k)
{es':Array Event}(h:callDeferred P1 fr cs bN d w1= .go g' w' es')(hd:g'.dying=bN):
  jK r/\w'=rW r/\callDeferred P2 fr cs bN d w2= .go g' v2 (seen P2 fr.fn<|(invoke d.target d.args).events P2 w2 #[]):=by
 unfold callDeferred at h⊢;rcases o_ h with⟨i,h⟩|⟨i,h⟩
 cases h;rw[aB i];cases r with
 |halt hh x=>
  cases hh with
  |panic y=>
   simp only[zg,g]at h;cases h;exact⟨trivial,rfl,by simp[zg,e,Ww,bA]⟩
  |blocked=>exact j.elim
  |waiting=>exact j.elim
  |goexit=>exact j.elim
  |fatal m=>
   exfalso;simp only[zg,g]at h;exact PU h hd
  |throw m=>
   exfalso;simp only[zg,g]at h;exact PV h hd
  |exit c=>simp only[zg,g]at h;cases h
  |stuck m=>simp only[zg,g]at h;cases h
  |unsupported u=>simp only[zg,g]at h;cases h
 |ok n x=>
  have p:=q n x rfl;cases n with
  |value y=>
   simp only[zg,g]at h;cases h;exact⟨trivial,rfl,by simp[zg,e,Ww,bA]⟩
  |skip=>
   simp only[zg,g]at h;cases h;exact⟨trivial,rfl,by simp[zg,e,Ww,bA]⟩
  |defer y=>
   simp only[zg,g]at h;cases h;exact⟨trivial,rfl,by simp[zg,e,Ww,bA]⟩
  |enter f a=>
   simp only[zg,g]at h;cases h;refine⟨trivial,rfl, ?_⟩;rw[o f a _ _ rfl];simp[zg,e,Ww,bA]
  |round l f ts a b=>
   simp only[zg,g]at h;cases h;exact⟨trivial,rfl,by simp[zg,e,Ww,bA]⟩
  |recover=>
   simp only[zg,g]at h;cases hm:fr.mode with
   |returning=>
    cases ht:aH fr cs<;>
    ·simp only[hm,ht]at h
     cases h;exact⟨trivial,rfl,by simp[zg,e,Ww,bA]⟩
   |run=>
    simp only[hm]at h;cases h;exact⟨trivial,rfl,by simp[zg,e,Ww,bA]⟩
   |panicking c=>
    simp only[hm]at h;cases h;exact⟨trivial,rfl,by simp[zg,e,Ww,bA]⟩
  |_=>exact p.elim
def xtp(s:pE P F){w:Zy}(g:Xv P fr)(e:∀c∈cs,fK P c)(q:nR<|(invoke d.target d.args).run (wf P F) w)(r:∀n x,(invoke d.target d.args).run (wf P F) w= .ok n x->Nx n)
  (hk:∀n x,(invoke d.target d.args).run (wf P F) w= .ok n x->vX P n)(t:∀f a x,(invoke d.target d.args).run (wf P F) w= .ok (.enter f a) x->Ys P F f)
{es':Array Event}(h:callDeferred (wf P F) fr cs bN d w= .go g' w' es')(hd:g'.dying=bN):nP P g':=by
 have i:∀c∈fr::cs,fK P c:=fun c m=>by
  simp only[xf]at m;rcases m with rfl|m
  exact .inr g;exact e c m
 have j:=(KU (P2:=wf P F) rfl (ET _).symm q r (fun _ _ _ _ _=>rfl) h hd).1;unfold callDeferred at h;rcases o_ h with⟨k,h⟩|⟨k,h⟩
 cases h;cases hr:(invoke d.target d.args).run (wf P F) w with
 |halt hh x=>
  rw[hr]at j;cases hh with
  |panic y=>
   simp only[zg,hr]at h;cases h;exact⟨.inr<|g.raise _,e⟩
  |_=>exact j.elim
 |ok n x=>
  have p:=r n x hr;have o:=hk n x hr;cases n with
  |value y=>simp only[zg,hr]at h;cases h;exact⟨.inr g,e⟩
  |skip=>simp only[zg,hr]at h;cases h;exact⟨.inr g,e⟩
  |defer y=>simp only[zg,hr]at h;cases h;exact⟨.inr g,e⟩
  |enter f a=>
   simp only[zg,hr]at h;cases h;exact⟨JX s (t f a _ hr) a ⟨by simp,by simp⟩,i⟩
  |round l f ts a b=>
   simp only[zg,hr]at h;cases h;exact⟨.inr<|cN o ⟨by simp,by simp⟩,i⟩
  |recover=>
   simp only[zg,hr]at h;cases hm:fr.mode with
   |returning=>
    cases ht:aH fr cs with
    |none=>
     simp only[hm,ht]at h;cases h;exact⟨.inr g,e⟩
    |some y=>
     simp only[hm,ht]at h;cases h;exact⟨.inr g,IA e ht⟩
   |run=>simp only[hm]at h;cases h;exact⟨.inr g,e⟩
   |panicking c=>simp only[hm]at h;cases h;exact⟨.inr g,e⟩
  |_=>exact p.elim
def xtn(H:Fit P F X)(O:pE P F){w v:Zy}(y:Sm P X w v)(D:Xv P fr)(C:∀c∈cs,fK P c)(j:Vn P d.target=bL)
  (Q:En->qR P F cs.length (callDeferred (wf P F) fr cs bN d w)):G3 En P X w v (callDeferred (wf P F) fr cs bN d)<|callDeferred P fr cs bN d v:=by
 have E:=AU H d.target d.args j;have r:∀n x,(invoke d.target d.args).run (wf P F) w= .ok n x->Nx n:=fun n x h=>yE H j h;have g:=E.dZ w y.self;by_cases q:∃m s b,callDeferred (wf P F) fr cs bN d w= .go m s b;rotate_left;exact yS fun m s b e=>q ⟨_,_,_,e⟩;obtain⟨W,Y,L,o⟩:=q;unfold callDeferred at o;rcases o_ o with⟨i,o⟩|⟨i,o⟩
 cases o;have p:En->∀f a x,(invoke d.target d.args).run (wf P F) w= .ok (.enter f a) x->Ys P F f:=fun l f a x e=>by
  have:∃G,callDeferred (wf P F) fr cs bN d w= .go {frame:=bF (wf P F) f a .deferred,callers:=fr::cs,status:= .running,dying:=bN} x G:=by
   unfold callDeferred;rw[aB i];simp only[zg,e];exact⟨_,rfl⟩
  obtain⟨G,h⟩:=this;exact Q l _ _ _ h rfl rfl
 refine⟨fun l m s b h hd=>?_,fun m s b h hd=>?_,fun l m s b h hd=>xtp O D C g r (fun n x e=>ZL H j y.self e) (p l) h hd⟩;have B:=(KU (P2:=wf P F) rfl (ET _).symm g r (fun _ _ _ _ _=>rfl) h hd).1;obtain⟨V,U,I⟩:=E.gJ w v #[] y B fun f a w1 e=>(p l f a w1 e).2;obtain⟨M,N⟩:=I.run;obtain⟨_,z,K⟩:=KU (P1:=wf P F) (P2:=P) (w1:=w) rfl M g r (fun f a x k e=>zdt (p l f a x e).1 a k) h hd;refine⟨V,_,K, ?_⟩;rw[z,N];exact I.af.sub fun e p=>mem_seen p;obtain⟨B,z,_⟩:=KU (P2:=wf P F) rfl (ET _).symm g r (fun _ _ _ _ _=>rfl) h hd;obtain⟨l1,S,T⟩:=E.loc w y.self B;rw[z];exact⟨l1,S,fun t J R=>⟨_,(KU (P2:=wf P F) rfl (T t J R) g r (fun _ _ _ _ _=>rfl) h hd).2.2⟩⟩
def znj{b:Nat}{ds:List Deferred}(g:Sm P X w w)(h:(Instr.takeDeferred b).run p w= .ok ds w1):∀d∈ds,Vn P d.target=bL:=by
 unfold Instr.takeDeferred at h;obtain⟨o,j,a,e⟩:=jm h;rw[Jv]at a;cases ho:w.heap[b]?with
 |none=>rw[ho]at a;cases a
 |some o'=>
  rw[ho]at a;have hk:=(g.oks b).calls;rw[ho]at hk;cases o'<;>cases a<;>first|(cases e;done)|skip
  rename_i c
  cases c with
  |none=>cases e
  |some ds'=>
   obtain⟨_,k,i,f⟩:=jm e;cases f;exact hk _ rfl
def QM(fn:Func)(b:Za):B P F X<|aN fn b:=by
 unfold aN;refine xp (Tk _ (fun r=>?_) _) fun c=>xr _;cases r with
 |tmp t=>exact xr _
 |cell a t=>exact xp (iZ.1 _) fun _=>iB.2.2.2.1 _ _
def Re(H:Fit P F X)(Y:pE P F){w v:Zy}(D:Sm P X w v)(i:Xv P fr)(l:∀c∈cs,fK P c)(Q:cs=[]->P.inits.idxOf? fr.fn=bN)
  (Z:En->qR P F cs.length (aI (wf P F) bL fr cs bN w)):
  G3 En P X w v (aI (wf P F) bL fr cs bN) (aI P bL fr cs bN v):=by
 cases hdf:fr.defers with
 |cons d ds=>
  have J:Xv P {fr with defers:=ds}:=⟨i.items,fun x q=>i.gI x<|by rw[hdf];exact xj _ q,i.kind,i.init⟩;have hd:=i.gI d (by rw[hdf];exact jo ..);have nc:(∀b,d.target≠ .collected b)->G3 En P X w v (aI (wf P F) bL fr cs bN) (aI P bL fr cs bN v):=fun N=>by
   have e:∀p w,aI p bL fr cs bN w=callDeferred p {fr with defers:=ds} cs bN d w:=fun p w=>by
    unfold aI;rw[hdf];obtain⟨R,S⟩:=d;cases R with
    |collected b=>exact absurd rfl<|N b
    |_=>rfl
   exact(xtn H Y D J l hd<|by rw[<-e];exact Z).congr (fun w=>e _ w)<|e _ v
  cases htg:d.target with
  |collected b=>
   have e:∀p w,aI p bL fr cs bN w=bA (seen p fr.fn<|(Instr.takeDeferred b).events p w #[]) (match(Instr.takeDeferred b).run p w with
     | .ok f w=> .go {frame:={fr with defers:=f++ds},callers:=cs,status:= .running,dying:=bN} w
     | .halt _ w=> .ended (.stuck "the deferred calls of a range-over-func loop have been taken" (fr.pos p)) w):=fun p w=>by
    unfold aI;rw[hdf];obtain⟨R,S⟩:=d;cases htg;simp only[zg];cases(Instr.takeDeferred b).run p w<;>rfl
   refine(Q4 (F:=F) (fn:=fr.fn) (dP.2.2.2.2.2.2.2.2.2.2.2.2.2.2.2.2.2.2.2.2.2.2.2.2.2.2.2.1 b) D (K':=fun f w=> .go {frame:={fr with defers:=f++ds},callers:=cs,status:= .running,dying:=bN} w) (E':=fun w=> .ended (.stuck "the deferred calls of a range-over-func loop have been taken" (fr.pos<|wf P F)) w)
    (K:=fun f w=> .go {frame:={fr with defers:=f++ds},callers:=cs,status:= .running,dying:=bN} w) (E:=fun w=> .ended (.stuck "the deferred calls of a range-over-func loop have been taken" (fr.pos P)) w)
    (fun f w1 v1 C M=>?_) (fun w m o g h=>by cases h)).congr (fun w=>(e (wf P F) w).trans<|by cases(Instr.takeDeferred b).run (wf P F) w<;>rfl)<|(e P v).trans<|by cases(Instr.takeDeferred b).run P v<;>rfl
   refine wU M (fun _=>rfl) rfl fun _=>⟨.inr ⟨i.items,fun x q=>?_,i.kind,i.init⟩,l⟩;rcases Je.1 q with q|q
   exact znj D.self C x q;exact J.gI x q
  |_=>exact nc fun b e=>by rw[htg]at e;cases e
 |nil=>
  cases hm:fr.mode with
  |run=>exact yS fun m o g e=>by simp only[aI,hdf,hm]at e;cases e
  |panicking chain=>
   have z:∀p:Zp,fr.catches p=bK:=fun p=>by
    unfold Frame.catches;cases htd:fr.todo with
    |nil=>cases p.funcs[fr.fn]?<;>rfl
    |cons it k=>
     have V:=i.items it (by rw[htd];exact jo ..);cases it with
     |call d b r s=>exact V.elim
     |_=>cases p.funcs[fr.fn]?<;>rfl
   cases cs with
   |cons c cs=>
    refine wU D (g1:={frame:=c.raise chain,callers:=cs,status:= .running,dying:=bN}) (fun w=>?_) ?_ fun _=>⟨(l c<|jo ..).raise _,fun x q=>l x<|xj _ q⟩;simp only[aI,hdf,hm,z];rfl;simp only[aI,hdf,hm,z];rfl
   |nil=>
    cases hgx:chain.head?.any (·.goexit)with
    |true=>
     refine wU D (g1:={frame:=fr,callers:=[],status:= .finished,dying:=bN}) (fun w=>?_) ?_ fun _=>⟨.inr i,l⟩;simp only[aI,hdf,hm,z,hgx];rfl;simp only[aI,hdf,hm,z,hgx];rfl
    |false=>
     refine⟨fun _ m o g e hd=>?_,fun m o g e hd=>?_,fun _ m o g e hd=>?_⟩
     all_goals
      exfalso;simp only[aI,hdf,hm,z,hgx]at e;cases hr:(reportChain chain bK).run (wf P F) w with
      |ok y x=>rw[hr]at e;cases e;cases hd
      |halt y x=>
       rw[hr]at e;cases y<;>cases e
  |returning=>
   have j:=H.res fr.fn;cases hf:P.funcs[fr.fn]?with
   |none=>
    have B:(wf P F).funcs[fr.fn]?=bN:=by
     rw[hf]at j;cases C:F[fr.fn]?with
     |none=>exact C
     |some y=>rw[C]at j;cases j
    cases cs with
    |nil=>
     refine yS fun m o g e=>?_;simp only[aI,hdf,hm,B]at e;rw[IM (p:=wf P F) i.kind.2<|Q rfl]at e;cases e
    |cons c cs=>
     obtain⟨g1,I,W,L⟩:=QE (cs:=cs) i.kind (l c<|jo ..) (fun x q=>l x<|xj _ q)<|fr.tmps.getD 0 undef;refine wU D (g1:=g1) (fun w=>?_) ?_ fun _=>L;simp only[aI,hdf,hm,B];exact I _ _;simp only[aI,hdf,hm,hf];exact I _ _
   |some fn=>
    obtain⟨t,B,O⟩:∃t,(wf P F).funcs[fr.fn]?=bO t/\t.results=fn.results:=by
     rw[hf]at j;cases C:F[fr.fn]?with
     |none=>rw[C]at j;cases j
     |some y=>
      rw[C]at j;exact⟨y,C,by simpa using j⟩
    have G:aN t fr.tmps=aN fn fr.tmps:=by unfold aN;rw[O]
    let ct (p:Zp) (r:Result Zv):GStep:=match r with
     | .ok v w=>doReturn p bL fr cs bN v w
     | .halt (.stuck s) w=> .ended (.stuck s<|fr.pos p) w
     | .halt _ w=> .ended (.stuck "return: the result variables cannot be read" (fr.pos p)) w
    have T:∀w,aI (wf P F) bL fr cs bN w=bA (seen (wf P F) fr.fn<|(aN fn fr.tmps).events (wf P F) w #[]) (ct (wf P F)<|(aN fn fr.tmps).run (wf P F) w):=fun w=>by
     rw[<-G];simp only[aI,hdf,hm,B,zg];cases(aN t fr.tmps).run (wf P F) w with
     |ok a x=>rfl
     |halt y x=>cases y<;>rfl
    have U:aI P bL fr cs bN v=bA (seen P fr.fn<|(aN fn fr.tmps).events P v #[]) (ct P<|(aN fn fr.tmps).run P v):=by
     simp only[aI,hdf,hm,hf,zg];cases(aN fn fr.tmps).run P v with
     |ok a x=>rfl
     |halt y x=>cases y<;>rfl
    have n:∀r m o g,ct (wf P F) r= .go m o g->jK r/\o=rW r/\g=#[]/\(∀u,ct (wf P F) (Ww u r)= .go m u #[]/\ct P (Ww u r)= .go m u #[])/\nP P m:=fun r m o g h=>by
     cases r with
     |halt y x=>cases y<;>cases h
     |ok a x=>
      cases cs with
      |nil=>
       change doReturn (wf P F) bL fr [] bN a x=_ at h;rw[IM (p:=wf P F) i.kind.2<|Q rfl]at h;cases h
      |cons c cs=>
       obtain⟨g1,I,W,L⟩:=QE (cs:=cs) i.kind (l c<|jo ..) (fun x q=>l x<|xj _ q) a;change doReturn (wf P F) bL fr (c::cs) bN a x=_ at h;rw[I]at h;cases h;exact⟨trivial,rfl,rfl,fun u=>⟨I _ _,I _ _⟩,L⟩
    exact(K_ (cont':=ct<|wf P F) (cont:=ct P) (fn:=fr.fn) (QM fn fr.tmps) D (fun r m o g h hd=>⟨(n r m o g h).1,(n r m o g h).2.1,(n r m o g h).2.2.1,(n r m o g h).2.2.2.1⟩) fun m o g h hd=>(n _ m o g h).2.2.2.2).congr T U
def LC(H:Fit P F X)(h:pE P F){w v:Zy}(j:Sm P X w v){g:Zg}(k:nP P g)(a:Xv P g.frame)(hd:g.dying=bN)
  (i:En->qR P F g.callers.length (aZ (wf P F) bL g w)):G3 En P X w v (aZ (wf P F) bL g)<|aZ P bL g v:=by
 obtain⟨b,f,st,l,d⟩:=g;cases hd;cases hm:b.mode with
 |run=>
  have e:∀p w,aZ p bL {frame:=b,callers:=f,status:=st,dying:=bN,offers:=d} w=bI p bL bL b f bN w:=fun p w=>by simp[aZ,hm]
  exact(xmn H h j a k.2 (fun _=>a.init)<|by rw[<-e];exact i).congr (fun w=>e _ w)<|e _ v
 |returning=>
  have e:∀p w,aZ p bL {frame:=b,callers:=f,status:=st,dying:=bN,offers:=d} w=aI p bL b f bN w:=fun p w=>by
   unfold aZ;simp[hm]
  exact(Re H h j a k.2 (fun _=>a.init)<|by rw[<-e];exact i).congr (fun w=>e _ w)<|e _ v
 |panicking c=>
  have e:∀p w,aZ p bL {frame:=b,callers:=f,status:=st,dying:=bN,offers:=d} w=aI p bL b f bN w:=fun p w=>by
   unfold aZ;simp[hm]
  exact(Re H h j a k.2 (fun _=>a.init)<|by rw[<-e];exact i).congr (fun w=>e _ w)<|e _ v
end
section
variable {Q:aV} {Stop I:Goroutine->World->Prop}
def jC(Q:Zp)(g:Zg)(w:Zy)(g':Zg)(w':Zy):Prop:=∃es,aZ Q bL g w= .go g' w' es/\g'.dying=bN/\g'.status= .running
def jC.same{g g1 g2:Zg}{w w1 w2:Zy}(h:jC Q g w g1 w1)(k:jC Q g w g2 w2):g1=g2/\w1=w2:=by
 obtain⟨d,c,_⟩:=h;obtain⟨b,a,_⟩:=k;rw[c]at a;cases a;exact⟨rfl,rfl⟩
def vG(Q:Zp)(Stop:Zg->Zy->Prop):Nat->Zg->Zy->Prop
 |0,g,w=>Stop g w
 |n+1,g,w=>Stop g w\/∃g' w',jC Q g w g' w'/\vG Q Stop n g' w'
structure uW(Q:Zp)(Stop I:Zg->Zy->Prop):Prop where
 dN:∀g w t d,Stop g (re w t d)↔Stop g w
 mU:∀g w t d,I g (re w t d)↔I g w
 loc:∀g w,I g w->¬Stop g w->DD w (aZ Q bL g)
 keep:∀g w g' w',I g w->¬Stop g w->jC Q g w g' w'->I g' w'
inductive Cm(Q:Zp)(Stop:Zg->Zy->Prop):Zg->Zy->Prop
 |stop {g:Zg} {w:Zy} (h:Stop g w):Cm Q Stop g w
 |step {g:Zg} {w:Zy} (goes:∀t d,∃g' w',jC Q g (re w t d) g' w') (h:∀t d g' w',jC Q g (re w t d) g' w'->Cm Q Stop g' w'):Cm Q Stop g w
def uW.move(B:uW Q Stop I){g g':Zg}{w w':Zy}{d:Nat}(j:I g w)(l:¬Stop g w)(h:jC Q g (re w t d) g' w'):
  d<=w'.drawn/\w'.tape=t/\∀t' d',(∀i q,i<w'.drawn-d->t' (d'+i) q=t (d+i) q)->jC Q g (re w t' d') g' (re w' t'<|d'+(w'.drawn-d)):=by
 obtain⟨o,c,b,e⟩:=h;obtain⟨l1,m,n⟩:=B.loc g (re w t d) ((B.mU ..).2 j) (fun x=>l<|(B.dN ..).1 x) _ _ _ c b;refine⟨l1,m,fun t' d' k=>?_⟩;obtain⟨a,f⟩:=n t' d' k;exact⟨a,f,b,e⟩
def uW.shift(B:uW Q Stop I):∀(n:Nat) (g:Zg) (w:Zy) (t t':Nat->Question->Nat) (d d':Nat),I g w->(∀i q,t (d+i) q=t' (d'+i) q)->vG Q Stop n g (re w t d)->vG Q Stop n g (re w t' d')
 |0,g,w,t,t',d,d',hI,ha,h=>(B.dN ..).2<|(B.dN ..).1 h
 |n+1,g,w,t,t',d,d',hI,ha,h=>by
  by_cases b:Stop g w;exact .inl<|(B.dN ..).2 b;rcases h with h|⟨c,a,f,j⟩
  exact absurd ((B.dN ..).1 h) b;obtain⟨l1,k,l⟩:=B.move hI b f;have hk:=B.keep g _ c a ((B.mU g w t d).2 hI) (fun x=>b<|(B.dN ..).1 x) f;refine .inr ⟨c,_,l t' d' fun i q m=>(ha i q).symm, ?_⟩;have e:re a t a.drawn=a:=by rw[<-k];rfl
  rw[<-e]at j;refine B.shift n c a t t' a.drawn (d'+(a.drawn-d)) hk (fun i q=>?_) j;have:=ha (a.drawn-d+i) q;rw[show d+(a.drawn-d+i)=a.drawn+i by omega,<-Ja]at this;exact this
def uW.next(B:uW Q Stop I){g g':Zg}{w w':Zy}{d:Nat}(c:I g w)(b:¬Stop g w)(l:∀t d,∃n,vG Q Stop n g<|re w t d)(h:jC Q g (re w t d) g' w'):
  ∀t2 d2,∃n,vG Q Stop n g'<|re w' t2 d2:=by
 intro t2 d2;obtain⟨l1,p,o⟩:=B.move c b h;have hk:=B.keep g _ g' w' ((B.mU g w t d).2 c) (fun x=>b<|(B.dN ..).1 x) h;obtain⟨n,a⟩:=l (fun i q=>if i<w'.drawn-d then t (d+i) q else t2 (d2+(i-(w'.drawn-d))) q) 0;cases n with
 |zero=>exact absurd ((B.dN ..).1 a) b
 |succ n=>
  rcases a with a|⟨e,w1,f,j⟩;exact absurd ((B.dN ..).1 a) b;have k:=o (fun i q=>if i<w'.drawn-d then t (d+i) q else t2 (d2+(i-(w'.drawn-d))) q) 0 (fun i q m=>by simp[m]);obtain⟨rfl,rfl⟩:=f.same k;refine⟨n,B.shift n e w' _ t2 (0+(w'.drawn-d)) d2 hk (fun i q=>?_) j⟩;simp only[jy];rw[aB<|by omega,show w'.drawn-d+i-(w'.drawn-d)=i by omega]
structure zI(Q:Zp)(Stop I:Zg->Zy->Prop) where
 g:Zg
 w:Zy
 inv:I g w
 good:∀t d,∃n,vG Q Stop n g<|re w t d
 lost:¬Cm Q Stop g w
def zI.more(B:uW Q Stop I)(s:zI Q Stop I):¬Stop s.g s.w/\∃(t:Nat->Question->Nat) (d:Nat) (s':zI Q Stop I),jC Q s.g (re s.w t d) s'.g s'.w:=by
 have b:¬Stop s.g s.w:=fun h=>s.lost<|.stop h;refine⟨b, ?_⟩;apply jr;intro f;refine s.lost<|.step (fun t d=>?_) fun t d e w1 a=>?_;obtain⟨n,c⟩:=s.good t d;cases n with
 |zero=>exact absurd ((B.dN ..).1 c) b
 |succ n=>
  rcases c with c|⟨e,w1,a,j⟩;exact absurd ((B.dN ..).1 c) b;exact⟨e,w1,a⟩
 apply jr;intro i;exact f ⟨t,d,⟨e,w1,B.keep _ _ _ _ ((B.mU s.g s.w t d).2 s.inv) (fun x=>b<|(B.dN ..).1 x) a,B.next s.inv b s.good a,i⟩,a⟩
def uW.bar(B:uW Q Stop I){g:Zg}{w:Zy}(z:I g w)(r:∀t d,∃n,vG Q Stop n g<|re w t d):Cm Q Stop g w:=by
 apply jr;intro F;have ch:∀s:zI Q Stop I,∃x:(Nat->Question->Nat)×Nat×zI Q Stop I,jC Q s.g (re s.w x.1 x.2.1) x.2.2.g x.2.2.w:=fun s=>by
  obtain⟨_,t,d,J,h⟩:=s.more B;exact⟨(t,d,J),h⟩
 let nx:zI Q Stop I->(Nat->Question->Nat)×Nat×zI Q Stop I:=fun s=>Classical.choose<|ch s;have l:∀s,jC Q s.g (re s.w (nx s).1 (nx s).2.1) (nx s).2.2.g (nx s).2.2.w:=fun s=>XZ<|ch s;let st:Nat->zI Q Stop I:=fun i=>Nat.rec ⟨g,w,z,r,F⟩ (fun _ s=>(nx s).2.2) i;have H:∀i,st (i+1)=(nx<|st i).2.2:=fun i=>rfl;let K:Nat->Nat:=fun i=>(st<|i+1).w.drawn-(nx<|st i).2.1;let D:Nat->Nat:=fun i=>Nat.rec 0 (fun j x=>x+K j) i;have k:∀i,D (i+1)=D i+K i:=fun i=>rfl;have a:∀i j,i<=j->D i<=D j:=fun i j h=>by
  induction j with
  |zero=>
       have:i=0:=by omega
       subst this;exact ze _
  |succ j ih=>
   rcases Vi i (j+1)with f|f;exact xz (ih<|by omega) (by rw[k];omega);have:i=j+1:=by omega
   subst this;exact ze _
 have e:∀i j p,D i<=p->p<D (i+1)->D j<=p->p<D (j+1)->i=j:=fun i j p f o M N=>by
  rcases Nat.lt_trichotomy i j with h|h|h;have:=a (i+1) j h;omega;exact h;have:=a (j+1) i h;omega
 classical
 let T:Nat->Question->Nat:=fun p q=>if h:∃i,D i<=p/\p<D (i+1)then(nx<|st<|Classical.choose h).1 ((nx<|st<|Classical.choose h).2.1+(p-D (Classical.choose h))) q else 0
 have C:∀i j q,j<K i->T (D i+j) q=(nx<|st i).1 ((nx<|st i).2.1+j) q:=fun i j q y=>by
  have b:∃i',D i'<=D i+j/\D i+j<D (i'+1):=⟨i,by omega,by rw[k];omega⟩;have v:=XZ b;have E:Classical.choose b=i:=e _ _ _ v.1 v.2 (by omega) (by rw[k];omega);show(if h:∃i',D i'<=D i+j/\D i+j<D (i'+1)then _ else _)=_;rw[dif_pos b,E,show D i+j-D i=j by omega]
 have m:∀i,jC Q (st i).g (re (st i).w T<|D i) (st<|i+1).g<|re (st<|i+1).w T<|D<|i+1:=fun i=>by
  have:=(B.move (st i).inv ((st i).more B).1<|l<|st i).2.2 T (D i) fun j q y=>C i j q y;exact this
 have c:∀n i,¬vG Q Stop n (st i).g (re (st i).w T<|D i):=by
  intro n;induction n with
  |zero=>intro i h;exact((st i).more B).1<|(B.dN ..).1 h
  |succ n ih=>
   intro i h;rcases h with h|⟨L,O,f,o⟩
   exact((st i).more B).1<|(B.dN ..).1 h;obtain⟨rfl,rfl⟩:=f.same<|m i;exact ih (i+1) o
 obtain⟨n,G⟩:=r T 0;exact c n 0 G
end
end
end A
namespace A
open Go Go.Conc
open Go.ConcN (sumTo upd sumTo_upd upd_ne upd_same)
variable [pn:Pn]
section
variable {P:aV} {F:Array Func} {X:Nat->Prop} {Shun:Loc->Prop}
def Sm.re{w v:Zy}(h:Sm P X w v)(t:Nat->Question->Nat)(d:Nat):Sm P X (re w t d)<|re v t d:=⟨h.size,h.out,h.dead,h.oks,rfl,rfl,h.os,h.output,h.pin⟩
end
end A
namespace A
open Go Go.Conc
variable [pn:Pn]
section
variable {l:List Zf} {w:Zy} {fr:Zf} {off:Option<|Array CommCase×CommShape} {s s2:GStep} {sl:Option<|Nat×Nat}
section
variable {P Q:aV} {Stop:Goroutine->World->Prop}
def ql{m m1:Machine}{t t1:Trace}{r:Stepped×Trace}{K:Nat}:∀{N:Nat},runNT P N m t=(.next m1,t1)->runNT P K m1 t1=r->runNT P (N+K) m t=r:=by
 intro N;induction N generalizing m t with
 |zero=>intro h hk;simp only[runNT,qg,Stepped.next.injEq]at h;obtain⟨rfl,rfl⟩:=h;simpa using hk
 |succ N ih=>
  intro h hk;rw[show N+1+K=(N+K)+1 by omega];simp only[runNT]at h⊢;split at h;exact ih h hk
  rename_i x e
  simp only[qg]at h;exact absurd h.1<|x m1
abbrev vV:Nat×Nat->Nat×Nat->Prop:=Prod.Lex (·<·) (·<·)
def BO:WellFounded vV:=(Prod.lex Nat.lt_wfRel Nat.lt_wfRel).wf
def Cm.mB{g:Zg}(C:Cm Q Stop g w)(Rel:Nat×Nat->Zg->Zy->Machine->Trace->Prop)
  (b:∀k g w m t,Rel k g w m t->¬Stop g w->∃N m' t',runNT P N m t=(.next m',t')/\
   ((∃k',vV k' k/\Rel k' g w m' t')\/∃tp d g' w' k',jC Q g (re w tp d) g' w'/\Rel k' g' w' m' t')):
  ∀k m t,Rel k g w m t->∃N m' t' g' w' k',runNT P N m t=(.next m',t')/\Stop g' w'/\Rel k' g' w' m' t':=by
 induction C with
 | @stop g w h=>intro k m t c;exact⟨0,m,t,g,w,k,rfl,h,c⟩
 | @step g w goes hnext ih=>
  intro k;induction k using BO.induction with
  |_ k ihk=>
   intro m t c;by_cases x:Stop g w;exact⟨0,m,t,g,w,k,rfl,x,c⟩;obtain⟨N,y,z,v,o⟩:=b k g w m t c x;rcases o with⟨k',hk,a⟩|⟨tp,d,B,w1,k',n,a⟩
   obtain⟨e,q,r,f,s,p,i,j,l⟩:=ihk k' hk y z a;exact⟨N+e,q,r,f,s,p,ql v i,j,l⟩;obtain⟨e,q,r,f,s,p,i,j,l⟩:=ih tp d B w1 n k' y z a;exact⟨N+e,q,r,f,s,p,ql v i,j,l⟩
end
section
variable {P:aV} {F:Array Func} {X:Nat->Prop} {cs1 cs2:List Frame}
def Bk:Zf->List Zf->Prop
 |fr,[]=>fr.kind= .normal
 |_,c::l=>Bk c l
def Bk.congr{fr fr':Zf}(h:Bk fr l)(hk:fr'.kind=fr.kind):Bk fr' l:=by
 cases l with
 |nil=>exact hk.trans h
 |cons c l=>exact h
def Vm(fr:Zf)(v:Zv):(fr.finish v).kind=fr.kind:=by
 unfold Frame.finish;split<;>rfl
def IR(fr:Zf)(a:List PanicEntry):(fr.raise a).kind=fr.kind:=by
 unfold Frame.raise;split<;>rfl
def Sw(cs1 cs2:List Zf)(s s2:GStep):Prop:=∀g' w' es',s= .go g' w' es'->g'.dying=bN->cs1.length<=g'.callers.length->∃l',g'.callers=l'++cs1/\Bk g'.frame l'/\s2= .go {g' with callers:=l'++cs2} w' es'
def Ws(h:∀g' w' es',s≠ .go g' w' es'):Sw cs1 cs2 s s2:=fun g' w' es' e=>absurd e<|h g' w' es'
def TZ(h:∀g' w' es',s= .go g' w' es'->g'.dying=bN->False):Sw cs1 cs2 s s2:=fun g' w' es' e hd=>(h g' w' es' e hd).elim
def Jy{st:GoStatus}{dy:Option Dying}{es:Array Event}(b:Bk fr l):
  Sw cs1 cs2 (.go {frame:=fr,callers:=l++cs1,status:=st,dying:=dy,offers:=off} w es) (.go {frame:=fr,callers:=l++cs2,status:=st,dying:=dy,offers:=off} w es):=fun c f a e hd d=>by
 cases e;exact⟨l,rfl,b,rfl⟩
def RU{fr fr1:Zf}{st:GoStatus}{dy:Option Dying}{es:Array Event}(a:Bk fr1 l):
  Sw cs1 cs2 (.go {frame:=fr,callers:=fr1::(l++cs1),status:=st,dying:=dy,offers:=off} w es) (.go {frame:=fr,callers:=fr1::(l++cs2),status:=st,dying:=dy,offers:=off} w es):=Jy (l:=fr1::l) a
def Ji(es:Array Event)(h:Sw cs1 cs2 s s2):Sw cs1 cs2 (bA es s)<|bA es s2:=fun j k a e hd f=>by
 cases s with
 |go g w es0=>
  simp only[bA,GStep.go.injEq]at e;obtain⟨rfl,rfl,rfl⟩:=e;obtain⟨i,b,d,c⟩:=h _ _ _ rfl hd f;exact⟨i,b,d,by rw[c];rfl⟩
 |_=>simp[bA]at e
def YC:∀(l:List Zf) (fr:Zf),Bk fr l->
  (aH fr (l++cs1)=bN/\aH fr (l++cs2)=bN)\/∃v l',aH fr (l++cs1)=bO (v,l'++cs1)/\aH fr (l++cs2)=bO (v,l'++cs2)/\∀fr':Zf,fr'.kind=fr.kind->Bk fr' l'
 |[],fr,h=>by
  have f:fr.kind= .normal:=h;left;constructor<;>(unfold aH;simp[f])
 |c::l,fr,h=>by
  have i:=YC l c h;cases hk:fr.kind with
  |deferred=>
   cases hm:c.mode with
   |panicking ch=>
    cases ch with
    |nil=>left;constructor<;>(unfold aH;simp[hk,hm])
    |cons e older=>
     obtain⟨v,r,d⟩:=e;cases r<;>cases d
     right;exact⟨v,{c with mode:= .panicking ({v,recovered:=bL}::older)}::l,by unfold aH;simp[hk,hm],by unfold aH;simp[hk,hm],fun fr' _=>show Bk {c with mode:= .panicking ({v,recovered:=bL}::older)} l from Bk.congr (fr:=c) h rfl⟩
     all_goals left;constructor<;>(unfold aH;simp[hk,hm])
   |_=>left;constructor<;>(unfold aH;simp[hk,hm])
  |wrapped=>
   rcases i with⟨a,b⟩|⟨v,l',a,b,g⟩;left;constructor<;>(unfold aH;simp[hk,a,b])
   right;exact⟨v,c::l',by unfold aH;simp[hk,a],by unfold aH;simp[hk,b],fun fr' _=>g c rfl⟩
  |_=>left;constructor<;>(unfold aH;simp[hk])
def Tg{p:Zp}{s:Sem Next}(hk:fr.kind≠ .early)(k:Bk fr l)(B:p.follows .rangeFuncRecover=bL)
  (i:nR<|s.run p w)(C:∀n x,s.run p w= .ok n x->Nx n):Sw cs1 cs2 (bH p bL fr (l++cs1) bN s w)<|bH p bL fr (l++cs2) bN s w:=by
 have e:(fr.kind==CallKind.early)=bK:=by
  cases hq:fr.kind<;>simp_all
 cases hr:s.run p w with
 |halt hh x=>
  rw[hr]at i;cases hh with
  |panic y=>
   simp only[bH,zg,if_true,hr,e];exact Ji _<|Jy<|k.congr<|IR ..
  |blocked=>exact i.elim
  |waiting=>exact i.elim
  |goexit=>exact i.elim
  |fatal m=>
   simp only[bH,zg,if_true,hr,e];exact TZ fun q t j h hd=>PU h hd
  |throw m=>
   simp only[bH,zg,if_true,hr,e];exact TZ fun q t j h hd=>PV h hd
  |exit c=>
   simp only[bH,zg,if_true,hr,e];exact Ws fun q t j h=>by cases h
  |stuck m=>
   simp only[bH,zg,if_true,hr,e];exact Ws fun q t j h=>by cases h
  |unsupported u=>
   cases u with
   |initOrder g=>exact i.elim
   |_=>
    simp only[bH,zg,if_true,hr,e];exact Ws fun q t j h=>by cases h
 |ok n x=>
  have z:=C n x hr;cases n with
  |value y=>
   simp only[bH,zg,if_true,hr,e];exact Ji _<|Jy<|k.congr<|Vm ..
  |skip=>
   simp only[bH,zg,if_true,hr,e];exact Ji _<|Jy<|k.congr<|Vm ..
  |enter f a=>
   simp only[bH,zg,if_true,hr,e];exact Ji _<|RU k
  |round r f ts a b=>
   simp only[bH,zg,if_true,hr,e];exact Ji _<|RU k
  |defer d=>
   simp only[bH,zg,if_true,hr,e];exact Ji _<|Jy<|k.congr<|Vm ..
  |recover=>
   have o:Sw cs1 cs2 (match aH fr (l++cs1)with
     |some (v,callers)=> .go {frame:=fr.finish v,callers,status:= .running,dying:=bN} x
     |none=> .go {frame:=fr.finish .nilIface,callers:=l++cs1,status:= .running,dying:=bN} x) (match aH fr (l++cs2)with
     |some (v,callers)=> .go {frame:=fr.finish v,callers,status:= .running,dying:=bN} x
     |none=> .go {frame:=fr.finish .nilIface,callers:=l++cs2,status:= .running,dying:=bN} x):=by
    rcases YC (cs1:=cs1) (cs2:=cs2) l fr k with⟨h1,h2⟩|⟨v,l',h1,h2,h3⟩;rw[h1,h2];exact Jy<|k.congr<|Vm ..;rw[h1,h2];exact Jy<|h3 _<|Vm ..
   cases hq:fr.roundOf with
   |none=>
    simp only[bH,zg,if_true,hr,e,hq];exact Ji _ o
   |some r=>
    simp only[bH,zg,if_true,hr,e,hq,B];exact Ji _ o
  |_=>exact z.elim
def YL{p:Zp}(hk:fr.kind≠ .early/\fr.kind≠ .report)(b:Bk fr l)(val:Zv)(w:Zy)(e:l≠[]\/cs1≠[]):
  Sw cs1 cs2 (doReturn p bL fr (l++cs1) bN val w) (doReturn p bL fr (l++cs2) bN val w):=by
 cases l with
 |cons c l=>
  cases hq:fr.kind with
  |early=>exact absurd hq hk.1
  |report=>exact absurd hq hk.2
  |normal=>simp only[jc,doReturn,hq];exact Jy<|Bk.congr (fr:=c) b<|Vm ..
  |wrapped=>simp only[jc,doReturn,hq];exact Jy<|Bk.congr (fr:=c) b<|Vm ..
  |deferred=>
   simp only[jc,doReturn,hq];refine Jy<|Bk.congr (fr:=c) b ?_;split;split<;>rfl
   rfl
 |nil=>
  cases hc:cs1 with
  |nil=>
      rcases e with h|h;exact absurd rfl h;exact absurd hc h
  |cons c cs=>
   intro f g d h hd a;exfalso;cases hq:fr.kind with
   |early=>exact absurd hq hk.1
   |report=>exact absurd hq hk.2
   |normal=>simp only[jk,doReturn,hq]at h;cases h;exact absurd a<|PL _
   |wrapped=>simp only[jk,doReturn,hq]at h;cases h;exact absurd a<|PL _
   |deferred=>simp only[jk,doReturn,hq]at h;cases h;exact absurd a<|PL _
end
section
variable {P:aV} {F:Array Func} {X:Nat->Prop} {cs1 cs2:List Frame}
def Ew{c:Prop}[Decidable c]{a b a2 b2:GStep}(d:Sw cs1 cs2 a a2)(e:Sw cs1 cs2 b b2):Sw cs1 cs2 (if c then a else b) (if c then a2 else b2):=by
 by_cases h:c;rw[aA h,aA h];exact d;rw[aB h,aB h];exact e
def As{p:Zp}(b:Xv P fr)(c:Bk fr l)(d:cs1≠[])(a:Option Code)(w:Zy):Sw cs1 cs2 (Jw p fr (l++cs1) a w)<|Jw p fr (l++cs2) a w:=by
 unfold Jw;cases fr.roundOf with
 |none=>
  exact Ew (Jy<|c.congr rfl)<|Ws fun _ _ _ e=>by cases e
 |some r=>
  dsimp only;refine Ji _ ?_;cases(Instr.endRound r a).run p w with
  |ok v x=>exact YL b.kind c v x<|.inr d
  |halt y x=>exact Ws fun _ _ _ e=>by cases e
def xmp(H:Fit P F X)(R:Sm P X w w)(q:Xv P fr)(g:Bk fr l)(C:P.follows .rangeFuncRecover=bL)(U:cs1≠[]):
  Sw cs1 cs2 (bI (wf P F) bL bL fr (l++cs1) bN w) (bI (wf P F) bL bL fr (l++cs2) bN w):=by
 have N:=q.items;have I:∀v:Option Code,(∀m,bI (wf P F) bL bL fr m bN w=Jw (wf P F) fr m v w)->
   Sw cs1 cs2 (bI (wf P F) bL bL fr (l++cs1) bN w) (bI (wf P F) bL bL fr (l++cs2) bN w):=fun v h=>by
  rw[h,h];exact As q g U v w
 have Q:∀{s:Sem Next},BN P F X s->(∀n x,s.run (wf P F) w= .ok n x->Nx n)->(∀m,bI (wf P F) bL bL fr m bN w=bH (wf P F) bL fr m bN s w)->
   Sw cs1 cs2 (bI (wf P F) bL bL fr (l++cs1) bN w) (bI (wf P F) bL bL fr (l++cs2) bN w):=fun Y V h=>by
  rw[h,h];exact Tg q.kind.1 g C (Y.dZ w R) V
 cases hto:fr.todo with
 |nil=>
  refine I bN fun m=>?_;simp only[bI,hto,Jw,zg];rfl
 |cons it k=>
  rw[hto]at N;have hk:=YU N;have E:=N it<|jo ..;cases it with
  |call d b r s=>exact E.elim
  |extern r a=>exact E.elim
  |inBlock id=>simp only[bI,hto];exact Jy<|g.congr rfl
  |inScope c=>simp only[bI,hto];exact Jy<|g.congr rfl
  |inLoop c=>simp only[bI,hto];exact Jy<|g.congr rfl
  |inRangeFunc r=>exact Ws fun _ _ _ e=>by simp only[bI,hto]at e;cases e
  |endRangeFunc r=>
   simp only[bI,hto,zg];refine Ji _ ?_;cases(Instr.endLoop r).run (wf P F) w with
   |ok j w1=>exact Jy<|g.congr rfl
   |halt x w1=>
    cases x with
    |panic y=>exact Jy<|g.congr<|IR ..
    |_=>exact Ws fun _ _ _ e=>by cases e
  |beginRound=>
   have g:B P F X<|fr.roundOf.elim (stuck "beginRound: no round") Instr.beginRound:=by
    cases fr.roundOf with
    |none=>exact ja _
    |some l=>exact YE l
   exact Q (s:=fr.roundOf.elim (stuck "beginRound: no round") Instr.beginRound>>=fun _=>pure .skip) (Bl.next<|xp g fun _=>xr _) (fun n x h=>TE h) fun m=>by simp only[bI,hto]
  |inRegion ops todo=>
   cases todo with
   |nil=>simp only[bI,hto];exact Jy<|g.congr rfl
   |cons i rest=>
    cases hw:((ops[i]?).map (Region.wanted · (yielded ops fr.tmps))).getD bK with
    |false=>simp only[bI,hto,hw];exact Jy<|g.congr<|Vm ..
    |true=>
     cases ho:ops[i]?with
     |none=>rw[ho]at hw;cases hw
     |some o=>
      have G:=Wk ho;have z:qM P o.op=bL/\(fr.roundOf.isNone|| !AX o.op)=bL:=by
       have D:rT P fr.roundOf.isNone ops=bL:=E;unfold rT at D;rw[qi]at D;have:=D o G;rw[xl]at this;exact this
      have O:fr.oper?=bO o:=by simp only[Frame.oper?,hto,ho]
      refine Q (EF H fr.eval o z.1) (fun n x h=>zig H z.1 h) fun m=>?_;simp only[bI,hto,hw,if_true,stepG.oper,O];split
      rename_i l c C hdf
      exfalso;rw[C,hdf]at z;exact absurd z.2 (by simp[AX]);rfl
  |code c=>
   cases c with
   |skip=>simp only[bI,hto];exact Jy<|g.congr rfl
   |label l=>simp only[bI,hto];exact Jy<|g.congr rfl
   |ret=>
    refine I (bO .ret) fun m=>?_;simp only[bI,hto,Jw,zg];rfl
   |seq a b=>simp only[bI,hto];exact Jy<|g.congr rfl
   |block id c=>simp only[bI,hto];exact Jy<|g.congr rfl
   |loop c=>simp only[bI,hto];exact Jy<|g.congr rfl
   |scope c=>simp only[bI,hto];exact Jy<|g.congr rfl
   |refuse s=>exact Ws fun _ _ _ e=>by simp only[bI,hto]at e;cases e
   |cond c a b=>
    cases hev:fr.eval c with
    |bool t=>simp only[bI,hto,hev];exact Jy<|g.congr rfl
    |_=>exact Ws fun _ _ _ e=>by simp only[bI,hto,hev]at e;cases e
   |exit id=>
    cases hx:exitTo id k with
    |some k'=>simp only[bI,hto,hx];exact Jy<|g.congr rfl
    |none=>
     refine I (bO<|.exit id) fun m=>?_;simp only[bI,hto,hx,Jw,zg];rfl
   |goto r=>
    cases hx:gotoIn r k with
    |some k'=>simp only[bI,hto,hx];exact Jy<|g.congr rfl
    |none=>
     refine I (bO<|.goto r) fun m=>?_;simp only[bI,hto,hx,Jw,zg];rfl
   |region id ops draw=>
    cases draw with
    |false=>simp only[bI,hto];exact Jy<|g.congr rfl
    |true=>
     simp only[bI,hto];cases hq:(choose<|.order fr.fn id).run (wf P F) w with
     |ok t x=>exact Jy<|g.congr rfl
     |halt y x=>exact Ws fun _ _ _ e=>by cases e
   |rangeFunc f ps a b=>
    simp only[Y3,qn,xl]at E;let fr' (x:Nat×List Deferred):Zf:={fr with todo:= .inRangeFunc x.1::k,defers:=x.2++fr.defers};let cl (x:Nat×List Deferred):Call:={callee:= .value f,args:=#[.const<|.func (.yield x.1) #[] #[]],argTypes:=#[]};let sm (x:Nat×List Deferred):Sem Next:=resolve (fr' x).eval (cl x) 0>>=fun d=>invoke d.target d.args;have e:∀m,bI (wf P F) bL bL fr m bN w=bA (seen (wf P F) fr.fn<|(Instr.enterLoop fr.fn fr.tmps ps a b fr.roundOf).events (wf P F) w #[]) (match(Instr.enterLoop fr.fn fr.tmps ps a b fr.roundOf).run (wf P F) w with
      | .ok x w=>bH (wf P F) bL (fr' x) m bN (sm x) w
      | .halt _ w=> .ended (.stuck "range over a function: no such loop" (fr.pos<|wf P F)) w):=fun m=>by
     simp only[bI,hto,zg];cases(Instr.enterLoop fr.fn fr.tmps ps a b fr.roundOf).run (wf P F) w with
     |ok x w1=>rfl
     |halt x w1=>rfl
    rw[e,e];refine Ji _ ?_;have K:=YJ (P:=P) (F:=F) (X:=X) fr.fn fr.tmps ps a b fr.roundOf E.1 E.2 q.init;cases hq:(Instr.enterLoop fr.fn fr.tmps ps a b fr.roundOf).run (wf P F) w with
    |halt y x=>exact Ws fun _ _ _ e=>by cases e
    |ok x w1=>
     have p:ES P (cl x)=bL:=rfl;obtain⟨v',Z,M⟩:=K.gJ w w #[] R (by rw[hq];trivial);have J:Sm P X w1 w1:=by
      have:=M.sm.self;rw[hq]at this;exact this
     have L:BN P F X<|sm x:=RB (JB _ _ _) (fun w d w' W=>Y4 p W) fun d hd=>AU H _ _ hd;refine Tg (fr:=fr' x) q.kind.1 (g.congr rfl) C (L.dZ w1 J) fun n y h=>?_;obtain⟨d,w2,S,T⟩:=jm h;exact yE H (Y4 p S) T
def xtq(H:Fit P F X)(s:Sm P X w w)(j:Bk fr l){d:Deferred}(k:Vn P d.target=bL):
  Sw cs1 cs2 (callDeferred (wf P F) fr (l++cs1) bN d w) (callDeferred (wf P F) fr (l++cs2) bN d w):=by
 have z:=AU H d.target d.args k;have t:∀n x,(invoke d.target d.args).run (wf P F) w= .ok n x->Nx n:=fun n x h=>yE H k h;have i:=z.dZ w s;unfold callDeferred;refine Ew (Ws fun _ _ _ e=>by cases e) ?_;simp only[zg];cases hr:(invoke d.target d.args).run (wf P F) w with
 |halt y x=>
  rw[hr]at i;cases y with
  |panic y=>exact Ji _<|Jy<|j.congr<|IR ..
  |blocked=>exact i.elim
  |waiting=>exact i.elim
  |goexit=>exact i.elim
  |fatal m=>exact TZ fun q B o h hd=>PU h hd
  |throw m=>exact TZ fun q B o h hd=>PV h hd
  |exit c=>exact Ws fun _ _ _ e=>by cases e
  |stuck m=>exact Ws fun _ _ _ e=>by cases e
  |unsupported u=>
   cases u with
   |initOrder g=>exact i.elim
   |_=>exact Ws fun _ _ _ e=>by cases e
 |ok n x=>
  have p:=t n x hr;cases n with
  |value y=>exact Ji _<|Jy j
  |skip=>exact Ji _<|Jy j
  |enter f a=>exact Ji _<|RU j
  |round r f ts a b=>exact Ji _<|RU j
  |defer d=>exact Ji _<|Jy j
  |recover=>
   refine Ji _ ?_;dsimp only;rcases YC (cs1:=cs1) (cs2:=cs2) l fr j with⟨h1,h2⟩|⟨v,l',h1,h2,h3⟩
   rw[h1,h2];cases fr.mode<;>exact Jy j
   rw[h1,h2];cases fr.mode;exact Jy j;exact Jy<|h3 _ rfl;exact Jy j
  |_=>exact p.elim
def Sq(H:Fit P F X)(z:Sm P X w w)(f:Xv P fr)(h:Bk fr l)(m:cs1≠[]):
  Sw cs1 cs2 (aI (wf P F) bL fr (l++cs1) bN w) (aI (wf P F) bL fr (l++cs2) bN w):=by
 cases hdf:fr.defers with
 |cons d ds=>
  have hd:=f.gI d (by rw[hdf];exact jo ..);have C:(∀b,d.target≠ .collected b)->Sw cs1 cs2 (aI (wf P F) bL fr (l++cs1) bN w) (aI (wf P F) bL fr (l++cs2) bN w):=fun n=>by
   have e:∀g,aI (wf P F) bL fr g bN w=callDeferred (wf P F) {fr with defers:=ds} g bN d w:=fun g=>by
    unfold aI;rw[hdf];obtain⟨o,q⟩:=d;cases o with
    |collected b=>exact absurd rfl<|n b
    |_=>rfl
   rw[e,e];exact xtq H z (fr:={fr with defers:=ds}) (h.congr rfl) hd
  cases htg:d.target with
  |collected b=>
   have e:∀g,aI (wf P F) bL fr g bN w=bA (seen (wf P F) fr.fn<|(Instr.takeDeferred b).events (wf P F) w #[]) (match(Instr.takeDeferred b).run (wf P F) w with
     | .ok calls w=> .go {frame:={fr with defers:=calls++ds},callers:=g,status:= .running,dying:=bN} w
     | .halt _ w=> .ended (.stuck "the deferred calls of a range-over-func loop have been taken" (fr.pos<|wf P F)) w):=fun g=>by
    unfold aI;rw[hdf];obtain⟨o,q⟩:=d;cases htg;simp only[zg];cases(Instr.takeDeferred b).run (wf P F) w<;>rfl
   rw[e,e];refine Ji _ ?_;cases(Instr.takeDeferred b).run (wf P F) w with
   |ok a x=>exact Jy<|h.congr rfl
   |halt y x=>exact Ws fun _ _ _ e=>by cases e
  |_=>exact C fun b e=>by rw[htg]at e;cases e
 |nil=>
  cases hm:fr.mode with
  |run=>exact Ws fun t D j e=>by simp only[aI,hdf,hm]at e;cases e
  |panicking chain=>
   have i:∀p:Zp,fr.catches p=bK:=fun p=>by
    unfold Frame.catches;cases htd:fr.todo with
    |nil=>cases p.funcs[fr.fn]?<;>rfl
    |cons it k=>
     have v:=f.items it (by rw[htd];exact jo ..);cases it with
     |call d b r s=>exact v.elim
     |_=>cases p.funcs[fr.fn]?<;>rfl
   cases l with
   |cons c l=>
    simp only[aI,hdf,hm,i,jc];exact Jy<|Bk.congr (fr:=c) h<|IR ..
   |nil=>
    cases h1:cs1 with
    |nil=>exact absurd h1 m
    |cons c g=>
     intro t D j e hd B;simp only[aI,hdf,hm,i,jk]at e;cases e;exact absurd B<|PL _
  |returning=>
   cases hf:(wf P F).funcs[fr.fn]?with
   |none=>
    simp only[aI,hdf,hm,hf];exact YL f.kind h _ w<|.inr m
   |some fn=>
    simp only[aI,hdf,hm,hf,zg];refine Ji _ ?_;cases(aN fn fr.tmps).run (wf P F) w with
    |ok a x=>exact YL f.kind h a x<|.inr m
    |halt y x=>
     cases y<;>exact Ws fun _ _ _ e=>by cases e
def Bp(H:Fit P F X)(h:Sm P X w w){g:Zg}(d:Xv P g.frame)(hd:g.dying=bN)(m:g.callers=l++cs1)(i:Bk g.frame l)(k:P.follows .rangeFuncRecover=bL)(j:cs1≠[]):
  Sw cs1 cs2 (aZ (wf P F) bL g w) (aZ (wf P F) bL {g with callers:=l++cs2} w):=by
 obtain⟨b,a,st,n,f⟩:=g;cases hd;cases m;cases hm:b.mode with
 |run=>
  have e:∀a,aZ (wf P F) bL {frame:=b,callers:=a,status:=st,dying:=bN,offers:=f} w=bI (wf P F) bL bL b a bN w:=fun a=>by simp[aZ,hm]
  rw[e,e];exact xmp H h d i k j
 |returning=>
  have e:∀a,aZ (wf P F) bL {frame:=b,callers:=a,status:=st,dying:=bN,offers:=f} w=aI (wf P F) bL b a bN w:=fun a=>by
   unfold aZ;simp[hm]
  rw[e,e];exact Sq H h d i j
 |panicking c=>
  have e:∀a,aZ (wf P F) bL {frame:=b,callers:=a,status:=st,dying:=bN,offers:=f} w=aI (wf P F) bL b a bN w:=fun a=>by
   unfold aZ;simp[hm]
  rw[e,e];exact Sq H h d i j
end
section
variable {P:aV} {F:Array Func} {X:Nat->Prop} {cs1 cs2:List Frame} {J:Nat×Nat->Array Goroutine->World->Trace->Prop}
structure BD(P:Zp)(X:ZP)(J:Nat×Nat->Array Zg->Zy->Trace->Prop):Prop where
 awake:∀k gs v t,J k gs v t->∀(i:Nat) g,0<i->gs[i]?=bO g->awake g
 drawn:∀k gs v t d,J k gs v t->J k gs (v.at d) t
 other:∀k gs v t (i:Nat) g g0 sl,J k gs v t->0<i->gs[i]?=bO g->g.status= .running->gs[0]?=bO g0->g0.status= .running->g0.dying=bN->
  ∃gs' v' sl' ops k',runT P (crowd gs v sl) i=(.next<|crowd gs' v' sl',ops)/\vV k' k/\gs'[0]?=bO g0/\J k' gs' v' (t++ops)/\∀w,Sm P X (re w v.tape v.drawn) v->Sm P X (re w v'.tape v'.drawn) v'
 own:∀k gs v t g0 g' v' es,J k gs v t->gs[0]?=bO g0->aZ P bL g0 v= .go g' v' es->g0.status= .running->g'.status= .running->(∀x,X x->v'.heap[x]?=v.heap[x]?)->(∀e∈es,qI X v'.heap.size e)->v.heap.size<=v'.heap.size->
  J k ((gs.map<|woken P g0 g' v').setIfInBounds 0 g') v' (t++MemOp.ofEvents 0 g0.frame.fn g0.frame.place es)
structure Duo(P:Zp)(X:ZP)(cs1 cs2:List Zf)(g:Zg)(w:Zy)(g2:Zg)(v:Zy):Prop where
 top:∃l,g.callers=l++cs1/\g2={g with callers:=l++cs2}/\((cs1=[]/\cs2=[])\/(cs1≠[]/\Bk g.frame l))
 run:g.status= .running
 dy:g.dying=bN
 ok1:nP P g
 ok2:nP P g2
 sm:Sm P X (re w v.tape v.drawn) v
def zip(E:BD P X J){k:Nat×Nat}{gs:Array Zg}{v w:Zy}{t:Trace}{g g2:Zg}
  (e:Duo P X cs1 cs2 g w g2 v)
  (T:∀d,Sm P X (re w v.tape d) (v.at d)->∃g' w' l' v1 es,jC (wf P F) g (re w v.tape d) g' w'/\g'.callers=l'++cs1/\((cs1=[]/\cs2=[])\/(cs1≠[]/\Bk g'.frame l'))/\aZ P bL g2 (v.at d)= .go {g' with callers:=l'++cs2} v1 es/\Af P X (v.at d) w' v1 es/\nP P g'/\nP P {g' with callers:=l'++cs2})
  (R:J k gs v t)(q:gs[0]?=bO g2):
  ∃gs' v' sl' t',runNT P 1 (crowd gs v sl) t=(.next<|crowd gs' v' sl',t')/\
   ((∃k',vV k' k/\J k' gs' v' t'/\gs'[0]?=bO g2/\Duo P X cs1 cs2 g w g2 v')\/
    ∃tp d g' w' g2',jC (wf P F) g (re w tp d) g' w'/\J k gs' v' t'/\gs'[0]?=bO g2'/\Duo P X cs1 cs2 g' w' g2' v'/\v.heap.size<=v'.heap.size/\∀x,X x->v'.heap[x]?=v.heap[x]?):=by
 obtain⟨l,U,j,z⟩:=e.top;have a:g2.status= .running:=by rw[j];exact e.run
 have y:g2.dying=bN:=by rw[j];exact e.dy
 have I:∀g∈gs,awake g:=by
  intro f h;obtain⟨i,m,rfl⟩:=Z1.1 h;rcases jl i with rfl|b
  have:gs[0]=g2:=by simpa[xg m]using q
  rw[this];exact awake_of<|.inl a;exact E.awake k gs v t R i _ b<|xg m
 obtain⟨i,f,d,sl',m,h,D⟩:=crowd_pick (P:=P) (w:=v) (sl:=sl) I ⟨0,g2,q,a⟩;have r:=E.drawn k gs v t d R;have s:Sm P X (re w v.tape d)<|v.at d:=e.sm.re v.tape d;rcases jl i with rfl|b
 obtain rfl:f=g2:=by rw[q]at m;exact(jf m).symm
 obtain⟨g',w1,l',v1,es,⟨H,S,O,G⟩,K,n,Q,c,B,C⟩:=T d s;have o:=runT_crowd_go (P:=P) (sl:=sl') (i:=0) m (show aZ P (0==0) f (v.at d)=_ from Q);have L:0<gs.size:=(za.1 q).1;have p:re w1 v1.tape v1.drawn=w1:=by rw[c.sm.tape,c.sm.drawn];rfl
 refine⟨_,v1,sl',t++MemOp.ofEvents 0 f.frame.fn f.frame.place es,by simp only[runNT,D,o],.inr ⟨v.tape,d,g',w1,{g' with callers:=l'++cs2},⟨H,S,O,G⟩,
  E.own k gs (v.at d) t f _ v1 es r q Q a G c.kept c.evs c.grows,by simp[L],⟨⟨l',K,rfl,n⟩,G,O,B,C,by rw[p];exact c.sm⟩,c.grows,c.kept⟩⟩
 obtain⟨gs',v',N,M,k',V,W,Y,Z,r5⟩:=E.other k gs (v.at d) t i f g2 sl' r b m h q a y;exact⟨gs',v',N,t++M,by simp only[runNT,D,V],.inl ⟨k',W,Z,Y,⟨⟨l,U,j,z⟩,e.run,e.dy,e.ok1,e.ok2,r5 w s⟩⟩⟩
def Md(U:BD P X J)(H:Fit P F X)(Q:pE P F)(N:P.follows .rangeFuncRecover=bL){k:Nat×Nat}{gs:Array Zg}{v w:Zy}{t:Trace}{g g2:Zg}
  (j:Duo P X cs1 cs2 g w g2 v)(K:Xv P g.frame)(s:∀t d,∃g' w',jC (wf P F) g (re w t d) g' w'/\cs1.length<=g'.callers.length)(R:∀t d,qR P F g.callers.length<|aZ (wf P F) bL g<|re w t d)
  (hJ:J k gs v t)(h0:gs[0]?=bO g2):
  ∃gs' v' sl' t',runNT P 1 (crowd gs v sl) t=(.next<|crowd gs' v' sl',t')/\
   ((∃k',vV k' k/\J k' gs' v' t'/\gs'[0]?=bO g2/\Duo P X cs1 cs2 g w g2 v')\/
    ∃tp d g' w' g2',jC (wf P F) g (re w tp d) g' w'/\J k gs' v' t'/\gs'[0]?=bO g2'/\Duo P X cs1 cs2 g' w' g2' v'/\v.heap.size<=v'.heap.size/\∀x,X x->v'.heap[x]?=v.heap[x]?):=by
 refine zip U j (fun d m=>?_) hJ h0;obtain⟨l,E,h,D⟩:=j.top;have y:g2.dying=bN:=by rw[h];exact j.dy
 have z:g2.frame=g.frame:=by rw[h]
 obtain⟨g',w1,M,C⟩:=s v.tape d;obtain⟨i,q,r,Z⟩:=M;have O:∃o,g'.callers=o++cs1/\((cs1=[]/\cs2=[])\/(cs1≠[]/\Bk g'.frame o))/\aZ (wf P F) bL g2 (re w v.tape d)= .go {g' with callers:=o++cs2} w1 i:=by
  rcases D with⟨p,G⟩|⟨p,hb⟩;refine⟨g'.callers,by rw[p,Xq],.inl ⟨p,G⟩, ?_⟩;have:g2=g:=by
   rw[h,G,Xq];rw[p,Xq]at E;rw[<-E]
  rw[this,q,G,Xq];obtain⟨o,V,W,Y⟩:=Bp (cs2:=cs2) H m.self K j.dy E hb N p _ _ _ q r C;exact⟨o,V,.inr ⟨p,W⟩,by rw[h];exact Y⟩
 obtain⟨o,B,n,f⟩:=O;have I:qR P F g2.callers.length<|aZ (wf P F) bL g2<|re w v.tape d:=fun a b c e T hr=>by
  rw[f]at e;cases e;refine R v.tape d g' w1 i q ?_ hr;have q1:g2.callers=l++cs2:=by rw[h]
  rw[q1]at T;simp only[zj]at T;rw[B,E];simp only[zj];omega
 have S:=LC (En:=True) H Q m j.ok2 (by rw[z];exact K) y fun _=>I;have L:=LC (En:=True) H Q m.self j.ok1 K j.dy fun _=>R v.tape d;obtain⟨v1,es,f1,f2⟩:=S.zN trivial _ _ _ f r;exact⟨g',w1,o,v1,es,⟨i,q,r,Z⟩,B,n,f1,f2,L.ok trivial _ _ _ q r,S.ok trivial _ _ _ f r⟩
end
end
end A
end Go.Proofs.YtjnbhiamaabbgaaGreatDoor
