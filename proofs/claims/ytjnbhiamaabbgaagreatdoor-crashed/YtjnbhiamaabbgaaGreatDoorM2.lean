import Derived.Test.YtjnbhiamaabbgaaGreatDoorM1
import Derived.Test.YtjnbhiamaabbgaaGreatDoorProg
import Derived.WalkSpells
import Derived.WalkLawsBesides
import Derived.BigQuiet
import Derived.Deep.RegionHeld3
import Derived.StillTailTactics
import Derived.Deep.WholeRow
set_option linter.all false
set_option maxRecDepth 100000
set_option maxHeartbeats 8000000
namespace Go.Proofs.YtjnbhiamaabbgaaGreatDoor
open Bool renaming false->bK,true->bL
open Go renaming Calls->bE,Program->aV,results->aN,stepG->aZ,tryRecover->aH,unwind->aI
open Go.Conc renaming Deaf_other->aG
open Go.Ending renaming returned->aP
open Go.Frame renaming enter->bF
open Go.MemAct renaming ofEvent->aU,touch?->aR
open Go.MemOp renaming ofEvents->bD
open Go.Proofs.Tryz renaming prog->bM
open Go.stepG renaming apply->bH,exec->bI
open Option renaming none->bN,some->bO
namespace A
open Go Go.Conc
variable [pn:Pn]
section
variable {w:Zy} {fr:Zf} {es:Array Event} {P p:Zp} {End:Zg→Zy→Prop} {g:Zg} {cs0:List Zf} {f:FuncId} {cs:List Zf} {n:List Zf}
section
variable {P:aV} {F:Array Func} {X:Nat->Prop} {cs:List Frame}
def T_(cs:List Zf)(g':Zg):Prop:=∀c l,cs=c::l->g'.callers.length=l.length->(∃v,g'.frame=c.finish v)\/∃m,g'.frame={c with mode:=m}
def Low(P:Zp)(cs:List Zf)(g':Zg):Prop:=(∀c∈cs,Xv P c)->∀c∈g'.callers,Xv P c
def Kd(P p:Zp)(cs:List Zf)(s:GStep):Prop:=(∃g' w' es,s= .go g' w' es/\g'.dying=bN/\g'.status= .running/\g'.offers=bN/\(g'.callers.length=cs.length+1->g'.frame.roundOf=bN->∃f a k,(k≠ .early/\k≠ .report)/\g'.frame=bF p f a k)/\T_ cs g'/\cs.length<=g'.callers.length+1/\Low P cs g')\/∃o w' es,s= .ended o w' es
def UF{g':Zg}(h:g'.callers.length+1≠cs.length):T_ cs g':=fun c l e a=>absurd (by rw[e,a];rfl) h
def Vb:Kd P p cs0<|.go {frame:=fr,callers:=cs0,status:= .running,dying:=bN} w es:= .inl ⟨_,_,_,rfl,rfl,rfl,rfl,fun e=>absurd e<|by simp only;omega,UF<|by simp only;omega,by simp only;omega,fun h=>h⟩
def UB{c fr:Zf}{l:List Zf}(h:(∃v,fr=c.finish v)\/∃m,fr={c with mode:=m}):Kd P p (c::l)<|.go {frame:=fr,callers:=l,status:= .running,dying:=bN} w es:=
 .inl ⟨_,_,_,rfl,rfl,rfl,rfl,fun e=>absurd e<|by simp only[zh];omega,fun b l1 e _=>(by cases e;exact h),by simp only[zh];omega,fun h c a=>h c<|xj _ a⟩
def Uv{P:Zp}{fr fr1:Zf}(b:Xv P fr1):Low P cs0 {frame:=fr,callers:=fr1::cs0,status:= .running,dying:=bN}:=fun h c a=>by
 simp only[xf]at a;rcases a with rfl|a
 exact b;exact h c a
def Uq{a:Za}{k:CallKind}{fr1:Zf}(b:Xv P fr1)(hk:k≠ .early/\k≠ .report):Kd P p cs0<|.go {frame:=bF p f a k,callers:=fr1::cs0,status:= .running,dying:=bN} w es:= .inl ⟨_,_,_,rfl,rfl,rfl,rfl,fun _ _=>⟨f,a,k,hk,rfl⟩,UF<|by simp only[zh];omega,by simp only[zh];omega,Uv b⟩
def Ur{r:Nat}{ts:Za}{a b:Code}{k:CallKind}{fr1:Zf}(c:Xv P fr1):Kd P p cs0<|.go {frame:=Frame.round r f ts a b k,callers:=fr1::cs0,status:= .running,dying:=bN} w es:= .inl ⟨_,_,_,rfl,rfl,rfl,rfl,fun _ e=>(by cases e),UF<|by simp only[zh];omega,by simp only[zh];omega,Uv c⟩
def Kw:∀{cs cs':List Zf} {fr:Zf} {v:Zv},aH fr cs=bO (v,cs')->cs'.length=cs.length
 |[],cs',fr,v,e=>by
  unfold aH at e;split at e<;>simp_all
 |c::cs,cs',fr,v,e=>by
  unfold aH at e;split at e
  rename_i h1 h2
  cases h2;split at e;cases e;rfl;cases e
  rename_i h1 h2
  cases h2;obtain⟨⟨f,a⟩,b,d⟩:=zt.1 e;cases d;simp[Kw b];cases e
def Kr{P:Zp}:∀{cs cs':List Zf} {fr:Zf} {v:Zv},(∀c∈cs,Xv P c)->aH fr cs=bO (v,cs')->∀c∈cs',Xv P c
 |[],cs',fr,v,h,e=>by
  unfold aH at e;split at e<;>simp_all
 |c::cs,cs',fr,v,h,e=>by
  unfold aH at e;split at e
  rename_i caller rest hk e1
  cases e1;split at e;cases e;intro x a;simp only[xf]at a;rcases a with rfl|a
  exact(h c<|by simp).mode _;exact h x (by simp[a]);cases e
  rename_i wrapper rest hk e1
  cases e1;cases ht:aH c cs with
  |none=>rw[ht]at e;cases e
  |some y=>
   rw[ht]at e;cases e;intro x a;simp only[xf]at a;rcases a with rfl|a
   exact h _ (by simp);exact Kr (fun z b=>h z<|by simp[b]) ht x a
  cases e
def Ed{cs0 cs:List Zf}{fr fr0:Zf}{v:Zv}(h:aH fr0 cs0=bO (v,cs)):Kd P p cs0<|.go {frame:=fr,callers:=cs,status:= .running,dying:=bN} w es:=by
 have b:=Kw h;exact .inl ⟨_,_,_,rfl,rfl,rfl,rfl,fun e=>absurd e<|by simp only;omega,UF<|by simp only;omega,by simp only;omega,fun a=>Kr a h⟩
def Wo{o:Outcome}:Kd P p n<|.ended o w es:= .inr ⟨_,_,_,rfl⟩
def Jg{s:GStep}(es:Array Event)(h:Kd P p n s):Kd P p n<|GStep.after es s:=by
 rcases h with⟨e,d,a,rfl,b,c⟩|⟨o,d,a,rfl⟩;exact .inl ⟨_,_,_,rfl,b,c⟩;exact .inr ⟨_,_,_,rfl⟩
def Ec{c:Prop}[Decidable c]{a b:GStep}(d:Kd P p n a)(e:Kd P p n b):Kd P p n (if c then a else b):=by
 by_cases h:c;rw[aA h];exact d;rw[aB h];exact e
def Tf{p:Zp}{s:Sem Next}(i:Xv P fr)(hk:fr.kind≠ .early)(l:p.follows .rangeFuncRecover=bL)
  (h:nR<|s.run p w)(o:∀n x,s.run p w= .ok n x->Nx n):Kd P p cs<|bH p bL fr cs bN s w:=by
 have e:(fr.kind==CallKind.early)=bK:=by
  cases hq:fr.kind<;>simp_all
 cases hr:s.run p w with
 |halt hh x=>
  rw[hr]at h;cases hh with
  |panic y=>
   simp only[bH,zg,if_true,hr,e];exact Jg _ Vb
  |blocked=>exact h.elim
  |waiting=>exact h.elim
  |goexit=>exact h.elim
  |fatal m=>
   simp only[bH,zg,if_true,hr,e];exact h.elim
  |throw m=>
   simp only[bH,zg,if_true,hr,e];exact h.elim
  |exit c=>
   simp only[bH,zg,if_true,hr,e];exact Wo
  |stuck m=>
   simp only[bH,zg,if_true,hr,e];exact Wo
  |unsupported u=>
   cases u with
   |initOrder g=>exact h.elim
   |_=>
    simp only[bH,zg,if_true,hr,e];exact Wo
 |ok n x=>
  have k:=o n x hr;cases n with
  |value y=>
   simp only[bH,zg,if_true,hr,e];exact Jg _ Vb
  |skip=>
   simp only[bH,zg,if_true,hr,e];exact Jg _ Vb
  |enter f a=>
   simp only[bH,zg,if_true,hr,e];exact Jg _<|Uq i (by(split<;>simp))
  |round r f ts a b=>
   simp only[bH,zg,if_true,hr,e];exact Jg _<|Ur i
  |defer d=>
   simp only[bH,zg,if_true,hr,e];exact Jg _ Vb
  |recover=>
   have j:Kd P p cs (match aH fr cs with
     |some (v,callers)=> .go {frame:=fr.finish v,callers,status:= .running,dying:=bN} x
     |none=> .go {frame:=fr.finish .nilIface,callers:=cs,status:= .running,dying:=bN} x):=by
    cases hy:aH fr cs with
    |none=>exact Vb
    |some y=>exact Ed hy
   cases hq:fr.roundOf with
   |none=>
    simp only[bH,zg,if_true,hr,e,hq];exact Jg _ j
   |some r=>
    simp only[bH,zg,if_true,hr,e,hq,l];exact Jg _ j
  |_=>exact k.elim
def YK{p:Zp}(hk:fr.kind≠ .early/\fr.kind≠ .report)(val:Zv)(w:Zy)(a:cs≠[]):
  Kd P p cs (doReturn p bL fr cs bN val w):=by
 cases cs with
 |nil=>exact absurd rfl a
 |cons c l=>
  cases hq:fr.kind with
  |early=>exact absurd hq hk.1
  |report=>exact absurd hq hk.2
  |normal=>simp only[doReturn,hq];exact UB<|.inl ⟨val,rfl⟩
  |wrapped=>simp only[doReturn,hq];exact UB<|.inl ⟨val,rfl⟩
  |deferred=>
   simp only[doReturn,hq];refine UB<|.inr ?_;split;split;exact⟨_,rfl⟩;exact⟨_,rfl⟩;exact⟨c.mode,rfl⟩
def An{p:Zp}(b:Xv P fr)(c:cs≠[])(a:Option Code)(w:Zy):Kd P p cs<|Jw p fr cs a w:=by
 unfold Jw;cases fr.roundOf with
 |none=>
  exact Ec Vb<|Wo
 |some r=>
  dsimp only;refine Jg _ ?_;cases(Instr.endRound r a).run p w with
  |ok v x=>exact YK b.kind v x c
  |halt y x=>exact Wo
def xmo(H:Fit P F X)(N:Sm P X w w)(g:Xv P fr)(v:P.follows .rangeFuncRecover=bL)(S:cs≠[]):
  Kd P (wf P F) cs (bI (wf P F) bL bL fr cs bN w):=by
 have K:=g.items;have E:∀p:Option Code,(∀cs,bI (wf P F) bL bL fr cs bN w=Jw (wf P F) fr cs p w)->
   Kd P (wf P F) cs (bI (wf P F) bL bL fr cs bN w):=fun p h=>by
  rw[h];exact An g S p w
 have M:∀{s:Sem Next},BN P F X s->(∀n x,s.run (wf P F) w= .ok n x->Nx n)->(∀cs,bI (wf P F) bL bL fr cs bN w=bH (wf P F) bL fr cs bN s w)->
   Kd P (wf P F) cs (bI (wf P F) bL bL fr cs bN w):=fun V T h=>by
  rw[h];exact Tf g g.kind.1 v (V.dZ w N) T
 cases hto:fr.todo with
 |nil=>
  refine E bN fun cs=>?_;simp only[bI,hto,Jw,zg];rfl
 |cons it k=>
  rw[hto]at K;have hk:=YU K;have C:=K it<|jo ..;cases it with
  |call d b r s=>exact C.elim
  |extern r a=>exact C.elim
  |inBlock id=>simp only[bI,hto];exact Vb
  |inScope c=>simp only[bI,hto];exact Vb
  |inLoop c=>simp only[bI,hto];exact Vb
  |inRangeFunc r=>exact(by simp only[bI,hto];exact Wo)
  |endRangeFunc r=>
   simp only[bI,hto,zg];refine Jg _ ?_;cases(Instr.endLoop r).run (wf P F) w with
   |ok j w1=>exact Vb
   |halt x w1=>
    cases x with
    |panic y=>exact Vb
    |_=>exact Wo
  |beginRound=>
   have R:B P F X<|fr.roundOf.elim (stuck "beginRound: no round") Instr.beginRound:=by
    cases fr.roundOf with
    |none=>exact ja _
    |some l=>exact YE l
   exact M (s:=fr.roundOf.elim (stuck "beginRound: no round") Instr.beginRound>>=fun _=>pure .skip) (Bl.next<|xp R fun _=>xr _) (fun n x h=>TE h) fun cs=>by simp only[bI,hto]
  |inRegion ops todo=>
   cases todo with
   |nil=>simp only[bI,hto];exact Vb
   |cons i rest=>
    cases hw:((ops[i]?).map (Region.wanted · (yielded ops fr.tmps))).getD bK with
    |false=>simp only[bI,hto,hw];exact Vb
    |true=>
     cases ho:ops[i]?with
     |none=>rw[ho]at hw;cases hw
     |some o=>
      have q:qM P o.op=bL/\(fr.roundOf.isNone|| !AX o.op)=bL:=by
       have z:rT P fr.roundOf.isNone ops=bL:=C;unfold rT at z;rw[qi]at z;have:=z o<|Wk ho;rw[xl]at this;exact this
      have L:fr.oper?=bO o:=by simp only[Frame.oper?,hto,ho]
      refine M (EF H fr.eval o q.1) (fun n x h=>zig H q.1 h) fun cs=>?_;simp only[bI,hto,hw,if_true,stepG.oper,L];split
      rename_i l c v hdf
      exfalso;rw[v,hdf]at q;exact absurd q.2 (by simp[AX]);rfl
  |code c=>
   cases c with
   |skip=>simp only[bI,hto];exact Vb
   |label l=>simp only[bI,hto];exact Vb
   |ret=>
    refine E (bO .ret) fun cs=>?_;simp only[bI,hto,Jw,zg];rfl
   |seq a b=>simp only[bI,hto];exact Vb
   |block id c=>simp only[bI,hto];exact Vb
   |loop c=>simp only[bI,hto];exact Vb
   |scope c=>simp only[bI,hto];exact Vb
   |refuse s=>exact(by simp only[bI,hto];exact Wo)
   |cond c a b=>
    cases hev:fr.eval c with
    |bool t=>simp only[bI,hto,hev];exact Vb
    |_=>exact(by simp only[bI,hto,hev];exact Wo)
   |exit id=>
    cases hx:exitTo id k with
    |some k'=>simp only[bI,hto,hx];exact Vb
    |none=>
     refine E (bO<|.exit id) fun cs=>?_;simp only[bI,hto,hx,Jw,zg];rfl
   |goto r=>
    cases hx:gotoIn r k with
    |some k'=>simp only[bI,hto,hx];exact Vb
    |none=>
     refine E (bO<|.goto r) fun cs=>?_;simp only[bI,hto,hx,Jw,zg];rfl
   |region id ops draw=>
    cases draw with
    |false=>simp only[bI,hto];exact Vb
    |true=>
     simp only[bI,hto];cases hq:(choose<|.order fr.fn id).run (wf P F) w with
     |ok t x=>exact Vb
     |halt y x=>exact Wo
   |rangeFunc f ps a b=>
    simp only[Y3,qn,xl]at C;let fr' (x:Nat×List Deferred):Zf:={fr with todo:= .inRangeFunc x.1::k,defers:=x.2++fr.defers};let cl (x:Nat×List Deferred):Call:={callee:= .value f,args:=#[.const<|.func (.yield x.1) #[] #[]],argTypes:=#[]};let sm (x:Nat×List Deferred):Sem Next:=resolve (fr' x).eval (cl x) 0>>=fun d=>invoke d.target d.args;have e:∀cs,bI (wf P F) bL bL fr cs bN w=GStep.after (seen (wf P F) fr.fn<|(Instr.enterLoop fr.fn fr.tmps ps a b fr.roundOf).events (wf P F) w #[]) (match(Instr.enterLoop fr.fn fr.tmps ps a b fr.roundOf).run (wf P F) w with
      | .ok x w=>bH (wf P F) bL (fr' x) cs bN (sm x) w
      | .halt _ w=> .ended (.stuck "range over a function: no such loop" (fr.pos<|wf P F)) w):=fun cs=>by
     simp only[bI,hto,zg];cases(Instr.enterLoop fr.fn fr.tmps ps a b fr.roundOf).run (wf P F) w with
     |ok x w1=>rfl
     |halt x w1=>rfl
    rw[e];refine Jg _ ?_;cases hq:(Instr.enterLoop fr.fn fr.tmps ps a b fr.roundOf).run (wf P F) w with
    |halt y x=>exact Wo
    |ok x w1=>
     have m:ES P (cl x)=bL:=rfl;obtain⟨Y,W,J⟩:=(YJ (P:=P) (F:=F) (X:=X) fr.fn fr.tmps ps a b fr.roundOf C.1 C.2 g.init).gJ w w #[] N (by rw[hq];trivial);have G:Sm P X w1 w1:=by
      have:=J.sm.self;rw[hq]at this;exact this
     have I:BN P F X<|sm x:=RB (JB _ _ _) (fun w d Z U=>Y4 m U) fun d hd=>AU H _ _ hd;have D:Xv P<|fr' x:=⟨Xp (it:= .inRangeFunc x.1) trivial hk,fun d hd=>by
      rcases Je.1 hd with hd|hd;exact(Km (P:=P) (l:=x.1) (mark:=x.2) hq) d hd;exact g.gI d hd,g.kind,g.init⟩
     refine Tf (fr:=fr' x) D g.kind.1 v (I.dZ w1 G) fun n y h=>?_;obtain⟨d,w2,O,Q⟩:=jm h;exact yE H (Y4 m O) Q
def xto(H:Fit P F X)(l:Sm P X w w)(j:Xv P fr){d:Deferred}(i:Vn P d.target=bL):
  Kd P (wf P F) cs (callDeferred (wf P F) fr cs bN d w):=by
 have o:∀n x,(invoke d.target d.args).run (wf P F) w= .ok n x->Nx n:=fun n x h=>yE H i h;have e:=(AU H d.target d.args i).dZ w l;unfold callDeferred;refine Ec (Wo) ?_;simp only[zg];cases hr:(invoke d.target d.args).run (wf P F) w with
 |halt y x=>
  rw[hr]at e;cases y with
  |panic y=>exact Jg _ Vb
  |blocked=>exact e.elim
  |waiting=>exact e.elim
  |goexit=>exact e.elim
  |fatal m=>exact e.elim
  |throw m=>exact e.elim
  |exit c=>exact Wo
  |stuck m=>exact Wo
  |unsupported u=>
   cases u with
   |initOrder g=>exact e.elim
   |_=>exact Wo
 |ok n x=>
  have k:=o n x hr;cases n with
  |value y=>exact Jg _ Vb
  |skip=>exact Jg _ Vb
  |enter f a=>exact Jg _<|Uq j<|by simp
  |round r f ts a b=>exact Jg _<|Ur j
  |defer d=>exact Jg _ Vb
  |recover=>
   refine Jg _ ?_;dsimp only;cases fr.mode<;>cases hy:aH fr cs<;>first|exact Vb|exact Ed hy
  |_=>exact k.elim
def Rf(H:Fit P F X)(q:Sm P X w w)(f:Xv P fr)(g:cs≠[]):
  Kd P (wf P F) cs (aI (wf P F) bL fr cs bN w):=by
 cases hdf:fr.defers with
 |cons d ds=>
  have hd:=f.gI d (by rw[hdf];exact jo ..);have v:(∀b,d.target≠ .collected b)->Kd P (wf P F) cs (aI (wf P F) bL fr cs bN w):=fun j=>by
   have e:∀cs,aI (wf P F) bL fr cs bN w=callDeferred (wf P F) {fr with defers:=ds} cs bN d w:=fun cs=>by
    unfold aI;rw[hdf];obtain⟨m,n⟩:=d;cases m with
    |collected b=>exact absurd rfl<|j b
    |_=>rfl
   rw[e];have i:Xv P {fr with defers:=ds}:=⟨f.items,fun x t=>f.gI x<|by rw[hdf];exact xj _ t,f.kind,f.init⟩;exact xto H q (fr:={fr with defers:=ds}) i hd
  cases htg:d.target with
  |collected b=>
   have e:∀cs,aI (wf P F) bL fr cs bN w=GStep.after (seen (wf P F) fr.fn<|(Instr.takeDeferred b).events (wf P F) w #[]) (match(Instr.takeDeferred b).run (wf P F) w with
     | .ok calls w=> .go {frame:={fr with defers:=calls++ds},callers:=cs,status:= .running,dying:=bN} w
     | .halt _ w=> .ended (.stuck "the deferred calls of a range-over-func loop have been taken" (fr.pos<|wf P F)) w):=fun cs=>by
    unfold aI;rw[hdf];obtain⟨m,n⟩:=d;cases htg;simp only[zg];cases(Instr.takeDeferred b).run (wf P F) w<;>rfl
   rw[e];refine Jg _ ?_;cases(Instr.takeDeferred b).run (wf P F) w with
   |ok a x=>exact Vb
   |halt y x=>exact Wo
  |_=>exact v fun b e=>by rw[htg]at e;cases e
 |nil=>
  cases hm:fr.mode with
  |run=>simp only[aI,hdf,hm];exact Wo
  |panicking chain=>
   have h:∀p:Zp,fr.catches p=bK:=fun p=>by
    unfold Frame.catches;cases htd:fr.todo with
    |nil=>cases p.funcs[fr.fn]?<;>rfl
    |cons it k=>
     have o:=f.items it (by rw[htd];exact jo ..);cases it with
     |call d b r s=>exact o.elim
     |_=>cases p.funcs[fr.fn]?<;>rfl
   cases cs with
   |nil=>exact absurd rfl g
   |cons c l=>
    simp only[aI,hdf,hm,h];refine UB<|.inr ?_;unfold Frame.raise;split;exact⟨_,rfl⟩;exact⟨_,rfl⟩
  |returning=>
   cases hf:(wf P F).funcs[fr.fn]?with
   |none=>
    simp only[aI,hdf,hm,hf];exact YK f.kind _ w g
   |some fn=>
    simp only[aI,hdf,hm,hf,zg];refine Jg _ ?_;cases(aN fn fr.tmps).run (wf P F) w with
    |ok a x=>exact YK f.kind a x g
    |halt y x=>
     cases y<;>exact Wo
def xom(H:Fit P F X)(h:Sm P X w w)(b:Xv P g.frame)(hd:g.dying=bN)(j:P.follows .rangeFuncRecover=bL)(i:g.callers≠[]):Kd P (wf P F) g.callers<|aZ (wf P F) bL g w:=by
 obtain⟨a,f,st,k,d⟩:=g;cases hd;cases hm:a.mode with
 |run=>
  have e:aZ (wf P F) bL {frame:=a,callers:=f,status:=st,dying:=bN,offers:=d} w=bI (wf P F) bL bL a f bN w:=by simp[aZ,hm]
  rw[e];exact xmo H h b j i
 |returning=>
  have e:aZ (wf P F) bL {frame:=a,callers:=f,status:=st,dying:=bN,offers:=d} w=aI (wf P F) bL a f bN w:=by
   unfold aZ;simp[hm]
  rw[e];exact Rf H h b i
 |panicking c=>
  have e:aZ (wf P F) bL {frame:=a,callers:=f,status:=st,dying:=bN,offers:=d} w=aI (wf P F) bL a f bN w:=by
   unfold aZ;simp[hm]
  rw[e];exact Rf H h b i
end
section
variable {P:aV} {F:Array Func} {X:Nat->Prop}
def Ft(b:Bool)(ops:Array Oper):rT (wf P F) b ops=rT P b ops:=rfl
def Xm:∀(b:Bool) (c:Code),qn (wf P F) b c=qn P b c
 |b,.region i ops d=>rfl
 |b,.seq x y=>by simp only[qn,Xm b x,Xm b y]
 |b,.cond o x y=>by simp only[qn,Xm b x,Xm b y]
 |b,.block i x=>by simp only[qn,Xm b x]
 |b,.loop x=>by simp only[qn,Xm b x]
 |b,.scope x=>by simp only[qn,Xm b x]
 |b,.rangeFunc f ps x y=>by simp only[qn,Xm bK x,Xm bK y]
 |b,.skip=>rfl
 |b,.label _=>rfl
 |b,.ret=>rfl
 |b,.exit _=>rfl
 |b,.goto _=>rfl
 |b,.refuse _=>rfl
def Rv(b:Bool)(it:Item):Y3 (wf P F) b it↔Y3 P b it:=by
 cases it<;>simp only[Y3,Xm,Ft]
def QF(t:Target):Vn (wf P F) t=Vn P t:=by
 cases t<;>rfl
def uT:Xv (wf P F) fr↔Xv P fr:=
 ⟨fun h=>⟨fun b a=>(Rv ..).1<|h.items b a,fun d hd=>by rw[<-QF (F:=F)];exact h.gI d hd,h.kind,h.init⟩,fun h=>⟨fun b a=>(Rv ..).2<|h.items b a,fun d hd=>by rw[QF];exact h.gI d hd,h.kind,h.init⟩⟩
def xqy{o:Option Obj}(h:dL P o):dL (wf P F) o:=
 ⟨h.pend,fun f e d hd=>by rw[QF];exact h.calls f e d hd,fun l e=>by
  obtain⟨a,b,c,d⟩:=h.loop l e;exact⟨by rw[Xm];exact a,by rw[Xm];exact b,fun x g=>by rw[Xm];exact c x g,d⟩⟩
def WH{w v:Zy}(h:Sm P X w v):Sm (wf P F) X w v:=⟨h.size,h.out,h.dead,fun r=>xqy<|h.oks r,h.tape,h.drawn,h.os,h.output,h.pin⟩
def Z0(fr:Zf)(cs:List Zf):Zg:={frame:=fr,callers:=cs,status:= .running,dying:=bN}
def zA(P:Zp)(F:Zc)(X:ZP)(I:Zf->Zy->Prop)(fr:Zf)(w:Zy):Prop:=
 (∀cs,∃o w' es,aZ (wf P F) bL (Z0 fr cs) w= .ended o w' es)\/
 (∃ch,fr.mode= .panicking ch/\fr.defers=[]/\∀p,fr.catches p=bK)\/
 ∃fr' w',(I fr' w'\/Xv P fr')/\fr'.kind=fr.kind/\(∀cs,DD w<|aZ (wf P F) bL<|Z0 fr cs)/\
  (∃es,∀cs,aZ (wf P F) bL (Z0 fr cs) w= .go (Z0 fr' cs) w' es)/\
  ∀v,Sm P X w v->∃v' es,(∀cs,aZ P bL (Z0 fr cs) v= .go (Z0 fr' cs) v' es)/\Af P X v w' v' es
structure zL(P:Zp)(F:Zc)(I:ZP->Zf->Zy->Prop)(Fo:Zc):Prop where
 enter:∀X f a k w,Ys P F f->Mc P f->k≠ .early/\k≠ .report->I X (bF (wf P F) f a k) w
 mc:∀X fr w,I X fr w->Mc P fr.fn
 re:∀X fr w t d,I X fr w->I X fr (re w t d)
 step:∀X fr w,Sm P X w w->I X fr w->zA P F X (I X) fr w
 fit:∀X,Fit (wf P Fo) F X
 codes:pE (wf P Fo) F
 plain:∀f,Ys P F f->¬Mc P f->Ys (wf P Fo) F f
 zO:∀f,¬Mc (wf P Fo) f
structure J0(P:Zp)(F:Zc):Prop where
 fit:∀X,Fit P F X
 fitq:∀X,Fit (wf P F) F X
 codes:pE P F
 two:∀f,F[f]?=P.funcs[f]?\/Ref F f
 ro:P.follows .rangeFuncRecover=bL
 odd:∃I Fo,zL P F I Fo
def J0.plain(K:J0 P F)(h:¬Ref F f):Ys P F f:=⟨(K.two f).resolve_right h,h⟩
def J0.uA(K:J0 P F):pE (wf P F) F:=fun f e=>by
 obtain⟨a,b⟩:=K.codes f<|K.plain e.2;refine⟨a,b.imp ?_ fun b d c g h=>by rw[Xm];exact b d c g h⟩;rintro⟨d,c,i,j,k⟩;exact⟨d,c,by rw[<-i];exact(K.plain e.2).1,j,by rw[Xm];exact k⟩
def xqx{o:Option Obj}(h:dL (wf P F) o):dL P o:=
 ⟨h.pend,fun f e d hd=>by rw[<-QF (F:=F)];exact h.calls f e d hd,fun l e=>by
  obtain⟨a,b,c,d⟩:=h.loop l e;exact⟨by rw[<-Xm (F:=F)];exact a,by rw[<-Xm (F:=F)];exact b,fun x g=>by rw[<-Xm (F:=F)];exact c x g,d⟩⟩
def WG{w v:Zy}(h:Sm (wf P F) X w v):Sm P X w v:=⟨h.size,h.out,h.dead,fun r=>xqx<|h.oks r,h.tape,h.drawn,h.os,h.output,h.pin⟩
def ZR(fr:Zf)(ch:List PanicEntry):∃m,fr.raise ch={fr with mode:=m}:=by
 unfold Frame.raise;split<;>exact⟨_,rfl⟩
def AY{p:Zp}{fr c:Zf}{ch:List PanicEntry}(b:fr.mode= .panicking ch)(hd:fr.defers=[])(a:fr.catches p=bK)(w:Zy):
  aZ p bL (Z0 fr (c::cs)) w= .go (Z0 (c.raise ch) cs) w #[]:=by
 simp[aZ,Z0,aI,b,hd,a]
def gN(p:Zp)(fr:Zf):Prop:=fr.todo=[.code<|.refuse ""]/\fr.defers=[⟨.fn (.method "") #[],#[]⟩]/\fr.kind= .normal/\fr.roundOf=bN/\p.inits.idxOf? fr.fn=bN
def U8(f:FuncId):Zf:={fn:=f,tmps:=#[],todo:=[.code<|.refuse ""],defers:=[⟨.fn (.method "") #[],#[]⟩],mode:= .run,kind:= .normal}
def xqw(h:P.inits.idxOf? f=bN):gN P<|U8 f:=⟨rfl,rfl,rfl,rfl,h⟩
def gN.FV(h:gN P fr):Xv P fr:=by
 obtain⟨b,c,e,g,f⟩:=h;refine⟨fun i a=>?_,fun d hd=>?_, ?_,f⟩;rw[b]at a;simp only[jp]at a;subst a;rfl;rw[c]at hd;simp only[jp]at hd;subst hd;rfl;rw[e];simp
def gN.finish(h:gN P fr)(v:Zv):fr.finish v=fr:=by
 unfold Frame.finish;rw[h.1]
def gN.mode(h:gN P fr)(m:FrameMode):gN P {fr with mode:=m}:=h
def sW(p:Zp)(g:Zg):Prop:=g.dying=bN/\((g.frame.mode= .run/\∃s k,g.frame.todo= .code (.refuse s)::k)\/gN p g.frame)
def ZB{p:Zp}(h:sW p g)(w:Zy):∃o w' es,aZ p bL g w= .ended o w' es:=by
 obtain⟨b,i,st,n,f⟩:=g;obtain⟨hd,h⟩:=h;cases hd;have run:∀s k,b.mode= .run->b.todo= .code (.refuse s)::k->∃o w' es,aZ p bL {frame:=b,callers:=i,status:=st,dying:=bN,offers:=f} w= .ended o w' es:=fun s k d j=>by
  have e:aZ p bL {frame:=b,callers:=i,status:=st,dying:=bN,offers:=f} w=bI p bL bL b i bN w:=by simp[aZ,d]
  rw[e];simp only[bI,j];exact⟨_,_,_,rfl⟩
 rcases h with⟨d,s,k,j⟩|⟨j,l,hk,_⟩;exact run s k d j;have m:b.mode≠ .run->∃o w' es,aI p bL b i bN w= .ended o w' es:=fun d=>by
  unfold aI;rw[l];simp only[callDeferred,zg];have e:(invoke (.fn (.method "") #[]) #[]).run p w= .halt (.stuck "call: a method without a receiver") w:=rfl;rw[e];simp[GStep.after]
 cases d:b.mode with
 |run=>exact run _ _ d j
 |returning=>
  have e:aZ p bL {frame:=b,callers:=i,status:=st,dying:=bN,offers:=f} w=aI p bL b i bN w:=by
   unfold aZ;simp[d]
  rw[e];exact m<|by rw[d];simp
 |panicking c=>
  have e:aZ p bL {frame:=b,callers:=i,status:=st,dying:=bN,offers:=f} w=aI p bL b i bN w:=by
   unfold aZ;simp[d]
  rw[e];exact m<|by rw[d];simp
def Qi{p:Zp}{g g':Zg}{w w':Zy}(h:sW p g):¬jC p g w g' w':=by
 rintro⟨c,e,_⟩;obtain⟨o,w1,b,a⟩:=ZB h w;rw[a]at e;cases e
structure Gd(P:Zp)(F:Zc)(X:ZP)(I:Zf->Zy->Prop)(dm:Zf)(g:Zg)(w:Zy):Prop where
 top:Xv P g.frame\/I g.frame w
 tY:∀c∈g.callers,Xv P c
 sm:Sm (wf P F) X w w
 dy:g.dying=bN
 run:g.status= .running
 off:g.offers=bN
 low:∃l,g.callers=l++[dm]/\Bk g.frame l
variable {dm:Frame} {I:(Nat->Prop)->Frame->World->Prop} {Fo:Array Func}
def Gd.re(a:zL P F I Fo)(h:Gd P F X (I X) dm g w)(t:Nat->Question->Nat)(d:Nat):Gd P F X (I X) dm g<|re w t d:=⟨h.top.imp id<|a.re X _ _ t d,h.tY,h.sm.re t d,h.dy,h.run,h.off,h.low⟩
def Gd.eq(h:Gd P F X (I X) dm g w):g=Z0 g.frame g.callers:=by
 obtain⟨i,e,st,f,d⟩:=g;obtain⟨_,_,_,a,b,c,_⟩:=h;cases a;cases b;cases c;rfl
def Gd.step(K:J0 P F)(E:zL P F I Fo)(r:gN P dm)(h:Gd P F X (I X) dm g w):
  (∃o w' es,aZ (wf P F) bL g w= .ended o w' es)\/∃g' w' es,aZ (wf P F) bL g w= .go g' w' es/\g'.dying=bN/\g'.status= .running/\g'.offers=bN/\(sW P g'\/(Gd P F X (I X) dm g' w'/\qR P F g.callers.length (aZ (wf P F) bL g w))):=by
 obtain⟨l,p,hb⟩:=h.low;have bg:g.callers≠[]:=by rw[p];simp
 rcases h.top with y|hI;rotate_left
 ·
  have hg:=h.eq;have hS:=WG h.sm;rcases E.step X g.frame w hS hI with b|⟨ch,b,C,J⟩|⟨bb,w',b,C,J,⟨es,Z⟩,h5⟩
  left;rw[hg];exact b _;right;cases l with
  |nil=>
   have e:aZ (wf P F) bL g w= .go (Z0 (dm.raise ch) []) w #[]:=by
    rw[hg,p];exact AY b C (J _) w
   refine⟨_,_,_,e,rfl,rfl,rfl,.inl ⟨rfl,.inr ?_⟩⟩;obtain⟨m,R⟩:=ZR dm ch;show gN P<|dm.raise ch;rw[R];exact r.mode m
  |cons c l=>
   have e:aZ (wf P F) bL g w= .go (Z0 (c.raise ch)<|l++[dm]) w #[]:=by
    rw[hg,p];exact AY b C (J _) w
   have bd:Bk c l:=hb;obtain⟨m,R⟩:=ZR c ch;refine⟨_,_,_,e,rfl,rfl,rfl,.inr ⟨⟨.inl<|(h.tY c<|by rw[p];simp).raise _,fun x hx=>h.tY x<|by rw[p];exact xj _ hx,h.sm,rfl,rfl,rfl,l,rfl, ?_⟩,fun H M d i n _=>?_⟩⟩;show Bk (c.raise ch) l;rw[R];exact bd.congr rfl;rw[e]at i;cases i;rw[p]at n;simp only[Z0,zj,zh,jn]at n;omega
  right;have e:aZ (wf P F) bL g w= .go (Z0 bb g.callers) w' es:=by rw[hg];exact Z _
  obtain⟨v1,ba,_,f2⟩:=h5 w hS;refine⟨_,_,_,e,rfl,rfl,rfl,.inr ⟨⟨b.symm,h.tY,WH f2.sm.self,rfl,rfl,rfl,l,p,hb.congr C⟩,fun H M d i n _=>?_⟩⟩;rw[e]at i;cases i;simp only[Z0]at n;omega
 have t:Xv (wf P F) g.frame:=uT.2 y;have be:nP (wf P F) g:=⟨.inr t,fun c q=> .inr (uT.2<|h.tY c q)⟩;rcases xom (P:=wf P F) (F:=F) (K.fitq X) h.sm t h.dy K.ro bg with⟨g',w',es,e,b,C,J,Z,h5,h6,h7⟩|⟨o,w',es,e⟩
 rotate_left;exact .inl ⟨o,w',es,e⟩;have O:aZ (wf P F) bL g w= .go g' w' es:=e;refine .inr ⟨g',w',es,O,b,C,J, ?_⟩;by_cases Q:g'.callers.length=0;left;refine⟨b,.inr ?_⟩;have bf:l=[]:=by
  rw[p]at h6;simp only[zj,jd]at h6;exact xa<|by omega
 subst bf;rcases h5 dm [] (by simpa using p) (by simpa using Q)with⟨v,B⟩|⟨m,B⟩
 rw[B,r.finish];exact r;rw[B];exact r;obtain⟨l',a1,a2,a3⟩:=Bp (P:=wf P F) (F:=F) (cs1:=[dm]) (cs2:=[dm]) (K.fitq X) h.sm t h.dy p hb K.ro (by simp) _ _ _ e b (by simp only[jd];omega);by_cases j:g'.callers.length=g.callers.length+1/\g'.frame.roundOf=bN/\Ref F g'.frame.fn;left;refine⟨b,.inl ?_⟩;obtain⟨W,Y,N⟩:=j;obtain⟨f,a,k,_,B⟩:=Z W Y;rw[B]at N⊢;obtain⟨fn,s,r1,r2,_⟩:=N;have bh:F[f]?=bO fn:=r1;refine⟨rfl,s,[], ?_⟩;simp[bF,show(wf (wf P F) F).funcs[f]?=bO fn from bh,r2];right;have hE:qR (wf P F) F g.callers.length<|aZ (wf (wf P F) F) bL g w:=fun H M d i n L=>by
  rw[e]at i;cases i;exact⟨rfl,fun hr=>j ⟨n,L,hr⟩⟩
 obtain⟨v1,ba,f1,f2⟩:=(LC (En:=True) (P:=wf P F) (F:=F) (K.fitq X) K.uA h.sm be t h.dy fun _=>hE).zN trivial _ _ _ e b;have D:qR P F g.callers.length<|aZ (wf P F) bL g w:=fun H M d i n L=>K.plain fun hr=>j (by
  rw[O]at i;cases i;exact⟨n,L,hr⟩)
 have V:(Xv P g'.frame\/I X g'.frame w')/\∀c∈g'.callers,Xv P c:=by
  by_cases S:g'.callers.length=g.callers.length+1/\g'.frame.roundOf=bN/\Mc P g'.frame.fn;obtain⟨W,Y,N⟩:=S;obtain⟨f,a,k,hk,B⟩:=Z W Y;have U:=D g' w' es O W Y;refine⟨.inr ?_,fun c q=>uT.1<|h7 (fun c q=>uT.2<|h.tY c q) c q⟩;rw[B]at U N⊢;exact E.enter X f a k w' U N hk;have bc:qR (wf P Fo) F g.callers.length<|aZ (wf (wf P Fo) F) bL g w:=fun H M d i n L=>by
   have G:aZ (wf P F) bL g w= .go H M d:=i;refine E.plain _ (D H M d G n L) fun R=>S ?_;rw[O]at G;cases G;exact⟨n,L,R⟩
  have z:Xv (wf P Fo) g.frame:=uT.2 y;have T:=(LC (En:=True) (P:=wf P Fo) (F:=F) (E.fit X) E.codes (WH<|WG h.sm) ⟨.inr z,fun c q=> .inr (uT.2<|h.tY c q)⟩ z h.dy fun _=>bc).ok trivial _ _ _ O b;exact⟨.inl<|uT.1<|T.1.resolve_left<|E.zO _,fun c q=>uT.1<|(T.2 c q).resolve_left<|E.zO _⟩
 exact⟨⟨V.1,V.2,f2.sm.self,b,C,J,l',a1,a2⟩,D⟩
def Gd.loc(K:J0 P F)(z:zL P F I Fo)(B:gN P dm)(h:Gd P F X (I X) dm g w):DD w<|aZ (wf P F) bL g:=by
 rcases h.top with a|y;exact(LC (En:=False) (P:=wf P F) (F:=F) (K.fitq X) K.uA h.sm ⟨.inr<|uT.2 a,fun c p=> .inr (uT.2<|h.tY c p)⟩ (uT.2 a) h.dy fun x=>x.elim).loc;have q:=h.eq;obtain⟨l,C,E⟩:=h.low;rcases z.step X g.frame w (WG h.sm) y with j|⟨ch,j,s,k⟩|⟨v,m,_,_,k,_⟩;intro n m b e _;obtain⟨o,w1,D,r⟩:=j g.callers;have i:aZ (wf P F) bL g w= .go n m b:=e;rw[<-q,i]at r;cases r;have:∃c f,g.callers=c::f:=by
  rw[C];cases l with
  |nil=>exact⟨dm,[],rfl⟩
  |cons c l=>exact⟨c,l++[dm],rfl⟩
 obtain⟨c,f,p⟩:=this;rw[q,p];intro n m b e _;have i:aZ (wf P F) bL (Z0 g.frame (c::f)) w= .go n m b:=e;rw[AY j s (k _) w]at i;cases i;exact⟨ze _,rfl,fun t d _=>⟨#[],by
  show aZ (wf P F) bL (Z0 g.frame (c::f)) (A.re w t d)=_;rw[AY j s<|k _];simp⟩⟩
 rw[q];exact k _
def xlz(K:J0 P F)(f:zL P F I Fo)(b:gN P dm)(k:∀g w t d,End g (re w t d)↔End g w):uW (wf P F) End (fun g w=>Gd P F X (I X) dm g w\/sW P g) where
 dN:=k
 mU g w t d:=⟨fun h=>h.imp (fun h=>by have:=Gd.re f h w.tape w.drawn;rw[vK,KX]at this;exact this) id,fun h=>h.imp (fun h=>Gd.re f h t d) id⟩
 loc g w hI _:=by
  rcases hI with h|h;exact h.loc K f b;intro m n l e;obtain⟨o,w1,j,c⟩:=ZB (p:=wf P F) h w;have i:aZ (wf P F) bL g w= .go m n l:=e;rw[c]at i;cases i
 keep g w m n hI _ hgo:=by
  rcases hI with h|h;obtain⟨l,c,i,s⟩:=hgo;rcases h.step K f b with⟨o,w1,j,a⟩|⟨v,x,q,a,_,_,_,r⟩;rw[c]at a;cases a;rw[c]at a;cases a;exact r.elim .inr fun h=> .inl h.1;exact absurd hgo<|Qi (p:=wf P F) h
def zpr(K:J0 P F)(s:zL P F I Fo)(k:gN P dm){fr':Zf}{cs':List Zf}{w':Zy}(l:End (Z0 fr' cs') w'):
  ∀(n:Nat) (fr:Zf) (cs:List Zf) (w:Zy),runN (wf P F) n (lone fr cs w)= .next (lone fr' cs' w')->(Gd P F X (I X) dm (Z0 fr cs) w\/sW P (Z0 fr cs))->vG (wf P F) End n (Z0 fr cs) w:=by
 intro n;induction n with
 |zero=>
  intro fr cs w h _;simp only[runN,Stepped.next.injEq,lone,Machine.mk.injEq]at h;obtain⟨j,d,_⟩:=h;subst j;simp only[Array.mk.injEq,List.cons.injEq,Goroutine.mk.injEq,and_true]at d;obtain⟨rfl,rfl⟩:=d;exact l
 |succ n ih=>
  intro fr cs w h c;have ended:∀{o w1 b},aZ (wf P F) bL (Z0 fr cs) w= .ended o w1 b->False:=fun {o w1 b} e=>by
   have a:=step_lone_ended (by
    have g:aZ (wf P F) bL {frame:=fr,callers:=cs,status:= .running,dying:=bN} w=_:=e;rw[g];rfl)
   simp only[runN,a]at h;cases h
  rcases c with c|c;rcases c.step K s k with⟨o,w1,b,e⟩|⟨m,w1,b,e,j,d,q,r⟩;exact(ended e).elim;obtain⟨i,f,st,v,t⟩:=m;cases j;cases d;cases q;have a:=step_lone_go (by
   have g:aZ (wf P F) bL {frame:=fr,callers:=cs,status:= .running,dying:=bN} w=_:=e;rw[g];rfl)
  simp only[runN,a]at h;exact .inr ⟨_,w1,⟨b,e,rfl,rfl⟩,ih i f w1 h<|r.elim .inr fun h=> .inl h.1⟩;obtain⟨o,w1,b,e⟩:=ZB (p:=wf P F) c w;exact(ended e).elim
def Lo(Q:Zp)(End:Zg->Zy->Prop)(g:Zg)(w:Zy):Prop:=∀t d,∃n,vG Q End n g<|re w t d
def Ce(e:∀g w t d,End g (re w t d)↔End g w)(a:∀g w,End g w->¬sW P g)(h:Lo (wf P F) End g w):¬sW P g:=by
 intro hd;obtain⟨n,b⟩:=h w.tape w.drawn;cases n with
 |zero=>exact a _ _ b hd
 |succ n=>
  rcases b with b|⟨f,i,c,_⟩;exact a _ _ b hd;exact Qi (p:=wf P F) hd c
variable {J:Nat×Nat->Array Goroutine->World->Trace->Prop}
def lift(K:J0 P F)(s:gN P dm)(Co:BD P X J)(i:∀g w t d,End g (re w t d)↔End g w)(bc:∀g w,End g w->¬sW P g)
(bn:Xv P fr\/∃f a,Ys P F f/\Mc P f/\fr=bF (wf P F) f a .normal)(hk:fr.kind= .normal)(bi:∀t d,∃fr' cs' w',Steps (wf P F) (lone fr [dm]<|re w t d) (lone fr' cs' w')/\End (Z0 fr' cs') w')
  {k:Nat×Nat}{gs:Array Zg}{v:Zy}{sl:Option<|Nat×Nat}{t:Trace}(bm:∀c∈cs,fK P c)(hJ:J k gs v t)(h0:gs[0]?=bO (Z0 fr cs))(hS:Sm P X (re w v.tape v.drawn) v):
  ∃N gs' v' sl' t' k' g' w' g2,runNT P N (crowd gs v sl) t=(.next<|crowd gs' v' sl',t')/\J k' gs' v' t'/\gs'[0]?=bO g2/\End g' w'/\Duo P X [dm] cs g' w' g2 v':=by
 obtain⟨I,Fo,q⟩:=K.odd;have G:Xv P fr\/I X fr w:=bn.imp id fun⟨f,a,b,h,T⟩=>by rw[T];exact q.enter X f a .normal w b h ⟨by simp,by simp⟩
 have H:fK P fr:=G.symm.imp (q.mc X fr w) id;have bk:Sm P X w w:=(hS.self).re w.tape w.drawn;have M:Gd P F X (I X) dm (Z0 fr [dm]) w:=⟨G,fun c E=>by
  simp only[Z0,jp]at E;subst E;exact s.FV,WH bk,rfl,rfl,rfl,[],rfl,hk⟩
 have bd:Lo (wf P F) End (Z0 fr [dm]) w:=fun t d=>by
  obtain⟨fr',cs',w',⟨n,U⟩,hE⟩:=bi t d;exact⟨n,zpr (X:=X) K q s hE n fr [dm] (A.re w t d) U<|.inl<|Gd.re q M t d⟩
 have B:=xlz (X:=X) K q s i;have bj:=(B.bar (.inl M) bd).mB (P:=P) (fun k g w m t=>Lo (wf P F) End g w/\Gd P F X (I X) dm g w/\∃gs v sl g2,m=crowd gs v sl/\J k gs v t/\gs[0]?=bO g2/\Duo P X [dm] cs g w g2 v) (by
  rintro k g w m t ⟨hL,j,gs,v,sl,g2,rfl,hJ,h0,hD⟩ hs;have next:∀t d g' w',jC (wf P F) g (A.re w t d) g' w'->Lo (wf P F) End g' w'/\Gd P F X (I X) dm g' w':=fun t d g' w' y=>by
   have b:=B.next (.inl j) hs hL y;refine⟨b, ?_⟩;rcases B.keep g _ g' w' (.inl<|Gd.re q j t d) (fun x=>hs<|(i ..).1 x) y with h|h
   exact h;exact absurd h<|Ce i bc b
  have p:∀t d,∃g' w',jC (wf P F) g (A.re w t d) g' w'/\[dm].length<=g'.callers.length:=fun t d=>by
   obtain⟨n,U⟩:=hL t d;cases n with
   |zero=>exact absurd ((i ..).1 U) hs
   |succ n=>
    rcases U with U|⟨g',w',b,_⟩;exact absurd ((i ..).1 U) hs;obtain⟨l,Q,_⟩:=(next t d g' w' b).2.low;exact⟨g',w',b,by rw[Q];simp⟩
  have hE:∀t d,qR P F g.callers.length<|aZ (wf P F) bL g<|A.re w t d:=fun t d=>by
   obtain⟨g',w',b,_⟩:=p t d;have h:=next t d g' w' b;obtain⟨es,W,Y,e3⟩:=b;rcases(Gd.re q j t d).step K q s with⟨o,w1,bb,S⟩|⟨g3,w3,bp,S,_,_,_,L⟩
   rw[W]at S;cases S;rcases L with L|L
   rw[W]at S;cases S;exact absurd L<|Ce i bc h.1;exact L.2
  have r:=show∃gs' v' sl' t',runNT P 1 (crowd gs v sl) t=(.next<|crowd gs' v' sl',t')/\
   ((∃k',vV k' k/\J k' gs' v' t'/\gs'[0]?=bO g2/\Duo P X [dm] cs g w g2 v')\/
    ∃tp d g' w' z,jC (wf P F) g (A.re w tp d) g' w'/\J k gs' v' t'/\gs'[0]?=bO z/\Duo P X [dm] cs g' w' z v'/\v.heap.size<=v'.heap.size/\∀x,X x->v'.heap[x]?=v.heap[x]?)from by
   rcases j.top with hF|hI;exact Md (sl:=sl) Co (K.fit X) K.codes K.ro hD hF p hE hJ h0;refine zip Co hD (fun d O=>?_) hJ h0;obtain⟨l,Q,bo,bh⟩:=hD.top;have hb:Bk g.frame l:=by
    rcases bh with⟨b,_⟩|⟨_,b⟩;cases b;exact b
   have C:=j.eq;have e:g2=Z0 g.frame (l++cs):=by
    rw[bo];obtain⟨fr,cs,st,dy,off⟩:=g;cases j.dy;cases j.run;cases j.off;rfl
   obtain⟨g',w',y,bg⟩:=p v.tape d;rcases q.step X g.frame _ O.self (q.re X _ _ _ _ hI)with b|⟨ch,b,h,T⟩|⟨fr',w1,b,h,T,⟨es,h4⟩,L⟩
   obtain⟨o,w1,es,W⟩:=b g.callers;obtain⟨ba,Y,_⟩:=y;rw[<-C,Y]at W;cases W;obtain⟨ba,Y,e3,S⟩:=y;cases l with
   |nil=>
    rw[C,Q]at Y;have e5:aZ (wf P F) bL (Z0 g.frame (dm::[])) (A.re w v.tape d)=_:=AY b h (T _) _;have Z:aZ (wf P F) bL (Z0 g.frame (dm::[])) (A.re w v.tape d)= .go g' w' ba:=Y;rw[e5]at Z;cases Z;simp only[Z0,jn,jd]at bg;omega
   |cons c l=>
    have E:=j.tY c (by rw[Q];simp);have bl:Bk c l:=hb;obtain⟨m,hm⟩:=ZR c ch;have f0:aZ (wf P F) bL g (A.re w v.tape d)= .go (Z0 (c.raise ch)<|l++[dm]) (A.re w v.tape d) #[]:=by
     rw[C,Q];exact AY b h (T _) _
    have be:∀x∈l++[dm],Xv P x:=fun x D=>j.tY x (by rw[Q];exact xj _ D);refine⟨Z0 (c.raise ch)<|l++[dm],A.re w v.tape d,l,v.at d,#[],⟨#[],f0,rfl,rfl⟩,rfl,.inr ⟨by simp, ?_⟩, ?_,.still O,⟨.inr<|E.raise _,fun x D=> .inr (be x D)⟩,⟨.inr<|E.raise _,fun x D=>?_⟩⟩;show Bk (c.raise ch) l;rw[hm];exact bl.congr rfl;rw[e];exact AY b h (T _) _;have R:x∈l++cs:=D;have:=hD.ok2.2 x;rw[e]at this;exact this<|xj _ R
   obtain⟨v1,bb,f1,f2⟩:=L _ O;have f0:aZ (wf P F) bL g (A.re w v.tape d)= .go (Z0 fr' g.callers) w1 es:=by rw[C];exact h4 _
   have bf:fK P fr':=b.imp (q.mc X fr' w1) id;refine⟨Z0 fr' g.callers,w1,l,v1,bb,⟨es,f0,rfl,rfl⟩,Q,.inr ⟨by simp,hb.congr h⟩, ?_,f2,⟨bf,fun x D=> .inr (j.tY x D)⟩,⟨bf,fun x D=>?_⟩⟩;rw[e];exact f1 _;have R:x∈l++cs:=D;have:=hD.ok2.2 x;rw[e]at this;exact this R
  obtain⟨gs',v',sl',t',r1,r2⟩:=r;rcases r2 with⟨k',V,a2,a3,a4⟩|⟨tp,d,g',w',z,V,a2,a3,a4,_⟩
  exact⟨1,_,t',r1,.inl ⟨k',V,hL,j,gs',v',sl',g2,rfl,a2,a3,a4⟩⟩;exact⟨1,_,t',r1,.inr ⟨tp,d,g',w',k,V,(next tp d g' w' V).1,(next tp d g' w' V).2,gs',v',sl',z,rfl,a2,a3,a4⟩⟩)
 obtain⟨N,m',t',g',w',k',r1,r2,_,_,gs',v',sl',g2,rfl,r3,r4,r5⟩:=bj k (crowd gs v sl) t ⟨bd,M,gs,v,sl,Z0 fr cs,rfl,hJ,h0,⟨[],rfl,rfl,.inr ⟨by simp,hk⟩⟩,rfl,rfl,⟨H,fun c E=>by
  simp only[Z0,jp]at E;subst E;exact .inr s.FV⟩,⟨H,bm⟩,hS⟩
 exact⟨N,gs',v',sl',t',k',g',w',g2,r1,r3,r4,r2,r5⟩
end
end
end A
namespace A
open Go Go.Conc
open Go.ConcN (sumTo upd sumTo_upd upd_ne upd_same)
variable [pn:Pn]
section
variable {P:aV} {F:Array Func} {X:Nat->Prop}
def oI(X:ZP)(l:Loc):Prop:=∃a,l= .cell a/\X a.block
def rZ(X:ZP)(l:Loc):Prop:=∃r,l= .obj r/\X r
structure qD(X:ZP)(B:Nat)(t:Trace):Prop where
 clean:∀said,¬Race said t
 known:∀i a,touchAt t i=bO a->a.loc.isMemory=bL->Knows t 0 i\/(oI X a.loc/\a.kind= .atomic)\/(rZ X a.loc/\a.write=bK)
 over:t.HandedOver
 hears:Deaf t 0=0
 seen:∀i a,touchAt t i=bO a->a.loc.low B
def xR(X:ZP)(B:Nat)(e:Event):Prop:=(∀x,(aU e).touch?=bO x->(oI X x.loc->x.kind≠ .plain)/\(rZ X x.loc->x.write=bK)/\x.loc.low B)/\e.loc≠ .mark .disable/\e.loc≠ .mark .enable
def IV{n:Nat}{e:Event}(h:qI X n e){x:Touch}(hx:(aU e).touch?=bO x):x.loc.low n/\(x.loc.isMemory=bL->¬oI X x.loc/\∀r,x.loc= .obj r->X r->x.write=bK):=by
 obtain⟨l,f,g⟩:=e;cases l with
 |cell a=>
  have c:¬X a.block/\a.block<n:=h;simp only[ofEvent_cell0,aR,zp]at hx;subst hx;exact⟨c.2,fun _=>⟨fun⟨b,e,d⟩=>by cases e;exact c.1 d,fun r e=>by cases e⟩⟩
 |obj r=>
  have c:(X r->f=bK)/\r<n:=h;cases f<;>cases g
  simp only[aU,aR,zp]at hx;subst hx;exact⟨c.2,fun _=>⟨fun⟨b,e,d⟩=>(by cases e),fun r e hx=>rfl⟩⟩;simp only[aU,aR,zp]at hx;subst hx;exact⟨c.2,fun _=>⟨fun⟨b,e,d⟩=>(by cases e),fun r e hx=>rfl⟩⟩;simp only[aU,aR,zp]at hx;subst hx;exact⟨c.2,fun _=>⟨fun⟨b,e,d⟩=>(by cases e),fun r e hx=>by cases e;exact c.1 hx⟩⟩;simp[aU,aR]at hx
 |output=>
  simp only[aU,aR,zp]at hx;subst hx;exact⟨trivial,fun h=>by cases h⟩
 |goroutines=>exact h.elim
 |mark m=>cases m<;>first|exact h.elim|simp[aU,aR]at hx
def JF{n:Nat}{e:Event}(h:qI X n e):e.loc≠ .mark .disable/\e.loc≠ .mark .enable/\∀a,e.loc≠ .mark (.release a):=by
 obtain⟨l,c,b⟩:=e;cases l with
 |mark m=>cases m<;>first|exact h.elim|simp
 |_=>simp
def xR.pV{n:Nat}{e:Event}(h:qI X n e):xR X n e:=by
 refine⟨fun x c=>⟨fun b=>?_,fun b=>?_,(IV h c).1⟩,(JF h).1,(JF h).2.1⟩;exact absurd b ((IV h c).2<|by obtain⟨a,e,_⟩:=b;rw[e];rfl).1;obtain⟨r,e,d⟩:=b;exact((IV h c).2<|by rw[e];rfl).2 r e d
section
variable {B B':Nat} {t u:Trace}
def qD.mono(h:qD X B t)(b:B<=B'):qD X B' t:=⟨h.clean,h.known,h.over,h.hears,fun i a c=>Loc.low_mono b<|h.seen i a c⟩
def Zo{i:Nat}{a:Touch}(h:touchAt (t++u) i=bO a):(i<t.size/\touchAt t i=bO a)\/(t.size<=i/\∃op∈u,(t++u)[i]?=bO op/\op.act.touch?=bO a):=by
 obtain⟨x,f,b⟩:=touch_of h;rcases getElem?_append_cases f with⟨c,d⟩|⟨c,e⟩
 exact .inl ⟨c,by rw[touchAt_of d];exact b⟩;exact .inr ⟨c,x,e,f,b⟩
def qD.own(h:qD X B t){fn:FuncId}{pos:String}{es:Array Event}(k:∀e∈es,xR X B e):qD X B<|t++bD 0 fn pos es:=by
 have s:∀d∈bD 0 fn pos es,d.g=0:=fun d c=>by obtain⟨e,_,rfl⟩:=zy c;rfl
 have r:∀d∈bD 0 fn pos es,∀x,d.act.touch?=bO x->(oI X x.loc->x.kind≠ .plain)/\(rZ X x.loc->x.write=bK)/\x.loc.low B:=fun d c x q=>by
  obtain⟨e,p,rfl⟩:=zy c;exact(k e p).1 x q
 refine⟨fun said=>noRace_append (h.clean said) s fun i a n d c b w o=>?_,fun i a n y=>?_,handedOver_app h.over fun d c=> .inl (s d c), ?_,fun i a n=>?_⟩;rcases h.known i a n o.2.1 with hk|⟨m,f⟩|⟨m,f⟩
 exact hk;have l:=(r d c b w).1<|o.1▸m;rcases o.2.2.2 with x|x|⟨_,x,_⟩
 rw[f]at x;cases x;exact absurd x l;rw[f]at x;cases x;have l:=(r d c b w).2.1<|o.1▸m;rcases o.2.2.1 with x|x
 rw[f]at x;cases x;rw[l]at x;cases x;rcases Zo n with⟨_,j⟩|⟨_,d,c,q,_⟩
 exact(h.known i a j y).imp (·.app _) id;have:=knows_own q;rw[s d c]at this;exact .inl this;rw[Deaf_own,deafBehind_still fun e p=>⟨(k e p).2.1,(k e p).2.2⟩];exact h.hears;rcases Zo n with⟨_,j⟩|⟨_,d,c,q,v⟩
 exact h.seen i a j;exact(r d c a v).2.2
def qD.mute(h:qD X B t){g:Nat}(q:g≠0){fn:FuncId}{pos:String}{es:Array Event}(m:∀e∈es,e.mute=bL):qD X B<|t++bD g fn pos es:=by
 have o:∀d∈bD g fn pos es,d.g=g:=fun d c=>by obtain⟨e,_,rfl⟩:=zy c;rfl
 have k:∀d∈bD g fn pos es,d.act.touch?=bN:=fun d c=>by obtain⟨e,p,rfl⟩:=zy c;exact touch_mute<|m e p
 refine⟨fun said=>noRace_append (h.clean said) o fun i a _ d c b n _=>(by rw[k d c]at n;cases n),fun i a l m=>?_,handedOver_app h.over fun d c=> .inr (k d c),(aG t q _ o).trans h.hears,fun i a l=>?_⟩;rcases Zo l with⟨_,j⟩|⟨_,d,c,r,f⟩
 exact(h.known i a j m).imp (·.app _) id;rw[k d c]at f;cases f;rcases Zo l with⟨_,j⟩|⟨_,d,c,r,f⟩
 exact h.seen i a j;rw[k d c]at f;cases f
end
def JL(P:Zp)(X:ZP)(k:Nat×Nat)(gs:Array Zg)(v:Zy)(t:Trace):Prop:=
 ∃q,Leavers P t gs q/\qD X v.heap.size t/\(0,sumTo gs.size q)=k
def J5:BD P X (JL P X) where
 awake k gs v t hJ i g hi hg:=by
  obtain⟨q,f,_⟩:=hJ;exact awake_of<|(f.old i _ hi hg).status.elim .inl fun x=> .inr (.inr x)
 drawn k gs v t d hJ:=hJ
 other k gs v t i g1 g0 sl hJ hpos hi hg1 h0 hrun hdy:=by
  obtain⟨q,f,z,rfl⟩:=hJ;have n:=f.old i g1 hpos hi;have B:(i==0)=bK:=by simp;omega
  have l:i<gs.size:=(za.1 hi).1;cases hqi:q i with
  |zero=>rw[hqi]at n;rw[n.1]at hg1;cases hg1
  |succ k=>
   rw[hqi]at n;rcases n with⟨J,_⟩|⟨_,g',H,K,s,C⟩
   rw[J]at hg1;cases hg1;have o:=runT_crowd_go (P:=P) (sl:=sl) (i:=i) hi (by rw[B];exact s v);have D:((gs.map<|woken P g1 g' v).setIfInBounds i g').size=gs.size:=by simp
   have G:sumTo gs.size (upd q i k)+(k+1)=sumTo gs.size q+k:=by
    have:=sumTo_upd q k id l;simpa[hqi]using this
   refine⟨_,v,sl,_,(0,sumTo gs.size<|upd q i k),o,.right _<|by omega, ?_,⟨upd q i k,⟨fun j x b p=>?_,fun j b=>?_⟩,z.mute (by omega) K,by rw[D]⟩,fun w h=>h⟩;have m:i≠0:=by omega
   rw[zd m,jj,h0];simp[woken_run hrun];by_cases c:i=j;subst c;rw[zx<|by simpa using l]at p;obtain rfl:=jf p;rw[upd_same,Deaf_own];exact C;rw[zd c,jj]at p;obtain⟨y,E,rfl⟩:=zt.1 p;have r:=f.old j y b E;rw[woken_quitsD r,upd_ne q k<|Ne.symm c,aG t c _ fun F a=>by obtain⟨e,_,rfl⟩:=zy a;rfl];exact r;rw[aG t (g':=i) (by simp at b;omega) _ fun F a=>by obtain⟨e,_,rfl⟩:=zy a;rfl];exact f.above j<|by simpa using b
 own k gs v t g0 g' v' H hJ h0 hst hrun hrun' hk hes hg:=by
  obtain⟨q,f,z,rfl⟩:=hJ;have l:0<gs.size:=(za.1 h0).1;refine⟨q,⟨fun j x b p=>?_,fun j b=>?_⟩,(z.mono hg).own fun e I=> .pV (hes e I),by simp⟩;have m:0≠j:=by omega
  rw[zd m,jj]at p;obtain⟨y,E,rfl⟩:=zt.1 p;have n:=f.old j y b E;rw[woken_quitsD n,aG t (by omega) _ fun F a=>by obtain⟨e,_,rfl⟩:=zy a;rfl];exact n;rw[aG t (g':=0) (by simp at b;omega) _ fun F a=>by obtain⟨e,_,rfl⟩:=zy a;rfl];exact f.above j<|by simpa using b
end
end A
namespace A
open Go Go.Conc
variable [pn:Pn]
section
variable {w:Zy} {g:Zg} {cs:List Zf}
section
variable {P:aV} {F:Array Func} {X:Nat->Prop} {dm:Frame} {G G':Goroutine->World->Prop}
structure vR(P:Zp)(X:ZP)(g:Zg)(w:Zy)(m:Machine)(t:Trace):Prop where
 crowd:∃gs v sl k,m=Conc.crowd gs v sl/\gs[0]?=bO g/\JL P X k gs v t/\Sm P X (re w v.tape v.drawn) v
 ok:nP P g
 run:g.status= .running
 dy:g.dying=bN
def RX(P:Zp)(g:Zg)(w:Zy)(G:Zg->Zy->Prop):Prop:=
 ∀X m t,vR P X g w m t->∃N m' t' X' g' w',runNT P N m t=(.next m',t')/\(∀x,X x->X' x)/\vR P X' g' w' m' t'/\G g' w'
theorem RX.refl(h:G g w):RX P g w G:=fun X m t a=>⟨0,m,t,X,g,w,rfl,fun _ h=>h,a,h⟩
def RX.trans(h:RX P g w G)(k:∀g' w',G g' w'->RX P g' w' G'):RX P g w G':=fun X m t r=>by
 obtain⟨N,v,z,b,p,w1,d,e,f,i⟩:=h X m t r;obtain⟨a,y,B,c,q,C,j,l,n,o⟩:=k p w1 i b v z f;exact⟨N+a,y,B,c,q,C,ql d j,fun x s=>l x<|e x s,n,o⟩
def RX.mono(h:RX P g w G)(k:∀g' w',G g' w'->G' g' w'):RX P g w G':=h.trans fun g' w' a=> .refl (k g' w' a)
def vR.re{m:Machine}{t:Trace}(h:vR P X g w m t)(tp:Nat->Question->Nat)(d:Nat):vR P X g (re w tp d) m t:=⟨h.crowd,h.ok,h.run,h.dy⟩
def RX.re{tp:Nat->Question->Nat}{d:Nat}(h:RX P g (A.re w tp d) G):RX P g w G:=fun X m t a=>h X m t<|a.re tp d
def RX.lift(K:J0 P F)(j:gN P dm){End:Zg->Zy->Prop}(n:∀g w t d,End g (A.re w t d)↔End g w)(i:∀g w,End g w->¬sW P g)
  {fr:Zf}(s:¬Mc P fr.fn)(hk:fr.kind= .normal)(b:∀t d,∃fr' cs' w',Steps (wf P F) (lone fr [dm]<|A.re w t d) (lone fr' cs' w')/\End (Z0 fr' cs') w'):
  RX P (Z0 fr cs) w (fun g2 w'=>∃g' l,End g' w'/\g'.callers=l++[dm]/\g2={g' with callers:=l++cs}):=by
 rintro X m t ⟨⟨H,v,sl,k,rfl,q,r,x⟩,a,_,_⟩;obtain⟨N,f,G,o,E,y,g',w',g2,z,B,C,D,c⟩:=A.lift (sl:=sl) K j J5 n i (.inl<|a.1.resolve_left s) hk b a.2 r q x;obtain⟨l,p,e,_⟩:=c.top;exact⟨N,_,E,X,g2,w',z,fun _ h=>h,⟨⟨f,G,o,y,rfl,C,B,c.sm⟩,c.ok2,by rw[e];exact c.run,by rw[e];exact c.dy⟩,g',l,D,p,e⟩
def RX.move{g g':Zg}{es:Array Event}(h:∀v,aZ P bL g v= .go g' v es)(K:nP P g->nP P g')(hr:g'.status= .running)(hd:g'.dying=bN)(H:∀(X:ZP) (n:Nat),∀e∈es,xR X n e):RX P g w fun g1 w1=>g1=g'/\w1=w:=by
 rintro X m t ⟨⟨c,v,sl,k,rfl,s,O,Z⟩,ok,b,G⟩;induction k using BO.induction generalizing c v sl t with
 |_ k ih=>
  have F:∀g∈c,awake g:=by
   intro g1 l;obtain⟨i,o,rfl⟩:=Z1.1 l;rcases jl i with rfl|a
   have:c[0]=g:=by simpa[xg o]using s
   rw[this];exact awake_of<|.inl b;exact J5.awake k c v t O i _ a<|xg o
  obtain⟨i,g1,d,f,o,l,C⟩:=crowd_pick (P:=P) (w:=v) (sl:=sl) F ⟨0,g,s,b⟩;have z:=J5.drawn k c v t d O;have B:Sm P X (A.re w v.tape d)<|v.at d:=Z.re v.tape d;rcases jl i with rfl|a
  obtain rfl:g1=g:=by rw[s]at o;exact(jf o).symm
  have r:=runT_crowd_go (P:=P) (sl:=f) (i:=0) o (show aZ P (0==0) g1 (v.at d)=_ from h<|v.at d);have I:0<c.size:=(za.1 s).1;obtain⟨q,Q,Y,rfl⟩:=z;refine⟨1,crowd ((c.map<|woken P g1 g'<|v.at d).setIfInBounds 0 g') (v.at d) f,t++bD 0 g1.frame.fn g1.frame.place es,X,g',w,by simp only[runNT,C,r],fun _ h=>h,⟨⟨(c.map<|woken P g1 g'<|v.at d).setIfInBounds 0 g',v.at d,f,(0,ConcN.sumTo c.size q),rfl,by simp[I],⟨q,⟨fun j x D S=>?_,fun j D=>?_⟩, ?_,by simp⟩,B⟩,K ok,hr,hd⟩,rfl,rfl⟩;have J:0≠j:=by omega
  rw[zd J,jj]at S;obtain⟨y,hy,rfl⟩:=zt.1 S;have R:=Q.old j y D hy;rw[woken_quitsD R,aG t (by omega) _ fun op p=>by obtain⟨e,_,rfl⟩:=zy p;rfl];exact R;rw[aG t (g':=0) (by simp at D;omega) _ fun op p=>by obtain⟨e,_,rfl⟩:=zy p;rfl];exact Q.above j (by simpa using D);exact Y.own<|H _ _;obtain⟨E,v',M,L,k',r1,r2,r3,r4,r5⟩:=J5.other k c (v.at d) t i g1 g f z a o l s b G;obtain⟨N,m',t',T,W,w2,U,V⟩:=ih k' r2 (t++L) E v' M r3 r4<|r5 w B;exact⟨1+N,m',t',T,W,w2,ql (by simp only[runNT,C,r1]) U,V⟩
end
section
variable {P:aV} {F:Array Func} {X:Nat->Prop} {dm:Frame} {G G':Goroutine->World->Prop}
def RX.one(K:J0 P F)(R:¬Mc P g.frame.fn)(e:∀X,Sm P X w w->∀t d,(∃g' w',jC (wf P F) g (A.re w t d) g' w'/\G g' w')/\qR P F g.callers.length (aZ (wf P F) bL g<|A.re w t d)):RX P g w G:=by
 rintro X m t ⟨⟨M,v,sl,k,rfl,O,Q,x⟩,r,i,q⟩;have c:Sm P X w w:=x.self.re w.tape w.drawn;induction k using BO.induction generalizing M v sl t with
 |_ k ih=>
  obtain⟨f,B,j,z,y,U⟩:=Md (sl:=sl) (cs1:=[]) (cs2:=[]) J5 (K.fit X) K.codes K.ro (g:=g) (g2:=g) (w:=w) ⟨⟨g.callers,by simp,by simp,.inl ⟨rfl,rfl⟩⟩,i,q,r,r,x⟩ (r.1.resolve_left R)
   (fun t d=>by obtain⟨⟨g',w',a,_⟩,_⟩:=e X c t d;exact⟨g',w',a,by simp⟩) (fun t d=>(e X c t d).2) Q O
  rcases U with⟨S,n,o,p,b⟩|⟨W,d,g',w',g2,n,o,p,b,_⟩;obtain⟨N,T,V,C,g2,Y,D,E⟩:=ih S n z f B j p o b.sm;exact⟨1+N,T,V,C,g2,Y,ql y D,E⟩;obtain⟨⟨L,w1,H,I⟩,_⟩:=e X c W d;obtain⟨rfl,rfl⟩:=H.same n;obtain⟨l,s,J,_⟩:=b.top;have:g2=L:=by
   rw[J,Xq];rw[Xq]at s;rw[<-s]
  subst this;exact⟨1,_,z,X,g2,w1,y,fun _ h=>h,⟨⟨f,B,j,k,rfl,p,o,b.sm⟩,b.ok2,b.run,b.dy⟩,I⟩
def zK(P:Zp)(F:Zc)(fr:Zf)(w:Zy)(e:Ending):Prop:=e≠ .outgrown/\∃t d,fr.leaving (wf P F) (re w t d) e
def CX(P:Zp)(F:Zc)(f:FuncId)(args:Za)(w:Zy)(R:Ending->Zy->Prop):Prop:=
 ∀cs,RX P (Z0 (bF P f args .normal) cs) w fun g' w'=>∃e fr,R e w'/\g'=Z0 fr cs/\fr.fn=f/\zK P F fr w' e
def CX.mono{f:FuncId}{args:Za}{R R':Ending->Zy->Prop}(h:CX P F f args w R)(k:∀e w',R e w'->R' e w'):CX P F f args w R':=
 fun c=>(h c).mono fun g w' ⟨e,d,a,b⟩=>⟨e,d,k _ _ a,b⟩
def CX.jL(K:J0 P F)(r:gN P dm){f:FuncId}{args:Za}{R:(Nat->Question->Nat)->Nat->Ending->Zy->Prop}(D:Ys P F f)(z:¬Mc P f)(x:∀t d w',¬R t d .outgrown w')
  (h:∀t d,bE (wf P F) f args (re w t d)<|R t d):CX P F f args w fun e w'=>∃t d t1 d1,R t d e<|re w' t1 d1:=by
 intro cs;have C:∀p,(bF p f args .normal).fn=f:=fun _=>rfl;have B:bF (wf P F) f args .normal=bF P f args .normal:=zdt D.1 args .normal;refine(RX.lift (fr:=bF P f args .normal) (cs:=cs) (w:=w) (dm:=dm) K r
  (End:=fun m w'=>∃e fr t d t1 d1,R t d e (A.re w' t1 d1)/\e≠ .outgrown/\m=Z0 fr [dm]/\fr.fn=f/\fr.leaving (wf P F) (A.re w' t1 d1) e) (fun m w' t d=>Iff.rfl) ?_ z rfl ?_).mono ?_
 rintro m w' ⟨e,fr,t,d,t1,d1,_,i,rfl,_,k⟩ ⟨_,hd⟩;cases e with
 |outgrown=>exact i rfl
 |returned v=>
  obtain⟨a,b,_⟩:=k;rcases hd with⟨j,_⟩|⟨_,j,_⟩
  have g:fr.mode= .run:=j;rw[a]at g;cases g;have g:fr.defers=[_]:=j;rw[b]at g;cases g
 |panicked c=>
  obtain⟨a,b,_⟩:=k;rcases hd with⟨j,_⟩|⟨_,j,_⟩
  have g:fr.mode= .run:=j;rw[a]at g;cases g;have g:fr.defers=[_]:=j;rw[b]at g;cases g
 intro t d;obtain⟨e,w',fr,n,o,s,k⟩:=h t d [dm];rw[B]at o;have i:e≠ .outgrown:=by rintro rfl;exact x _ _ _ n
 refine⟨fr,[dm],w', ?_,e,fr,t,d,w'.tape,w'.drawn,n,i,rfl,s,k⟩;cases e with
 |outgrown=>exact absurd rfl i
 |returned v=>exact o
 |panicked c=>exact o
 rintro E w' ⟨m,l,⟨e,fr,t,d,t1,d1,n,i,rfl,s,k⟩,q,rfl⟩;have:l=[]:=by
  have y:[dm]=l++[dm]:=q;have:=congrArg List.length y;simp only[zj,jd]at this;exact xa<|by omega
 subst this;exact⟨e,fr,⟨t,d,t1,d1,n⟩,rfl,s,i,t1,d1,k⟩
def Oo{fn:Func}{ts:Za}{v:Zv}(b:Sm P X w w){t0:Nat->Question->Nat}{d0:Nat}(h:(aN fn ts).run (wf P F) (re w t0 d0)= .ok v (re w t0 d0))(t:Nat->Question->Nat)(d:Nat):
  (aN fn ts).run (wf P F) (re w t d)= .ok v (re w t d):=by
 have a:=(QM (P:=P) (F:=F) (X:=X) fn ts).loc (re w t0 d0) (b.re t0 d0) (by rw[h];trivial);rw[h]at a;have:=a.2.2 t d (fun i q c=>by
  have:(re w t0 d0).drawn-(re w t0 d0).drawn=0:=V9 _;have f:i<(re w t0 d0).drawn-(re w t0 d0).drawn:=c;omega)
 have e:(re w t0 d0).drawn-(re w t0 d0).drawn=0:=V9 _;rw[vK]at this;rw[this];show Result.ok v (re (re w t0 d0) t<|d+((re w t0 d0).drawn-(re w t0 d0).drawn))=_;rw[e];rfl
def RX.ret(K:J0 P F){fr c:Zf}{v:Zv}(n:¬Mc P fr.fn)(h:zK P F fr w<|.returned v):RX P (Z0 fr (c::cs)) w fun g' w'=>∃t d,g'=Z0 (c.finish v) cs/\w'=A.re w t d:=by
 obtain⟨_,r,q,f,g,i,fn,j,k⟩:=h;refine RX.one K n fun X o t d=>?_;have m:=Oo o k t d;have e:∃a,aZ (wf P F) bL (Z0 fr (c::cs)) (A.re w t d)= .go (Z0 (c.finish v) cs) (A.re w t d) a:=by
  simp only[aZ,Z0,aI,doReturn,f,g,i,j,zg,m];exact⟨_,rfl⟩
 obtain⟨a,e⟩:=e;refine⟨⟨_,_,⟨a,e,rfl,rfl⟩,t,d,rfl,rfl⟩,fun g' w' l b p=>?_⟩;rw[e]at b;cases b;simp only[Z0,zh]at p;omega
def RX.raise{fr c:Zf}{chain:List PanicEntry}(h:zK P F fr w<|.panicked chain)(a:∃fn,P.funcs[fr.fn]?=bO fn):RX P (Z0 fr (c::cs)) w fun g' w'=>g'=Z0 (c.raise chain) cs/\w'=w:=by
 obtain⟨_,i,g,e,f,_⟩:=h;obtain⟨fn,a⟩:=a;refine RX.move (es:=#[]) (fun v=>?_) (fun b=>⟨(b.2 c<|by simp[Z0]).raise _,fun x d=>b.2 x<|by simp[Z0]at d⊢;exact .inr d⟩) rfl rfl (by simp);simp[aZ,Z0,aI,Frame.catches,e,f,a]
end
end
end A
namespace A
open Go
variable [pn:Pn]
section
variable {α β:Type} {P:aV} {F:Array Func} {X:Nat->Prop}
def US(t:Zt)(r:Nat):B P F X<|Extern.MapsClone.clone #[.iface t<|.map<|bO r]:=by
 show B P F X (getObj r>>=fun o=>match o with
  | .map entries clock=>newObj (.map entries clock)>>=fun x=>(pure (Value.iface t<|Value.map<|bO x):Sem Zv)
  |_=>stuck "maps.clone: a map expected")
 refine yP (fun o f b=>?_) fun o b w=>?_;split;exact xp (xH _ ⟨fun c e h=>(by cases h),fun d h=>(by cases h),fun l h=>(by cases h)⟩) fun _=>xr _;exact ja _;cases o<;>first|(cases b;done)|exact⟨id,trivial⟩
def Tr(a:Za):B P F X<|Extern.MapsClone.clone a:=by
 obtain⟨l⟩:=a
 match l with
 |[]=>exact ja _
 |_::_::_=>exact ja _
 |[x]=>
  cases x with
  |iface t y=>
   cases y with
   |map r=>
    cases r with
    |none=>exact Jk _ trivial
    |some r=>exact US t r
   |_=>exact ja _
  |_=>exact ja _
def GO(n:String):B P F X<|cutType n:=by
 unfold cutType;refine Xc rfl ?_;split;exact xr _;exact ja _
def t6(t:Zt):B P F X<|Extern.Rtype.handle t:=by
 unfold Extern.Rtype.handle;exact Xc rfl<|xr _
def zzl(h:Zv):B P F X<|Extern.Rtype.ofHandle h:=by
 unfold Extern.Rtype.ofHandle;refine Xc rfl ?_;split;exact xr _;exact ja _
def B6(a:Za):B P F X<|Extern.ReflectliteType.typeOf a:=by
 obtain⟨l⟩:=a
 match l with
 |[]=>exact ja _
 |_::_::_=>exact ja _
 |[x]=>
  cases x with
  |nilIface=>exact xr _
  |iface t y=>
   show B P F X<|Extern.ReflectliteType.toType t;unfold Extern.ReflectliteType.toType;exact xp (GO _) fun _=>xp (t6 _) fun _=>xr _
  |_=>exact ja _
def t9(s:String)(t:Zt):B P F X<|Extern.Rtype.noPack s t:=by
 unfold Extern.Rtype.noPack;refine Xc ?_<|Yo (Jk _ trivial)<|xr _;simp only[Gc]
def ztu(s:String)(t:Zt):B P F X<|Extern.Rtype.noPackHeld s t:=by
 unfold Extern.Rtype.noPackHeld;refine Xc ?_<|Xc ?_<|Yo (Jk _ trivial)<|xr _;funext;simp only[AB];simp only[AB,Y8]
def GW(r:Zv):B P F X<|Extern.ReflectliteType.ofRtype r:=by
 cases r with
 |agg a=>
  obtain⟨l⟩:=a
  match l with
  |[]=>exact ja _
  |_::_::_=>exact ja _
  |[h]=>exact xp (zzl h) fun t=>xp (t9 _ t) fun _=>xr _
 |_=>exact ja _
def ID(f:Zt->Sem Zv)(b:∀t,B P F X<|f t)(a:Za):B P F X<|Extern.ReflectliteType.method f a:=by
 obtain⟨l⟩:=a
 match l with
 |[]=>exact ja _
 |_::_::_=>exact ja _
 |[r]=>exact xp (GW r) b
def ztp(a:Za):B P F X<|Extern.ReflectliteType.method (fun t=>do Extern.Rtype.noPackHeld "Comparable" t;pure (.bool (<-typeInfo t).comparable)) a:=
 ID _ (fun t=>xp (ztu _ t) fun _=>xp (vH t) fun _=>xr _) a
def ztt(e f:Array Zt)(a:Za):B P F X<|Extern.BytealgMakeNoZero.makeNoZero e f a:=by
 obtain⟨l⟩:=a
 match l with
 |[]=>exact ja _
 |_::_::_=>exact ja _
 |[x]=>
  cases x with
  |int k n=>
   cases k with
   |i64=>
    have c:∀b,B P F X<|choose (.appendCap n.toNat 0 b)>>=fun d=>askRoom d>>=fun _=>choose (.extern "internal/bytealg.MakeNoZero.bytes" 0)>>=fun bytes=>newRow b (Extern.BytealgMakeNoZero.digits d bytes #[])>>=fun a=>(pure (Value.slice (bO a) n.toNat d):Sem Zv):=fun b=>
     xp (Yy _) fun _=>xp (R7 _) fun _=>xp (Yy _) fun _=>xp (dP.2.2.1 _ _) fun _=>xr _
    unfold Extern.BytealgMakeNoZero.makeNoZero;dsimp only;split;refine xp (Ya _) fun u=>?_;split;exact Yo (xp (mI _) fun _=>c _)<|c _;exact ja _;exact ja _
   |_=>exact ja _
  |_=>exact ja _
end
end A
namespace A
open Go Go.Conc
section
variable {i:Nat} {f:Func}
def xw0:List Nat:=[0,1,2,106,167,168,171,213,215,216,217,219,220,221,222,223,224,225,228,230,255,256,257,258,259,309,310,311,312,313,314,315,316,317,318,319,320,321,322,323,326,327,328,329,331,332,333,334,335,336,337,338,339,340,341,343,344,345,346,347,348]
def kJ(i:Nat):Bool:=xw0.contains i
def vC(f:Func):Func:={f with body:=bO<|.refuse ""}
def vB(i:Nat)(f:Func):Func:=if kJ i then vC f else f
noncomputable def Tryq.funcs:Zc:=Tryz.prog.funcs.mapIdx vB
noncomputable def Tryq.prog:Zp:=wf bM Tryq.funcs
def zx8:Tryq.prog.funcs=Tryq.funcs:=by kernel_rfl
def zuz:Tryq.prog.toTables=Tryz.prog.toTables:=by kernel_rfl
def vP(i:Nat):Tryq.funcs[i]?=(Tryz.prog.funcs[i]?).map (vB i):=by
 unfold Tryq.funcs;simp
def MK(h:kJ i=bK)(a:Tryz.prog.funcs[i]?=bO f):Tryq.prog.funcs[i]?=bO f:=by
 rw[zx8,vP,a];simp only[js,vB,h,xu,if_false]
def xut(h:kJ i=bK)(e:Tryz.prog.funcs[i]?=bO f)(g:(f.name== "runtime.NumGoroutine")=bK)(a:f.body.isNone=bK)(args:Za)(w:Zy):(callFunc i args).run Tryq.prog w= .ok (.enter i args) w:=by
 have b:¬f.name= "runtime.NumGoroutine":=by simpa using g
 have d:=MK h e;cases hb':f.body with
 |none=>rw[hb']at a;cases a
 |some c=>simp[callFunc,d,b,hb']
def Au(h:kJ i=bL)(a:Tryz.prog.funcs[i]?=bO f)(b:(f.name== "runtime.NumGoroutine")=bK):Ref Tryq.funcs i:=⟨vC f,"",by rw[vP,a];simp[vB,h],rfl,b⟩
def xob:Tryz.prog.funcs.size=350:=by kernel_rfl
def Dz(f:Func):Bool:=!(f.name== "runtime.NumGoroutine")
noncomputable def FR(i:Nat):Bool:=match Tryz.prog.funcs[i]?with
 |none=>bL
 |some fn=>Dz fn&&(kJ i||match fn.body with
  |none=>i==71||i==150||i==209||i==251||i==330
  |some c=>i==160||qn bM bL c)
def Of:(List.range 350).all FR=bL:=by kernel_rfl
def S_(h:i<350):FR i=bL:=PY.1 Of i<|List.mem_range.2 h
def zuc(h:Tryz.prog.funcs[i]?=bO f):i<350:=by
 have:=(za.1 h).1;rwa[xob]at this
def KR(h:Tryz.prog.funcs[i]?=bO f):(f.name== "runtime.NumGoroutine")=bK:=by
 have:=S_<|zuc h;unfold FR at this;rw[h]at this;simp only[Dz,xl,Bool.not_eq_true']at this;exact this.1
def Ay{c:Code}(h:Tryz.prog.funcs[i]?=bO f)(a:kJ i=bK)(d:i≠160)(b:f.body=bO c):qn bM bL c=bL:=by
 have:=S_<|zuc h;unfold FR at this;rw[h]at this;simp only[a,b,xl,Bool.false_or,Yk,Ju,d,false_or]at this;exact this.2
def xnl(h:Tryz.prog.funcs[i]?=bO f)(a:kJ i=bK)(b:f.body=bN):i=71\/i=150\/i=209\/i=251\/i=330:=by
 have:=S_<|zuc h;unfold FR at this;rw[h]at this;simp only[a,b,xl,Bool.false_or,Yk,Ju]at this;omega
def Ck{fn:Func}(h:Tryq.funcs[i]?=bO fn):∃f,Tryz.prog.funcs[i]?=bO f/\((kJ i=bL/\fn=vC f)\/(kJ i=bK/\fn=f)):=by
 rw[vP]at h;obtain⟨f,a,rfl⟩:=zt.1 h;refine⟨f,a, ?_⟩;unfold vB;cases hb:kJ i<;>simp
def Em{fn:Func}(h:Tryq.funcs[i]?=bO fn)(b:fn.body.isNone=bL):(i=71/\fn=Tryz.f71)\/(i=150/\fn=Tryz.f150)\/(i=209/\fn=Tryz.f209)\/(i=251/\fn=Tryz.f251)\/(i=330/\fn=Tryz.f330):=by
 obtain⟨f,a,⟨_,rfl⟩|⟨c,rfl⟩⟩:=Ck h;simp[vC]at b;have d:fn.body=bN:=by simpa using b
 rcases xnl a c d with rfl|rfl|rfl|rfl|rfl;rw[Tryz.func71]at a;cases a;exact .inl ⟨rfl,rfl⟩;rw[Tryz.func150]at a;cases a;exact .inr<|.inl ⟨rfl,rfl⟩;rw[Tryz.func209]at a;cases a;exact .inr<|.inr<|.inl ⟨rfl,rfl⟩;rw[Tryz.func251]at a;cases a;exact .inr<|.inr<|.inr<|.inl ⟨rfl,rfl⟩;rw[Tryz.func330]at a;cases a;exact .inr<|.inr<|.inr<|.inr ⟨rfl,rfl⟩
def pC:Extern.find Tryz.f71=bO Extern.MapsClone.clone:=by kernel_rfl
def xxo:Extern.find Tryz.f150=bO Extern.ReflectliteType.typeOf:=by kernel_rfl
def xxp:Extern.find Tryz.f251=bO (Extern.BytealgMakeNoZero.makeNoZero Tryz.f251.params Tryz.f251.resultTypes):=by kernel_rfl
def xxq:Extern.find Tryz.f330=bO (Extern.ReflectliteType.method fun t=>do Extern.Rtype.noPackHeld "Comparable" t;pure (.bool (<-typeInfo t).comparable)):=by kernel_rfl
def Io:Extern.find Tryz.f209=bO Extern.AbiNoEscape.same:=by kernel_rfl
def n71:Extern.findNext Tryz.f71=bN:=by kernel_rfl
def xxb:Extern.findNext Tryz.f150=bN:=by kernel_rfl
def Gt:Extern.findNext Tryz.f209=bN:=by kernel_rfl
def xxc:Extern.findNext Tryz.f251=bN:=by kernel_rfl
def xxd:Extern.findNext Tryz.f330=bN:=by kernel_rfl
end
end A
namespace A
open Tryq Go Go.Conc
section
variable (P:aV) (F:Array Func) (t:TypeId) (w:World)
def YP:(typeInfo t).run (wf P F) w=(typeInfo t).run P w:=by
 unfold typeInfo;simp[go_sem,BG];cases P.info? t<;>simp[go_sem]
def AK:(sizeOf t).run (wf P F) w=(sizeOf t).run P w:=by
 unfold sizeOf;simp[go_sem,YP]
def Sv:(underlying t).run (wf P F) w=(underlying t).run P w:=by
 unfold underlying;simp[go_sem,Jz];cases P.underlying t<;>simp[go_sem]
def i8:(isAgg t).run (wf P F) w=(isAgg t).run P w:=by
 unfold isAgg;simp[go_sem,Sv];cases(underlying t).run P w with
 |ok d w'=>cases d<;>simp[go_sem]
 |halt h w'=>simp[go_sem]
def Is:(zeroValue t).run (wf P F) w=(zeroValue t).run P w:=by
 unfold zeroValue;simp[go_sem,YP];cases(typeInfo t).run P w with
 |ok d w'=>cases h:d.zero<;>simp[go_sem,h]
 |halt h w'=>simp[go_sem]
end
@[simp]def Tryq.CY:prog.toTables=Tryz.prog.toTables:=zuz
@[simp]def Tryq.cK(t:Zt):prog.underlying t=Tryz.prog.underlying t:=by
 unfold prog;exact Jz bM funcs t
@[simp]def Tryq.zS(t:Zt)(w:Zy):(typeInfo t).run prog w=(typeInfo t).run bM w:=by
 unfold prog;exact YP bM funcs t w
@[simp]def Tryq.uM(t:Zt)(w:Zy):(sizeOf t).run prog w=(sizeOf t).run bM w:=by
 unfold prog;exact AK bM funcs t w
@[simp]def Tryq.zR(t:Zt)(w:Zy):(underlying t).run prog w=(underlying t).run bM w:=by
 unfold prog;exact Sv bM funcs t w
@[simp]def Tryq.wE(t:Zt)(w:Zy):(isAgg t).run prog w=(isAgg t).run bM w:=by
 unfold prog;exact i8 bM funcs t w
@[simp]def Tryq.zT(t:Zt)(w:Zy):(zeroValue t).run prog w=(zeroValue t).run bM w:=by
 unfold prog;exact Is bM funcs t w
@[simp]def Tryq.UW(t:Zt):prog.stoodInHeld t=Tryz.prog.stoodInHeld t:=by
 unfold prog;exact wW bM funcs t
@[simp]def Tryq.MV(t:Zt):prog.eqGuardType prog.depth t=Tryz.prog.eqGuardType Tryz.prog.depth t:=by
 unfold prog;rw[Y8];exact DX bM funcs _ t
def qf{i:Nat}{f:Func}(a:Tryz.prog.funcs[i]?=bO f)(h:kJ i=bK:=by exact rfl):prog.funcs[i]?=bO f:=MK h a
def qc{i:Nat}{f:Func}(a:Tryz.prog.funcs[i]?=bO f)(h:(kJ i||f.name== "runtime.NumGoroutine" ||f.body.isNone)=bK:=by exact rfl)(args:Za)(w:Zy):(callFunc i args).run prog w= .ok (.enter i args) w:=by
 simp only[Bool.or_eq_false_iff]at h;exact xut h.1.1 a h.1.2 h.2 args w
def qd{i:Nat}{f:Func}(a:Tryz.prog.funcs[i]?=bO f)(g:kJ i=bK:=by exact rfl)(h:(kJ i||f.name== "runtime.NumGoroutine" ||f.body.isNone)=bK:=by exact rfl):prog.funcs[i]?=bO f/\∀(args:Za) (w:Zy),(callFunc i args).run prog w= .ok (.enter i args) w:=⟨qf a g,qc a h⟩
namespace Tryq
@[simp]def func9:=qd Tryz.func9
@[simp]def func10:=qd Tryz.func10
@[simp]def func11:=qd Tryz.func11
@[simp]def func12:=qd Tryz.func12
@[simp]def func13:=qd Tryz.func13
@[simp]def func14:=qd Tryz.func14
@[simp]def func16:=qd Tryz.func16
@[simp]def func17:=qd Tryz.func17
@[simp]def func18:=qd Tryz.func18
@[simp]def func20:=qd Tryz.func20
@[simp]def func22:=qd Tryz.func22
@[simp]def func23:=qd Tryz.func23
@[simp]def func24:=qd Tryz.func24
@[simp]def func25:=qd Tryz.func25
@[simp]def func26:=qd Tryz.func26
@[simp]def func27:=qd Tryz.func27
@[simp]def func31:=qd Tryz.func31
@[simp]def func32:=qd Tryz.func32
@[simp]def func33:=qd Tryz.func33
@[simp]def func34:=qd Tryz.func34
@[simp]def func35:=qd Tryz.func35
@[simp]def func36:=qd Tryz.func36
@[simp]def func37:=qd Tryz.func37
@[simp]def func38:=qd Tryz.func38
@[simp]def func39:=qd Tryz.func39
@[simp]def func40:=qd Tryz.func40
@[simp]def func41:=qd Tryz.func41
@[simp]def func42:=qd Tryz.func42
@[simp]def func43:=qd Tryz.func43
@[simp]def func44:=qd Tryz.func44
@[simp]def func45:=qd Tryz.func45
@[simp]def func46:=qd Tryz.func46
@[simp]def func47:=qd Tryz.func47
@[simp]def func48:=qd Tryz.func48
@[simp]def func57:=qd Tryz.func57
@[simp]def func58:=qd Tryz.func58
@[simp]def func59:=qd Tryz.func59
@[simp]def func60:=qd Tryz.func60
@[simp]def func61:=qd Tryz.func61
@[simp]def func62:=qd Tryz.func62
@[simp]def func63:=qd Tryz.func63
@[simp]def func64:=qd Tryz.func64
@[simp]def func65:=qd Tryz.func65
@[simp]def func66:=qd Tryz.func66
@[simp]def func67:=qd Tryz.func67
@[simp]def func68:=qd Tryz.func68
@[simp]def func69:=qd Tryz.func69
@[simp]def func70:=qd Tryz.func70
@[simp]def func71:=qf Tryz.func71
@[simp]def func72:=qd Tryz.func72
@[simp]def func73:=qd Tryz.func73
@[simp]def func74:=qd Tryz.func74
@[simp]def func75:=qd Tryz.func75
@[simp]def func76:=qd Tryz.func76
@[simp]def func77:=qd Tryz.func77
@[simp]def func78:=qd Tryz.func78
@[simp]def func93:=qd Tryz.func93
@[simp]def func94:=qd Tryz.func94
@[simp]def func95:=qd Tryz.func95
@[simp]def func96:=qd Tryz.func96
@[simp]def func97:=qd Tryz.func97
@[simp]def func98:=qd Tryz.func98
@[simp]def func99:=qd Tryz.func99
@[simp]def func100:=qd Tryz.func100
@[simp]def func101:=qd Tryz.func101
@[simp]def func102:=qd Tryz.func102
@[simp]def func103:=qd Tryz.func103
@[simp]def func104:=qd Tryz.func104
@[simp]def func105:=qd Tryz.func105
@[simp]def func107:=qd Tryz.func107
@[simp]def func108:=qd Tryz.func108
@[simp]def func109:=qd Tryz.func109
@[simp]def func110:=qd Tryz.func110
@[simp]def func111:=qd Tryz.func111
@[simp]def func112:=qd Tryz.func112
@[simp]def func113:=qd Tryz.func113
@[simp]def func114:=qd Tryz.func114
@[simp]def func115:=qd Tryz.func115
@[simp]def func116:=qd Tryz.func116
@[simp]def func117:=qd Tryz.func117
@[simp]def func118:=qd Tryz.func118
@[simp]def func119:=qd Tryz.func119
@[simp]def func120:=qd Tryz.func120
@[simp]def func121:=qd Tryz.func121
@[simp]def func122:=qd Tryz.func122
@[simp]def func123:=qd Tryz.func123
@[simp]def func124:=qd Tryz.func124
@[simp]def func125:=qd Tryz.func125
@[simp]def func126:=qd Tryz.func126
@[simp]def func140:=qd Tryz.func140
@[simp]def func141:=qd Tryz.func141
@[simp]def func142:=qd Tryz.func142
@[simp]def func145:=qd Tryz.func145
@[simp]def func146:=qd Tryz.func146
@[simp]def func147:=qd Tryz.func147
@[simp]def func148:=qd Tryz.func148
@[simp]def func149:=qd Tryz.func149
@[simp]def func150:=qf Tryz.func150
@[simp]def func151:=qd Tryz.func151
@[simp]def func152:=qd Tryz.func152
@[simp]def func153:=qd Tryz.func153
@[simp]def func154:=qd Tryz.func154
@[simp]def func155:=qd Tryz.func155
@[simp]def func156:=qd Tryz.func156
@[simp]def func157:=qd Tryz.func157
@[simp]def func158:=qd Tryz.func158
@[simp]def func159:=qd Tryz.func159
@[simp]def func161:=qd Tryz.func161
@[simp]def func162:=qd Tryz.func162
@[simp]def func163:=qd Tryz.func163
@[simp]def func164:=qd Tryz.func164
@[simp]def func165:=qd Tryz.func165
@[simp]def func166:=qd Tryz.func166
@[simp]def func172:=qd Tryz.func172
@[simp]def func173:=qd Tryz.func173
@[simp]def func174:=qd Tryz.func174
@[simp]def func175:=qd Tryz.func175
@[simp]def func176:=qd Tryz.func176
@[simp]def func177:=qd Tryz.func177
@[simp]def func178:=qd Tryz.func178
@[simp]def func179:=qd Tryz.func179
@[simp]def func180:=qd Tryz.func180
@[simp]def func181:=qd Tryz.func181
@[simp]def func182:=qd Tryz.func182
@[simp]def func183:=qd Tryz.func183
@[simp]def func184:=qd Tryz.func184
@[simp]def func185:=qd Tryz.func185
@[simp]def func186:=qd Tryz.func186
@[simp]def func187:=qd Tryz.func187
@[simp]def func188:=qd Tryz.func188
@[simp]def func189:=qd Tryz.func189
@[simp]def func190:=qd Tryz.func190
@[simp]def func191:=qd Tryz.func191
@[simp]def func197:=qd Tryz.func197
@[simp]def func199:=qd Tryz.func199
@[simp]def func200:=qd Tryz.func200
@[simp]def func201:=qd Tryz.func201
@[simp]def func202:=qd Tryz.func202
@[simp]def func203:=qd Tryz.func203
@[simp]def func204:=qd Tryz.func204
@[simp]def func205:=qd Tryz.func205
@[simp]def func206:=qd Tryz.func206
@[simp]def func207:=qd Tryz.func207
@[simp]def func208:=qd Tryz.func208
@[simp]def func210:=qd Tryz.func210
@[simp]def func211:=qd Tryz.func211
@[simp]def func212:=qd Tryz.func212
@[simp]def func231:=qd Tryz.func231
@[simp]def func232:=qd Tryz.func232
@[simp]def func233:=qd Tryz.func233
@[simp]def func234:=qd Tryz.func234
@[simp]def func235:=qd Tryz.func235
@[simp]def func236:=qd Tryz.func236
@[simp]def func237:=qd Tryz.func237
@[simp]def func238:=qd Tryz.func238
@[simp]def func239:=qd Tryz.func239
@[simp]def func240:=qd Tryz.func240
@[simp]def func241:=qd Tryz.func241
@[simp]def func242:=qd Tryz.func242
@[simp]def func243:=qd Tryz.func243
@[simp]def func244:=qd Tryz.func244
@[simp]def func247:=qd Tryz.func247
@[simp]def func248:=qd Tryz.func248
@[simp]def func249:=qd Tryz.func249
@[simp]def func250:=qd Tryz.func250
@[simp]def func251:=qf Tryz.func251
@[simp]def func252:=qd Tryz.func252
@[simp]def func253:=qd Tryz.func253
@[simp]def func254:=qd Tryz.func254
@[simp]def func260:=qd Tryz.func260
@[simp]def func261:=qd Tryz.func261
@[simp]def func262:=qd Tryz.func262
@[simp]def func263:=qd Tryz.func263
@[simp]def func264:=qd Tryz.func264
@[simp]def func265:=qd Tryz.func265
@[simp]def func266:=qd Tryz.func266
@[simp]def func267:=qd Tryz.func267
@[simp]def func268:=qd Tryz.func268
@[simp]def func269:=qd Tryz.func269
@[simp]def func270:=qd Tryz.func270
@[simp]def func271:=qd Tryz.func271
@[simp]def func272:=qd Tryz.func272
@[simp]def func273:=qd Tryz.func273
@[simp]def func274:=qd Tryz.func274
@[simp]def func275:=qd Tryz.func275
@[simp]def func277:=qd Tryz.func277
@[simp]def func278:=qd Tryz.func278
@[simp]def func279:=qd Tryz.func279
@[simp]def func280:=qd Tryz.func280
@[simp]def func281:=qd Tryz.func281
@[simp]def func282:=qd Tryz.func282
@[simp]def func283:=qd Tryz.func283
@[simp]def func284:=qd Tryz.func284
@[simp]def func285:=qd Tryz.func285
@[simp]def func286:=qd Tryz.func286
@[simp]def func287:=qd Tryz.func287
@[simp]def func288:=qd Tryz.func288
@[simp]def func289:=qd Tryz.func289
@[simp]def func290:=qd Tryz.func290
@[simp]def func291:=qd Tryz.func291
@[simp]def func292:=qd Tryz.func292
@[simp]def func293:=qd Tryz.func293
@[simp]def func294:=qd Tryz.func294
@[simp]def func295:=qd Tryz.func295
@[simp]def func296:=qd Tryz.func296
@[simp]def func297:=qd Tryz.func297
@[simp]def func298:=qd Tryz.func298
@[simp]def func299:=qd Tryz.func299
@[simp]def func300:=qd Tryz.func300
@[simp]def func301:=qd Tryz.func301
@[simp]def func302:=qd Tryz.func302
@[simp]def func303:=qd Tryz.func303
@[simp]def func304:=qd Tryz.func304
@[simp]def func305:=qd Tryz.func305
@[simp]def func306:=qd Tryz.func306
def ntmps307:=Tryz.ntmps307
@[simp]def func307:=qf Tryz.func307
@[simp]def xwp:=qc Tryz.func307
def ntmps308:=Tryz.ntmps308
@[simp]def func308:=qf Tryz.func308
@[simp]def xwq:=qc Tryz.func308
@[simp]def func324:=qd Tryz.func324
@[simp]def func325:=qd Tryz.func325
@[simp]def func330:=qf Tryz.func330
end Tryq
end A
namespace A
open Tryq Go
def Tryq.underlying3:prog.underlying 3=bO (.int .i64):=(cK 3).trans Tryz.underlying3
def Tryq.underlying5:prog.underlying 5=bO (.int .u8):=(cK 5).trans Tryz.underlying5
def Tryq.underlying9:prog.underlying 9=bO .string:=(cK 9).trans Tryz.underlying9
def Tryq.underlying49:prog.underlying 49=bO (.slice 9):=(cK 49).trans Tryz.underlying49
def Tryq.underlying163:prog.underlying 163=bO (.slice 5):=(cK 163).trans Tryz.underlying163
def Tryq.underlying318:prog.underlying 318=bO (.array 256 3):=(cK 318).trans Tryz.underlying318
def Tryq.underlying320:prog.underlying 320=bO (.array 176 3):=(cK 320).trans Tryz.underlying320
def Tryq.underlying336:prog.underlying 336=bO (.array 64 243):=(cK 336).trans Tryz.underlying336
def Tryq.underlying359:prog.underlying 359=bO (.array 16 5):=(cK 359).trans Tryz.underlying359
def Tryq.underlying368:prog.underlying 368=bO (.array 256 5):=(cK 368).trans Tryz.underlying368
end A
namespace P
open Go
def zl{p:Prop}(h:p):Go.RowKit.Hid p:=h
def u(x:Z3):Int:=(x.toNat:Int)
@[go_sem] abbrev zw(x:BitVec 32):Value:= .int .u32 (u x)
def GZ(x:Z3):0<=u x:=by simp[u]
def GX(x:Z3):u x<4294967296:=by simp only[u];have:=x.isLt;omega
def AZ(x:Z3):BitVec.ofInt 32 (u x)=x:=by simp[u]
def JS(n:Int)(a:0<=n)(h:n<4294967296):IntKind.u32.wrap n=n:=by
 simp[IntKind.wrap,IntKind.bits,IntKind.signed];omega
def yY(a b:Z3):bits .xor .u32 (u a) (u b)=u (a^^^b):=by
 show IntKind.u32.wrap ((BitVec.ofInt 32 (u a)^^^BitVec.ofInt 32 (u b)).toNat:Int)=_;rw[AZ,AZ];exact JS _ (GZ _)<|GX _
def EW(a b:Z3):bits .and .u32 (u a) (u b)=u (a&&&b):=by
 show IntKind.u32.wrap ((BitVec.ofInt 32 (u a)&&&BitVec.ofInt 32 (u b)).toNat:Int)=_;rw[AZ,AZ];exact JS _ (GZ _)<|GX _
def oG(a b:Z3):bits .or .u32 (u a) (u b)=u (a|||b):=by
 show IntKind.u32.wrap ((BitVec.ofInt 32 (u a)|||BitVec.ofInt 32 (u b)).toNat:Int)=_;rw[AZ,AZ];exact JS _ (GZ _)<|GX _
def EU(a b:Z3):IntKind.u32.wrap (u a+u b)=u (a+b):=by
 simp[IntKind.wrap,IntKind.bits,IntKind.signed,u,BitVec.toNat_add]
def EX(a:Z3):bits .xor .u32 IntKind.u32.max (u a)=u (~~~ a):=by
 show IntKind.u32.wrap ((BitVec.ofInt 32 4294967295^^^BitVec.ofInt 32 (u a)).toNat:Int)=_;rw[AZ,show BitVec.ofInt 32 4294967295=BitVec.allOnes 32 from by decide,BitVec.allOnes_xor];exact JS _ (GZ _)<|GX _
def rU(a:Z3)(n:Nat)(k:Int)(hk:k=((2^n:Nat):Int)):IntKind.u32.wrap (u a*k)=u (a<<<n):=by
 subst hk;simp only[IntKind.wrap,IntKind.bits,IntKind.signed,u,BitVec.toNat_shiftLeft,Nat.shiftLeft_eq];simp
def pI(a:Z3)(n:Nat)(k:Int)(hk:k=((2^n:Nat):Int)):u a/k=u (a>>>n):=by
 subst hk;simp only[u,BitVec.toNat_ushiftRight,Nat.shiftRight_eq_div_pow];simp
def Ez(a:Z3):u a/(4:Int)=u (a>>>2):=pI a 2 _ rfl
def Fa(a:Z3):u a/(8:Int)=u (a>>>3):=pI a 3 _ rfl
def Fb(a:Z3):u a/(64:Int)=u (a>>>6):=pI a 6 _ rfl
def Ey(a:Z3):IntKind.u32.wrap (u a*(128:Int))=u (a<<<7):=rU a 7 _ rfl
def Ep(a:Z3):u a/(128:Int)=u (a>>>7):=pI a 7 _ rfl
def xsr(a:Z3):IntKind.u32.wrap (u a*(256:Int))=u (a<<<8):=rU a 8 _ rfl
def xss(a:Z3):u a/(256:Int)=u (a>>>8):=pI a 8 _ rfl
def Cq(a:Z3):IntKind.u32.wrap (u a*(1024:Int))=u (a<<<10):=rU a 10 _ rfl
def Da(a:Z3):u a/(1024:Int)=u (a>>>10):=pI a 10 _ rfl
def Db(a:Z3):u a/(2048:Int)=u (a>>>11):=pI a 11 _ rfl
def Cr(a:Z3):IntKind.u32.wrap (u a*(8192:Int))=u (a<<<13):=rU a 13 _ rfl
def Dc(a:Z3):u a/(8192:Int)=u (a>>>13):=pI a 13 _ rfl
def Cs(a:Z3):IntKind.u32.wrap (u a*(16384:Int))=u (a<<<14):=rU a 14 _ rfl
def Cu(a:Z3):IntKind.u32.wrap (u a*(32768:Int))=u (a<<<15):=rU a 15 _ rfl
def xot(a:Z3):IntKind.u32.wrap (u a*(65536:Int))=u (a<<<16):=rU a 16 _ rfl
def xov(a:Z3):u a/(65536:Int)=u (a>>>16):=pI a 16 _ rfl
def De(a:Z3):u a/(131072:Int)=u (a>>>17):=pI a 17 _ rfl
def Df(a:Z3):u a/(262144:Int)=u (a>>>18):=pI a 18 _ rfl
def Cv(a:Z3):IntKind.u32.wrap (u a*(524288:Int))=u (a<<<19):=rU a 19 _ rfl
def Dh(a:Z3):u a/(524288:Int)=u (a>>>19):=pI a 19 _ rfl
def Cw(a:Z3):IntKind.u32.wrap (u a*(2097152:Int))=u (a<<<21):=rU a 21 _ rfl
def Di(a:Z3):u a/(4194304:Int)=u (a>>>22):=pI a 22 _ rfl
def xou(a:Z3):IntKind.u32.wrap (u a*(16777216:Int))=u (a<<<24):=rU a 24 _ rfl
def xow(a:Z3):u a/(16777216:Int)=u (a>>>24):=pI a 24 _ rfl
def Cx(a:Z3):IntKind.u32.wrap (u a*(33554432:Int))=u (a<<<25):=rU a 25 _ rfl
def Dj(a:Z3):u a/(33554432:Int)=u (a>>>25):=pI a 25 _ rfl
def Cy(a:Z3):IntKind.u32.wrap (u a*(67108864:Int))=u (a<<<26):=rU a 26 _ rfl
def Cz(a:Z3):IntKind.u32.wrap (u a*(1073741824:Int))=u (a<<<30):=rU a 30 _ rfl
def rr(x:Z3)(n:Nat):Z3:=x>>>n|||x<<<(32-n)
def xvg(x:Z3):x<<<30|||x>>>2=rr x 2:=Jr _ _
def xti:bits .and .u64 (IntKind.u64.wrap<|-2) 31=30:=by decide+kernel
def xsc(x:Z3):x<<<19|||x>>>13=rr x 13:=Jr _ _
def xqa:bits .and .u64 (IntKind.u64.wrap<|-13) 31=19:=by decide+kernel
def xsg(x:Z3):x<<<10|||x>>>22=rr x 22:=Jr _ _
def xqe:bits .and .u64 (IntKind.u64.wrap<|-22) 31=10:=by decide+kernel
def xvh(x:Z3):x<<<26|||x>>>6=rr x 6:=Jr _ _
def xtj:bits .and .u64 (IntKind.u64.wrap<|-6) 31=26:=by decide+kernel
def xsb(x:Z3):x<<<21|||x>>>11=rr x 11:=Jr _ _
def xp9:bits .and .u64 (IntKind.u64.wrap<|-11) 31=21:=by decide+kernel
def xsh(x:Z3):x<<<7|||x>>>25=rr x 25:=Jr _ _
def xqf:bits .and .u64 (IntKind.u64.wrap<|-25) 31=7:=by decide+kernel
def xvi(x:Z3):x<<<25|||x>>>7=rr x 7:=Jr _ _
def xtk:bits .and .u64 (IntKind.u64.wrap<|-7) 31=25:=by decide+kernel
def xse(x:Z3):x<<<14|||x>>>18=rr x 18:=Jr _ _
def xqc:bits .and .u64 (IntKind.u64.wrap<|-18) 31=14:=by decide+kernel
def xsd(x:Z3):x<<<15|||x>>>17=rr x 17:=Jr _ _
def xqb:bits .and .u64 (IntKind.u64.wrap<|-17) 31=15:=by decide+kernel
def xsf(x:Z3):x<<<13|||x>>>19=rr x 19:=Jr _ _
def xqd:bits .and .u64 (IntKind.u64.wrap<|-19) 31=13:=by decide+kernel
def ch(x y z:Z3):Z3:=(x&&&y)^^^(~~~ x&&&z)
def W_(x y z:Z3):Z3:=(x&&&y)^^^(x&&&z)^^^(y&&&z)
def U4(x:Z3):Z3:=rr x 2^^^rr x 13^^^rr x 22
def U6(x:Z3):Z3:=rr x 6^^^rr x 11^^^rr x 25
def MW(x:Z3):Z3:=rr x 7^^^rr x 18^^^x>>>3
def MX(x:Z3):Z3:=rr x 17^^^rr x 19^^^x>>>10
structure St where
 a:Z3
 b:Z3
 c:Z3
 d:Z3
 e:Z3
 f:Z3
 g:Z3
 h:Z3
def T1(e f g h k:Z3):Z3:=h+U6 e+ch e f g+k
def T2(a b c:Z3):Z3:=U4 a+W_ a b c
def xvu(s:St)(k:Z3):St:=⟨T1 s.e s.f s.g s.h k+T2 s.a s.b s.c,s.a,s.b,s.c,s.d+T1 s.e s.f s.g s.h k,s.e,s.f,s.g⟩
def Kt:List Z3:=[1116352408,1899447441,3049323471,3921009573,961987163,1508970993,2453635748,2870763221,3624381080,310598401,607225278,1426881987,1925078388,2162078206,2614888103,3248222580,3835390401,4022224774,264347078,604807628,770255983,1249150122,1555081692,1996064986,2554220882,2821834349,2952996808,3210313671,3336571891,3584528711,113926993,338241895,666307205,773529912,1294757372,1396182291,1695183700,1986661051,2177026350,2456956037,2730485921,2820302411,3259730800,3345764771,3516065817,3600352804,4094571909,275423344,430227734,506948616,659060556,883997877,958139571,1322822218,1537002063,1747873779,1955562222,2024104815,2227730452,2361852424,2428436474,2756734187,3204031479,3329325298]
def Kc(i:Nat):Z3:=Kt.getD i 0
def mH(s:St)(W:Nat->Z3):Nat->St
 |0=>s
 |n+1=>xvu (mH s W n)<|Kc n+W n
def xG(s t:St):St:=⟨s.a+t.a,s.b+t.b,s.c+t.c,s.d+t.d,s.e+t.e,s.f+t.f,s.g+t.g,s.h+t.h⟩
def Vt(s:St)(W:Nat->Z3):St:=xG (mH s W 64) s
end P
namespace P
open A.Tryq Go.RowKit
attribute [local go_sem] yY EW oG EU EX
attribute [local go_sem] Cz xti Cv xqa Cq xqe Cy xtj Cw xp9 Ey xqf Cx xtk Cs xqc Cu xqb Cr xqd
def zzy(x y z:Z3)(w:Zy):bE prog 300 #[zw x,zw y,zw z] w fun e w'=>e= .returned (zw<|ch x y z)/\w'=w:=by
 go_enter func300.1,Tryz.ntmps300
 go_wp2
 all_goals go_ret
 all_goals exact⟨rfl,rfl⟩
def xnb(x y z:Z3)(w:Zy):bE prog 302 #[zw x,zw y,zw z] w fun e w'=>e= .returned (zw<|W_ x y z)/\w'=w:=by
 go_enter func302.1,Tryz.ntmps302
 go_wp2
 all_goals go_ret
 all_goals exact⟨rfl,rfl⟩
def vQ(x:Z3)(w:Zy):∀q∈[((2:Int),2),((13:Int),13),((22:Int),22),((6:Int),6),((11:Int),11),((25:Int),25),((7:Int),7),((18:Int),18),((17:Int),17),((19:Int),19)],bE prog 303 #[zw x,zi q.1] w fun e w'=>e= .returned (zw<|rr x q.2)/\w'=w:=by
 intro q a;simp only[xf,Vy,or_false]at a;rcases a with rfl|rfl|rfl|rfl|rfl|rfl|rfl|rfl|rfl|rfl
 all_goals
  go_enter func303.1,Tryz.ntmps303
  go_wp2
  all_goals go_ret
  all_goals refine⟨?_,rfl⟩
 show aP (zu<|bits .or .u32 (u<|x<<<30)<|u x/4)=_;rw[Ez,oG,xvg];show aP (zu<|bits .or .u32 (u<|x<<<19)<|u x/8192)=_;rw[Dc,oG,xsc];show aP (zu<|bits .or .u32 (u<|x<<<10)<|u x/4194304)=_;rw[Di,oG,xsg];show aP (zu<|bits .or .u32 (u<|x<<<26)<|u x/64)=_;rw[Fb,oG,xvh];show aP (zu<|bits .or .u32 (u<|x<<<21)<|u x/2048)=_;rw[Db,oG,xsb];show aP (zu<|bits .or .u32 (u<|x<<<7)<|u x/33554432)=_;rw[Dj,oG,xsh];show aP (zu<|bits .or .u32 (u<|x<<<25)<|u x/128)=_;rw[Ep,oG,xvi];show aP (zu<|bits .or .u32 (u<|x<<<14)<|u x/262144)=_;rw[Df,oG,xse];show aP (zu<|bits .or .u32 (u<|x<<<15)<|u x/131072)=_;rw[De,oG,xsd];show aP (zu<|bits .or .u32 (u<|x<<<13)<|u x/524288)=_;rw[Dh,oG,xsf]
def Sp(x:Z3)(w:Zy):bE prog 301 #[zw x] w fun e w'=>e= .returned (zw<|U4 x)/\w'=w:=by
 go_enter func301.1,Tryz.ntmps301
 go_wp2_with fail
 refine(vQ x _ (2,2)<|by simp).mono ?_;rintro e w' ⟨rfl,rfl⟩
 go_wp2_with fail
 refine(vQ x _ (13,13)<|by simp).mono ?_;rintro e w' ⟨rfl,rfl⟩
 go_wp2_with fail
 refine(vQ x _ (22,22)<|by simp).mono ?_;rintro e w' ⟨rfl,rfl⟩
 go_wp2_with fail
 all_goals go_ret
 all_goals exact⟨rfl,rfl⟩
def Ss(x:Z3)(w:Zy):bE prog 299 #[zw x] w fun e w'=>e= .returned (zw<|U6 x)/\w'=w:=by
 go_enter func299.1,Tryz.ntmps299
 go_wp2_with fail
 refine(vQ x _ (6,6)<|by simp).mono ?_;rintro e w' ⟨rfl,rfl⟩
 go_wp2_with fail
 refine(vQ x _ (11,11)<|by simp).mono ?_;rintro e w' ⟨rfl,rfl⟩
 go_wp2_with fail
 refine(vQ x _ (25,25)<|by simp).mono ?_;rintro e w' ⟨rfl,rfl⟩
 go_wp2_with fail
 all_goals go_ret
 all_goals exact⟨rfl,rfl⟩
def xn6(x:Z3)(w:Zy):bE prog 287 #[zw x] w fun e w'=>e= .returned (zw<|MW x)/\w'=w:=by
 go_enter func287.1,Tryz.ntmps287
 go_wp2_with fail
 refine(vQ x _ (7,7)<|by simp).mono ?_;rintro e w' ⟨rfl,rfl⟩
 go_wp2_with fail
 refine(vQ x _ (18,18)<|by simp).mono ?_;rintro e w' ⟨rfl,rfl⟩
 go_wp2_with fail
 all_goals go_ret
 all_goals refine⟨?_,rfl⟩
 all_goals show aP (zu<|bits .xor .u32 (u<|rr x 7^^^rr x 18)<|u x/8)=_
 all_goals rw[Fa,yY]
 all_goals rfl
def xn7(x:Z3)(w:Zy):bE prog 288 #[zw x] w fun e w'=>e= .returned (zw<|MX x)/\w'=w:=by
 go_enter func288.1,Tryz.ntmps288
 go_wp2_with fail
 refine(vQ x _ (17,17)<|by simp).mono ?_;rintro e w' ⟨rfl,rfl⟩
 go_wp2_with fail
 refine(vQ x _ (19,19)<|by simp).mono ?_;rintro e w' ⟨rfl,rfl⟩
 go_wp2_with fail
 all_goals go_ret
 all_goals refine⟨?_,rfl⟩
 all_goals show aP (zu<|bits .xor .u32 (u<|rr x 17^^^rr x 19)<|u x/1024)=_
 all_goals rw[Da,yY]
 all_goals rfl
end P
namespace P
open A.Tryq Go.RowKit
attribute [local go_sem] yY EW oG EU EX
def Mb(a b c d e f g h k:Z3)(w:Zy):bE prog 286 #[.agg #[zw a,zw b,zw c,zw d,zw e,zw f,zw g,zw h],zw k] w fun en w'=>en= .returned (.agg #[zw<|T1 e f g h k+T2 a b c,zw a,zw b,zw c,zw<|d+T1 e f g h k,zw e,zw f,zw g])/\Below w.heap.size w w':=by
 go_enter func286.1,Tryz.ntmps286
 go_wp2
 go_quiet (fail)
 go_wp2_with fail
 refine(Ss e _).mono ?_;rintro en w' ⟨rfl,rfl⟩
 go_wp2_with fail
 refine(zzy e f g _).mono ?_;rintro en w' ⟨rfl,rfl⟩
 go_wp2_with fail
 refine(Sp a _).mono ?_;rintro en w' ⟨rfl,rfl⟩
 go_wp2_with fail
 refine(xnb a b c _).mono ?_;rintro en w' ⟨rfl,rfl⟩
 go_wp2_with fail
 refine jz (v:= .agg #[zw<|T1 e f g h k+T2 a b c,zw a,zw b,zw c,zw<|d+T1 e f g h k,zw e,zw f,zw g]) ?_ rfl ⟨rfl, ?_⟩
 ·simp[aN,Tryz.results286,go_sem,T1,T2]
 iterate 8 refine Below.setCell ?_ (by simp) _
 refine below_drewN ?_ _
 iterate 2 refine Below.alloc ?_ (by simp) _
 exact zr _ _
def wv(W:Nat->Z3):Ze:=(List.range 64).map fun i=> .int .u32 (u<|W i)
def VQ(W:Nat->Z3):(wv W).length=64:=by simp[wv]
def Gf(W:Nat->Z3)(i:Nat)(h:i<64):(wv W)[i]?=bO (zw<|W i):=by simp[wv,h]
def at8(s:St)(i:Nat):Z3:=[s.a,s.b,s.c,s.d,s.e,s.f,s.g,s.h].getD i 0
def VL(s:St)(i:Nat)(h:i<8):(#[zw s.a,zw s.b,zw s.c,zw s.d,zw s.e,zw s.f,zw s.g,zw s.h]:Za)[i]?=bO (zw<|at8 s i):=by
 match i,h with
 |0,_=>rfl
 |1,_=>rfl
 |2,_=>rfl
 |3,_=>rfl
 |4,_=>rfl
 |5,_=>rfl
 |6,_=>rfl
 |7,_=>rfl
 |n+8,h=>omega
def xso{C:Za}{r s:St}(k:C.size=8)(h:∀i,i<8->C[i]?=bO (zw<|at8 r i+at8 s i)):C=#[zu<|u (xG r s).a,zu<|u (xG r s).b,zu<|u (xG r s).c,zu<|u (xG r s).d,zu<|u (xG r s).e,zu<|u (xG r s).f,zu<|u (xG r s).g,zu<|u (xG r s).h]:=by
 apply Yc;intro i;by_cases j:i<8;rw[h i j,VL _ i j]
 match i,j with
 |0,_=>rfl
 |1,_=>rfl
 |2,_=>rfl
 |3,_=>rfl
 |4,_=>rfl
 |5,_=>rfl
 |6,_=>rfl
 |7,_=>rfl
 |n+8,h=>omega
 rw[ju<|by omega,ju<|by simp;omega]
def XJ(w:Zy)(g:Nat)(t:Zt)(h c1 c2 c3 i c5 j k v0 a v2 b c d e f:Zv)(v:w.heap[g]?=bO (.cells #[h,c1,c2,c3,i,c5,j,k] t (0,0))):
  ((((((((w.setCell (zq g 0) v0).setCell (zq g 1) a).setCell (zq g 2) v2).setCell (zq g 3) b).setCell (zq g 4) c).setCell (zq g 5) d).setCell (zq g 6) e).setCell (zq g 7) f).heap[g]?=bO (.cells #[v0,a,v2,b,c,d,e,f] t (0,0)):=by
 have l:=qe w g 0 _ t v0 v;have m:=qe _ g 1 _ t a l;have n:=qe _ g 2 _ t v2 m;have o:=qe _ g 3 _ t b n;have p:=qe _ g 4 _ t c o;have q:=qe _ g 5 _ t d p;have r:=qe _ g 6 _ t e q;have s:=qe _ g 7 _ t f r;rw[s];simp
def QH(w:Zy)(g k:Nat)(v0 a v2 b c d e f:Zv)(hk:k≠g):((((((((w.setCell (zq g 0) v0).setCell (zq g 1) a).setCell (zq g 2) v2).setCell (zq g 3) b).setCell (zq g 4) c).setCell (zq g 5) d).setCell (zq g 6) e).setCell (zq g 7) f).heap[k]?=w.heap[k]?:=by
 rw[jq _ _ _ _<|by exact hk,jq _ _ _ _<|by exact hk,jq _ _ _ _<|by exact hk,jq _ _ _ _<|by exact hk,jq _ _ _ _<|by exact hk,jq _ _ _ _<|by exact hk,jq _ _ _ _<|by exact hk,jq _ _ _ _<|by exact hk]
def QG(B:Nat)(w0 w:Zy)(g:Nat)(v0 b v2 c d e f i:Zv)(a:B<=g)(h:Below B w0 w):Below B w0<|(((((((w.setCell (zq g 0) v0).setCell (zq g 1) b).setCell (zq g 2) v2).setCell (zq g 3) c).setCell (zq g 4) d).setCell (zq g 5) e).setCell (zq g 6) f).setCell (zq g 7) i:=by
 iterate 8 refine Below.setCell ?_ a _
 exact h
def o7(w:Zy)(g:Nat)(v0 a v2 b c d e f:Zv):((((((((w.setCell (zq g 0) v0).setCell (zq g 1) a).setCell (zq g 2) v2).setCell (zq g 3) b).setCell (zq g 4) c).setCell (zq g 5) d).setCell (zq g 6) e).setCell (zq g 7) f).heap.size=w.heap.size:=by
 simp[World.setCell]
def OT{w:Zy}{r:Nat}{t:Zt}{a0 a1 a2 a3 a4 a5 a6 a7:Zv}(h:w.heap[r]?=bO (.cells #[a0,a1,a2,a3,a4,a5,a6,a7] t (0,0))):w.cell? (zq r 0)=bO a0/\w.cell? (zq r 1)=bO a1/\w.cell? (zq r 2)=bO a2/\w.cell? (zq r 3)=bO a3/\w.cell? (zq r 4)=bO a4/\w.cell? (zq r 5)=bO a5/\w.cell? (zq r 6)=bO a6/\w.cell? (zq r 7)=bO a7/\∀i,w.frozen? (zq r i)=bK:=by
 refine⟨?_, ?_, ?_, ?_, ?_, ?_, ?_, ?_,fun i=>jx _ _ _ _ _ h⟩<;>rw[je _ _ _ _ _ _ h]<;>rfl
structure wS(s:St)(W:Nat->Z3)(w:Zy)(C:Za)(wr:Zy):Prop where
 dI:Below w.heap.size w wr
 sz:w.heap.size+1+1+1<wr.heap.size
 b0:wr.heap[w.heap.size]?=bO (.cells #[zw s.a,zw s.b,zw s.c,zw s.d,zw s.e,zw s.f,zw s.g,zw s.h] 323 (0,0))
 b1:wr.heap[w.heap.size+1]?=bO (.cells (wv W).toArray 336 (0,0))
 b2:wr.heap[w.heap.size+1+1]?=bO (.cells #[zu 0,zu 0,zu 0,zu 0,zu 0,zu 0,zu 0,zu 0] 323 (0,0))
 b3:wr.heap[w.heap.size+1+1+1]?=bO (.cells C 323 (0,0))
def wS.put8{s:St}{W:Nat->Z3}{w wr w1:Zy}{a0 a1 a2 a3 a4 a5 a6 a7 v0 v1 v2 v3 v4 v5 v6 v7:Zv}(inv:wS s W w #[a0,a1,a2,a3,a4,a5,a6,a7] wr)(a:Below wr.heap.size wr.drew w1):wS s W w #[v0,v1,v2,v3,v4,v5,v6,v7]<|(((((((w1.setCell (zq (w.heap.size+1+1+1) 0) v0).setCell (zq (w.heap.size+1+1+1) 1) v1).setCell (zq (w.heap.size+1+1+1) 2) v2).setCell (zq (w.heap.size+1+1+1) 3) v3).setCell (zq (w.heap.size+1+1+1) 4) v4).setCell (zq (w.heap.size+1+1+1) 5) v5).setCell (zq (w.heap.size+1+1+1) 6) v6).setCell (zq (w.heap.size+1+1+1) 7) v7:=by
 have b:=inv.sz;refine⟨QG _ _ _ _ _ _ _ _ _ _ _ _ (by omega)<|(inv.dI.drew).trans<|a.mono inv.dI.size,by rw[o7];exact zn inv.sz a.size, ?_, ?_, ?_,XJ _ _ _ _ _ _ _ _ _ _ _ _ _ _ _ _ _ _ _<|(a.block _<|by exact inv.sz).trans inv.b3⟩;rw[QH _ _ _ _ _ _ _ _ _ _ _<|by omega];exact(a.block _<|by show w.heap.size<wr.heap.size;omega).trans inv.b0;rw[QH _ _ _ _ _ _ _ _ _ _ _<|by omega];exact(a.block _<|by show w.heap.size+1<wr.heap.size;omega).trans inv.b1;rw[QH _ _ _ _ _ _ _ _ _ _ _<|by omega];exact(a.block _<|by show w.heap.size+1+1<wr.heap.size;omega).trans inv.b2
def wS.start(s:St)(W:Nat->Z3)(w:Zy):wS s W w #[zw s.a,zw s.b,zw s.c,zw s.d,zw s.e,zw s.f,zw s.g,zw s.h]<|(((w.alloc<|.cells #[zw s.a,zw s.b,zw s.c,zw s.d,zw s.e,zw s.f,zw s.g,zw s.h] 323).alloc<|.cells (wv W).toArray 336).alloc<|.cells #[zu 0,zu 0,zu 0,zu 0,zu 0,zu 0,zu 0,zu 0] 323).alloc<|.cells #[zw s.a,zw s.b,zw s.c,zw s.d,zw s.e,zw s.f,zw s.g,zw s.h] 323:=by
 refine⟨?_, ?_, ?_, ?_, ?_, ?_⟩;exact((((zr _ _).alloc (ze _) _).alloc (by simp) _).alloc (by simp;omega) _).alloc (by simp;omega) _;simp
 all_goals (show((((w.heap.push _).push _).push _).push _)[_]?=_)
 all_goals (simp only[jh,Xe])
 rw[aB<|by omega,aB<|by omega,aB<|by omega,aA trivial];rw[aB<|by omega,aB<|by omega,aA trivial];rw[aB<|by omega,aA trivial];rw[aA trivial]
def AD(s:St)(W:Nat->Z3)(w:Zy)(J:∀i,i<64->w.cell? ⟨4,i,bN⟩=bO (.int .u32<|u<|Kc i)):
  bE prog 263 #[.agg #[.int .u32<|u s.a,.int .u32<|u s.b,.int .u32<|u s.c,.int .u32<|u s.d,.int .u32<|u s.e,.int .u32<|u s.f,.int .u32<|u s.g,.int .u32<|u s.h],.agg (wv W).toArray] w fun en w'=>en= .returned (.agg #[.int .u32<|u (Vt s W).a,.int .u32<|u (Vt s W).b,.int .u32<|u (Vt s W).c,.int .u32<|u (Vt s W).d,.int .u32<|u (Vt s W).e,.int .u32<|u (Vt s W).f,.int .u32<|u (Vt s W).g,.int .u32<|u (Vt s W).h])/\Below w.heap.size w w':=by
 have M:4<w.heap.size:=qz (J 0<|by decide);have V:=zl J;clear J;go_enter func263.1,Tryz.ntmps263
 go_wp2
 go_loopw [9] (fun i wr=>∃k:Nat,k<=64/\i= .int .i64 k/\wS s W w #[.int .u32<|u (mH s W k).a,.int .u32<|u (mH s W k).b,.int .u32<|u (mH s W k).c,.int .u32<|u (mH s W k).d,.int .u32<|u (mH s W k).e,.int .u32<|u (mH s W k).f,.int .u32<|u (mH s W k).g,.int .u32<|u (mH s W k).h] wr) (fun i _=>(64-intOf i).toNat)
 case atStart=>
  exact⟨0,by omega,rfl,wS.start s W w⟩
 case round=>
  obtain⟨k,hk,rfl,inv⟩:=hrel;have X:=inv.sz;by_cases l:k<64
  ·have K:=(inv.dI.cell (p:=⟨4,k,bN⟩) M).trans (V.o k l)
   have L:wr.cell? ⟨w.heap.size+1,k,bN⟩=bO (.int .u32<|u<|W k):=by rw[je _ _ k _ _ _ inv.b1];simpa using Gf W k l
   obtain⟨t,x,y,z,B,D,E,F,R⟩:=OT inv.b3
   go_wp2
   go_still_tail 8,(by kernel_rfl)
   go_wp2_with fail
   refine(Mb _ _ _ _ _ _ _ _ _ _).mono ?_;rintro en w1 ⟨rfl,r⟩;have Q:=(r.block _<|by exact inv.sz).trans inv.b3;clear K L t x y z B D E F R;obtain⟨t,x,y,z,B,D,E,F,R⟩:=OT Q;have Y:=zn inv.sz r.size;have m:=(inv.dI.drew).trans<|r.mono inv.dI.size;have U:=zl inv;have T:=zl r;clear Q r m inv
   go_wp2
   go_roundw
   case rel=>exact⟨k+1,by omega,by go_num,U.o.put8 T.o⟩
   case measure=>simp[intOf];omega
  obtain rfl:k=64:=by omega
  clear hk l
  go_wp2
  go_loopw [22] (fun i w2=>∃(k:Nat) (C:Za),k<=8/\i= .int .i64 k/\wS s W w C w2/\C.size=8/\∀i,i<8->C[i]?=bO (.int .u32<|u (if i<k then at8 (mH s W 64) i+at8 s i else at8 (mH s W 64) i))) (fun i _=>(8-intOf i).toNat)
  case atStart=>
   exact⟨0,_,by omega,rfl,inv,rfl,fun i n=>by rw[aB<|by omega];exact VL _ i n⟩
  case round=>
   obtain⟨k,C,hk,rfl,j,q,o⟩:=hrel;have S:=j.sz;by_cases l:k<8
   ·have h1:wr.cell? ⟨w.heap.size+1+1+1,k,bN⟩=bO (.int .u32<|u<|at8 (mH s W 64) k):=by rw[je _ _ k _ _ _ j.b3,o k l,aB<|by omega]
    have h2:wr.cell? ⟨w.heap.size,k,bN⟩=bO (.int .u32<|u<|at8 s k):=by rw[je _ _ k _ _ _ j.b0,VL s k l]
    have h3:wr.frozen? ⟨w.heap.size+1+1+1,k,bN⟩=bK:=jx _ _ _ _ _ j.b3;have G:wS s W w (C.setIfInBounds k<|.int .u32<|u<|at8 (mH s W 64) k+at8 s k)<|wr.drew.setCell ⟨w.heap.size+1+1+1,k,bN⟩<|.int .u32<|u<|at8 (mH s W 64) k+at8 s k:=by
     refine⟨(j.dI.drew).setCell (by show w.heap.size<=w.heap.size+1+1+1;omega) _,by simpa[World.setCell]using j.sz, ?_, ?_, ?_,qe _ _ _ _ _ _ j.b3⟩;rw[jq _ _ _ _<|by show w.heap.size≠w.heap.size+1+1+1;omega];exact j.b0;rw[jq _ _ _ _<|by show w.heap.size+1≠w.heap.size+1+1+1;omega];exact j.b1;rw[jq _ _ _ _<|by show w.heap.size+1+1≠w.heap.size+1+1+1;omega];exact j.b2
    have H:Hid<|∀i,i<8->(C.setIfInBounds k<|.int .u32<|u<|at8 (mH s W 64) k+at8 s k)[i]?=bO (.int .u32<|u (if i<k+1 then at8 (mH s W 64) i+at8 s i else at8 (mH s W 64) i)):=by
     intro i n;rw[Z5];by_cases e:k=i;subst e;rw[aA rfl,aA<|by omega,aA<|by omega];rw[aB e,o i n];by_cases O:i<k;rw[aA O,aA<|by omega];rw[aB O,aB<|by omega]
    clear o
    go_wp2
    go_still_tail 8,(by kernel_rfl)
    go_wp2
    go_roundw
    case rel=>(repeat apply Exists.intro);exact⟨⟨k+1,_,by omega,by go_num,G,by simpa using q,H.o⟩,rfl⟩
    case measure=>simp[intOf];omega
   obtain rfl:k=8:=by omega
   have I:C=#[.int .u32<|u (Vt s W).a,.int .u32<|u (Vt s W).b,.int .u32<|u (Vt s W).c,.int .u32<|u (Vt s W).d,.int .u32<|u (Vt s W).e,.int .u32<|u (Vt s W).f,.int .u32<|u (Vt s W).g,.int .u32<|u (Vt s W).h]:=xso q (fun i n=>by rw[o i n,aA n]);subst I;obtain⟨Z,g1,g2,g3,g4,g5,g6,g7,_⟩:=OT j.b3;obtain⟨z0,z1,z2,z3,z4,z5,z6,z7,zf⟩:=OT j.b2;clear o hk l inv
   go_wp2
   refine jz (v:= .agg #[.int .u32<|u (Vt s W).a,.int .u32<|u (Vt s W).b,.int .u32<|u (Vt s W).c,.int .u32<|u (Vt s W).d,.int .u32<|u (Vt s W).e,.int .u32<|u (Vt s W).f,.int .u32<|u (Vt s W).g,.int .u32<|u (Vt s W).h]) ?_ rfl ⟨rfl, ?_⟩
   ·simp[aN,Tryz.results263,go_sem, *]
   exact QG _ _ _ _ _ _ _ _ _ _ _ _ (by omega) j.dI
end P
end Go.Proofs.YtjnbhiamaabbgaaGreatDoor
