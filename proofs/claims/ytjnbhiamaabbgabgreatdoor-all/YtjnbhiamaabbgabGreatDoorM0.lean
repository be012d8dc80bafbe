import Derived.Conc.Beside
set_option linter.all false
set_option maxRecDepth 100000
set_option maxHeartbeats 8000000
section
variable{P:Prop}
def À(h:P:=by omega):=h
def Á(h:P:=by grind):=h
def Â(h:P:=by simp):=h
def Æ(h:P:=by cases e):=h
def È(h:P:=by cases h):=h
def É(h:P:=by simp_all):=h
def Ô(h:P:=by grind [aI]):=h
def Õ(h:P:=by exact Yw<|g.cH O):=h
def Û(h:P:=by simp only[aI,hto];exact Yw<|g.cH O):=h
def à(h:P:=by grind [ze,hV,bJ]):=h
def ã(h:P:=by simp[h.aD]):=h
def ä(h:P:=by grind [aO,ze,hV,bJ]):=h
def æ(h:P:=by grind [aI,Yi,ze]):=h
def ë(h:P:=by grind [fQ]):=h
def í(h:P:=by simp[hV]):=h
def õ(h:P:=by rw[hq];trivial):=h
def ö(h:P:=by cases h;exact⟨ac e,g⟩):=h
def ü(h:P:=by grind [dQ]):=h
def mx(h:P:=by grind [Jo]):=h
def oz(h:P:=by simp at e):=h
def rv(h:P:=by grind [N]):=h
def sy(h:P:=by cases i):=h
def ta(h:P:=by simp[h]):=h
def xT(h:P:=by rw[xb _ _ k _ _ _ inv.b1];simp):=h
def zi(h:P:=by simp only[wF,jb,Xi,J4];grind):=h
def zs(h:P:=by simp only[Loc.low];omega):=h
def zw(h:P:=by simp[kT];exact⟨O,O⟩):=h
def KM(h:P:=by grind [Frame.finish]):=h
def za2(h:P:=by rw[q];trivial):=h
def zac(h:P:=by grind [bW]):=h
def zag(h:P:=by cases fr.roundOf with|none=>exact xz _|some l=>exact NT l):=h
def zam(h:P:=by simp only[aO,ze,dY,W,e];exact Ya _<|Yw<|j.cH<|Wm ..):=h
def zat(h:P:=by simp only[Frame.oper?,hto,ho]):=h
def zb0(h:P:=by simp[ze,u]at h;cases h;exact⟨ac e,g⟩):=h
def zb2(h:P:=by rw[<-hw];exact g.rA r):=h
def zb3(h:P:=by simp only[aO,ze,dY,i,e]at h;cases h):=h
def zbc(h:P:=by cases h;exact⟨ac<|g.jM _,j⟩):=h
def zbf(h:P:=by rw[D];trivial):=h
def zbg(h:P:=by rw[B];trivial):=h
def zcc(h:P:=by dsimp only at h;split at h;let⟨p,W,B,D⟩:=jr h;grind;cases h):=h
def zch(h:P:=by simp only[aO,ze,dY,W,i]at h;cases h;exact⟨ac<|g.jM _,j⟩):=h
def zcj(h:P:=by have:=hcr.sm.jL;rw[hq]at this;exact this):=h
def zck(h:P:=by unfold Frame.raise;split<;>exact h.qJ _):=h
def zcr(h:P:=by simp at j;subst j;exact⟨λ_=>O,i⟩):=h
def zdd(h:P:=by cases h;exact⟨bD,O,à⟩):=h
def zdg(h:P:=by simp only[ze,e]at h;cases h;exact⟨bD,O,à⟩):=h
def zdk(h:P:=by simp only[aO,ze,dY,W,e];exact tB λq t k h=>È):=h
def zdv(h:P:=by exact C (Jq (it:=dE c) m<|Jq (it:= .inLoop c) m hk) λp w=>Ô):=h
def zdw(h:P:=by exact(UF q b d a f.2 (λ_=>a.lL) Á).cH (λw=>e _ w)<|e _ v):=h
end
namespace Go.Proofs.YtjnbhiamaabbgabGreatDoor
open _root_ renaming Array->bE,Bool->ez,ByteArray->eM,Int->U,List->bA,Nat->Q,Option->dD,absurd->dC,congrArg->gv,if_false->kB,if_neg->aL,if_pos->aT,if_true->dY,rfl->O,trivial->bD,Array.setIfInBounds->aA,Array.size->V,Bind.bind->mC,Bool.false->ao,Bool.true->M,Classical.choose->pf,Except.bind->mi,Except.error->mB,False.elim->eT,List.length->T,List.range->iC,Option.none->R,Option.some->Y,Or.inl->aJ,Or.inr->ac,Pure.pure->iu
open Go renaming Code->pB,Deferred->nt,Event->me,Frame->fZ,Func->kL,GStep->qB,Goroutine->cR,MapEntry->eF,Oper->eX,Program->cI,Result->lu,Trace->gA,TypeId->oW,Value->eJ,World->dN,callDeferred->fo,doReturn->gi,execOp->aR,frozen->lZ,getObj->na,load->oe,loadBytes->lH,markStringish->jZ,program->p9,resolve->o8,results->eR,runNT->fQ,shape->lG,stepG->bW,stringish->mz,tryRecover->dQ,undef->Z',underlying->fj,unwind->dT,variablesAt->lF,yielded->fN,Builtin.delete_->iT,Code.region->fG,Code.seq->gU,Conc.awake_of->oI,Conc.crowd->gJ,Conc.runT_crowd_go->qD,Departure.mixedOrders->nf,Departure.rangeFuncRecover->iz,Extern.find->oH,Extern.findNext->kV,Frame.enter->bI,FrameMode.returning->eB,GStep.after->bJ,GStep.ended->ic,GStep.go->ij,GoStatus.running->bK,Halt.stuck->jF,IntKind.i64->bB,IntKind.u32->cJ,Item.code->dE,Item.inRangeFunc->pb,Item.inRegion->aS,Loc.cell->ma,Loc.obj->pa,MemOp.ofEvents->aZ,Mode.atomic->gE,Next.enter->nN,Next.value->gp,Obj.cells->au,Obj.isChan->qA,Outcome.stuck->iP,Region.schedule->iZ,Region.wanted->bP,RowKit.Hid->H,Stepped.next->gP,TypeDesc.string->oC,stepG.apply->aO,stepG.exec->aI
open CallKind renaming early->eK,normal->dH,report->pR
open Instr renaming beginRound->mS,checkKey->iK,endLoop->mw,endRound->lS,enterLoop->fe,findKey->cB,keyThatStays->lX,lookup->fC,mapUpdate->im,takeDeferred->fK
open Result renaming andThen->bN,halt->ft,ok->dG
open Sem renaming bind->gl,run->gc,runT->fk,runT_bind'->Yf,runT_eq->fd,run_bind'->qe,runT_eq->ze
open Value renaming agg->bY,int->aD,pointer->aU,slice->aB,string->ak,tuple->cE
open World renaming cell?->N,farLoad->mA,farStore->lR,freeze->iJ,frozen?->aX,heap->Z,noCell->iI,seen->qk,setCell->ay,shape?->dU
def JP{α:Sort _}(a:α):∃x,a=x:=⟨_,rfl⟩
def _root_.And.c{a b c d:Prop}(h:a/\b/\c/\d):d:=h.2.2.2
def _root_.And.d{a b c d e:Prop}(h:a/\b/\c/\d/\e):e:=h.2.2.2.2
def _root_.And.e{a b c d e f:Prop}(h:a/\b/\c/\d/\e/\f):f:=h.2.2.2.2.2
def _root_.And.f{a b c d e f g:Prop}(h:a/\b/\c/\d/\e/\f/\g):g:=h.2.2.2.2.2.2
def _root_.And.g{a b c d e f g P:Prop}(h:a/\b/\c/\d/\e/\f/\g/\P):P:=h.2.2.2.2.2.2.2
def _root_.And.j{a b c d e f g P i:Prop}(h:a/\b/\c/\d/\e/\f/\g/\P/\i):i:=h.2.2.2.2.2.2.2.2
theorem _root_.Go.RowKit.Hid.o{p:Prop}(h:H p):p:=h
def za:=@Array.getElem?_eq_some_iff
def zd:=@Nat.le_refl
def zl:=@Array.getElem?_setIfInBounds_ne
def zm:=@Nat.lt_of_lt_of_le
def zv:=@Option.map_eq_some_iff
def xa:=@Nat.le_trans
def xb:=@Go.cell_of_row
def xg:=@List.length_cons
def xj:=@Option.some.injEq
def xo:=@Go.run_underlying
def xt:=@Go.frozen_of_row
def xu:=@List.mem_cons_self
def xy:=@Array.getElem?_eq_getElem
def ja:=@Bool.false_eq_true
def jb:=@Array.getElem?_push
def jc:=@List.mem_cons
def jd:=@List.size_toArray
def je:=@List.mem_append
def jf:=@beq_eq_false_iff_ne
def jg:=@Classical.byContradiction
def jh:=@Nat.eq_zero_or_pos
def ji:=@Go.bodyPost_ret
def jk:=@Go.World.ownsRow_nil
def jl:=@List.length_map
def jm:=@decide_eq_true
def jn:=@Array.all_eq_true_iff_forall_mem
def jo:=@decide_eq_false
def jq:=@List.append_assoc
def js:=@Go.block_lt_of_cell
def jt:=@Array.getElem?_map
def ju:=@List.mem_singleton
def jv:=@List.eq_nil_of_length_eq_zero
def jw:=@List.mem_cons_of_mem
def jx:=@Go.heap_setCell_same
def jy:=@Bool.and_eq_true
def jz:=@List.take_length
def j7:=@Nat.zero_add
def qg:=@List.cons_append
def qh:=@List.getElem?_cons_zero
def qj:=@List.nil_append
def ql:=@Option.some.inj
def qo:=@Int.tmod_eq_emod_of_nonneg
def qt:=@Option.getD_some
def qu:=@Array.replicate_succ
def qw:=@Array.replicate_zero
def qy:=@List.length_nil
def qz:=@List.map_append
def Zh:=@List.append_toArray
def Zj:=@List.setIfInBounds_toArray
def Zn:=@List.length_drop
def Zo:=@Go.wpList_store_row
def Zq:=@List.length_replicate
def Zr:=@List.length_singleton
def Zz:=@Nat.zero_le
def Z6:=@Go.World.cell?_of_block
def Xa:=@List.push_toArray
def Xd:=@Array.mem_iff_getElem
def Xe:=@List.mem_map
def Xi:=@Array.size_push
def Xk:=@List.getElem_mem
def Xl:=@Option.map_some
def Xn:=@Array.append_assoc
def Xo:=@List.mergeSort_perm
def Xp:=@List.getElem?_append_right
def Xt:=@of_decide_eq_true
def Xu:=@Nat.le_succ
def Xy:=@Array.getElem?_setIfInBounds
def Xz:=@List.append_nil
def Ja:=@List.mem_filter
def Jc:=@List.getElem?_eq_getElem
def Jd:=@Nat.mod_eq_of_lt
def Jf:=@Go.results_cell_row
def Jg:=@Array.getElem?_modify
def Jj:=@Array.getD_eq_getD_getElem?
def Jk:=@Nat.ne_of_gt
def Jm:=@List.getElem?_cons_succ
def Js:=@List.map_cons
def Jz:=@List.getElem?_toArray
def J0:=@List.length_filter_le
def J4:=@Array.size_setIfInBounds
def J6:=@Go.wpList_load_row
def J7:=@Nat.pow_le_pow_right
def Yd:=@BitVec.or_comm
def Ye:=@List.ext_getElem?
def Yu:=@List.filter_append
def Yv:=@Array.getElem?_setIfInBounds_self_of_lt
def Yx:=@Int.le_trans
def Yy:=@Nat.add_zero
def Y3:=@List.pairwise_append
def Y4:=@List.take_append_of_le_length
def Y5:=@Nat.mul_le_mul_right
def Y8:=@decide_eq_true_eq
def Va:=@Go.Sem.events_bind
def Vf:=@Nat.two_pow_add_eq_or_of_lt
def Vl:=@List.drop_length
def Vn:=@Array.ext_getElem?
def Vo:=@Bool.and_false
def Vp:=@List.set_cons_succ
def Vy:=@List.set_append_right
def Vz:=@List.singleton_append
def Wa:=@List.getElem?_append_left
def Wb:=@List.getElem?_eq_some_iff
def We:=@beq_false_of_ne
def Wi:=@List.flatMap_cons
def Wj:=@List.map_map
def Wk:=@List.pairwise_map
def Wr:=@Option.isSome_iff_exists
def Wz:=@List.flatMap_append
def Fl:=@List.getElem_map
def Ko:=@Nat.add_sub_cancel_left
def GL:=@BitVec.toNat_ofNat
def Kr:=@List.set_cons_zero
def Cb:=@Nat.pow_succ
def DL:=@Nat.min_eq_left
def DM:=@ByteArray.ext
def Ks:=@Array.mem_of_getElem?
def Km:=@List.take_append_drop
def GK:=@List.nodup_append
def Fm:=@Bool.false_and
def Fp:=@Go.DataW.trod_int
def Oh:=@List.getD_eq_getElem?_getD
def Fq:=@List.mem_of_mem_take
def Ku:=@List.replicate_succ'
def Cd:=@Nat.mul_one
def GM:=@List.all_eq_true
def Kv:=@List.range'_succ
def DO:=@Nat.lt_or_ge
def GO:=@Option.bind_some
def DP:=@Go.wpList_plain
def Cc:=@Bool.and_true
def Og:=@List.getElem_append_left
def DN:=@Nat.lt_irrefl
def GQ:=@List.foldl_cons
def On:=@List.nodup_cons
def GT:=@UInt8.toNat_inj
def Kx:=@List.getElem?_take
def zQ:=@beq_iff_eq
def Oo:=@List.pairwise_mergeSort
def Oi:=@List.drop_eq_nil_of_le
def Oj:=@List.flatMap_replicate
def Kw:=@List.foldl_append
def Fr:=@List.map_nil
def Ol:=@List.reverse_singleton
def Om:=@Nat.div_div_eq_div_mul
def GP:=@Nat.mul_le_mul
def Oq:=@Classical.choose_spec
def Kz:=@Array.mem_append
def KB:=@List.filter_cons
def KC:=@List.mem_toArray
def Ky:=@List.not_mem_nil
def GU:=@Nat.add_assoc
def GV:=@Prod.mk.injEq
def KD:=@Nat.sub_self
@[go_sem] abbrev zq(b:Q):eJ:=aU<|some ⟨b,0,R⟩
@[go_sem] abbrev zk(b k:Q):eJ:=aU<|some ⟨b,k,R⟩
@[go_sem] abbrev J(n:U):eJ:=aD bB n
@[go_sem] abbrev zu(n:U):eJ:=aD cJ n
@[go_sem] abbrev zb(n:U):eJ:=aD .u8 n
abbrev Zl:=bA UInt8
abbrev Zy:=dN
abbrev Zv:=eJ
abbrev Zg:=cR
abbrev Zp:=cI
abbrev Z3:=BitVec 32
abbrev Za:=bE eJ
abbrev Ze:=bA eJ
abbrev Zf:=fZ
abbrev Zc:=bE kL
abbrev Zt:=oW
abbrev Zu:=Q→UInt8
abbrev ZP:=Q→Prop
abbrev Z8:=UInt8
@[go_sem] abbrev K(b k:Q):Go.Addr:=⟨b,k,R⟩
def Qa:pB→pB
 |gU x _=>x|_=> .skip
def Qb:pB→pB
 |gU _ x=>x|_=> .skip
def Qc:pB→pB
 |.cond _ x _=>x|_=> .skip
def Qd:pB→pB
 |.cond _ _ x=>x|_=> .skip
def Qk:pB→pB
 |.block _ x=>x|_=> .skip
def Ql:pB→pB
 |.loop x=>x|_=> .skip
def Qf:dD pB→pB
 |some x=>x|_=> .skip
def Qn:Q→pB→pB
 |0,c=>c|n+1,c=>Qb<|Qn n c
namespace A
variable{z S y L:Type}{k a at_:Addr}{n r:Q}{b:ez}{s:Sem Next}{aw:bE me}
open Go
section
def re(w:Zy)(t:Q->Question->Q)(d:Q):Zy:={w with tape:=t,drawn:=d}
def rW:lu z->Zy
 | dG _ w=>w| ft _ w=>w
def hV(v:Zy):lu z->lu z
 | dG a _=>dG a v| ft h _=>ft h v
theorem Ca(w t a d D):re (re w t d) a D=re w a D:=O
theorem GI(w):re w w.tape w.drawn=w:=O
def Fj(r:lu z):hV (rW r) r=r:=by cases r<;>rfl
def DI(w:Zy)(k:Q)(t:Q->Question->Q)(d:Q):Prop:=∀i q,i<k->t (d+i) q=w.tape (w.drawn+i) q
def DI.le{w k x t d}(h:DI w k t d)(hk:x<=k):DI w x t d:=λi q a=>h i q À
def tQ(w:Zy)(r:lu z)(x:Zy->lu z):Prop:=w.drawn<=(rW r).drawn/\(rW r).tape=w.tape/\
 ∀t d,DI w ((rW r).drawn-w.drawn) t d->x (re w t d)=hV (re (rW r) t<|d+((rW r).drawn-w.drawn)) r
def qI:lu z->Prop
 | dG _ _=>True| ft (.panic _) _=>True
 |_=>False
def J2:Halt->Prop
 | .blocked| .waiting| .goexit| .fatal _| .throw _| .unsupported (.initOrder _)=>False
 |_=>True
def tR:lu z->Prop
 | dG _ _=>True| ft h _=>J2 h
def GH(P:Zp)(t:Zt):ez:=match P.underlying t with
 |some (.chan ..)=>ao|_=>M
def BZ(P:Zp)(b:Builtin)(t:bE Zt):ez:=match b with
 | .append| .clear| .copy| .delete| .max| .min| .panic| .recover| .unsafeSliceData| .unsafeString=>M
 | .len| .cap=>match t[0]?with
  |some u=>GH P u|none=>M
 |_=>ao
def Wn(P:Zp):Target->ez
 | .builtin b t _ _=>BZ P b t| .coroexit _=>ao
 |_=>M
def NK(P:Zp)(x D:Zt):ez:=match P.underlying x,P.underlying D with
 |some (.int _),Y (.int _)=>M|some (.int _),Y oC=>M
 |some oC,Y oC=>M
 |some oC,Y (.slice e)=>match P.underlying e with
  |some (.int .u8)=>M|_=>ao
 |some (.slice e),Y oC=>match P.underlying e with
  |some (.int .u8)=>M|_=>ao
 |_,_=>ao
def Fk(P:Zp)(c:Call):ez:=match c.callee with
 | .builtin b=>BZ P b c.argTypes|_=>M
def vy(P:Zp)(o:Op):ez:=match o with
 | .convert x D _=>NK P x D| .call c| .defer c=>Fk P c
 | .go _| .send ..| .recv ..| .select ..| .ready _| .waits _=>ao
 |_=>M
def DG:Op->ez
 | .defer _=>M|_=>ao
def wk(P:Zp)(b:ez)(x:bE eX):ez:=x.all λo=>vy P o.op&&(b|| !DG o.op)
def q9(P:Zp)(b:ez):pB->ez
 | fG _ o _=>wk P b o| gU x y=>q9 P b x&&q9 P b y
 | .cond _ x y=>q9 P b x&&q9 P b y| .block _ x=>q9 P b x
 | .loop x=>q9 P b x| .scope x=>q9 P b x
 | .rangeFunc _ _ x y=>q9 P ao x&&q9 P ao y|_=>M
structure jW(P:Zp)(o:dD Obj):Prop where
 iR:∀c e,o≠Y (.pending c e)
 tN:∀D,o=Y (.deferred<|some D)->∀d∈D,Wn P d.target=M
 ry:∀l,o=Y (.loop l)->q9 P ao l.assign=M/\q9 P ao l.body=M/\(∀c,l.pending=Y c->q9 P ao c=M)/\P.inits.idxOf? l.fn=R
theorem jW.lz{P:Zp}:jW P R:=⟨λ_ _ h=>È,λ_ h=>È,λ_ h=>È⟩
theorem jW.G{P c}{e:Zt}{f}:jW P<|some<|au c e f:=⟨λ_ _ h=>È,λ_ h=>È,λ_ h=>È⟩
def GA:Obj->ez
 | .chan ..| .loop _| .deferred _| .pending ..| .map ..=>M
 |_=>ao
def NR(o x:Obj):Prop:=(o.isChan=M/\GA x=M)\/∃c e,o=au #[] e (0,0)/\x=au c e (0,0)
structure PnT where
 N:Q
 V:Q->dD Obj
abbrev Pn:=Inhabited PnT
abbrev Pn.N[p:Pn]:Q:=p.default.N
abbrev Pn.V[p:Pn]:Q->dD Obj:=p.default.V
variable[pn:Pn]
def xl1(X:ZP)(w v:Zy):Prop:=Pn.N<=V (Z w)/\∀r,X r->r<Pn.N->v.heap[r]?=Pn.V r\/v.heap[r]?=w.heap[r]?
structure Sm(P:Zp)(X:ZP)(w v:Zy):Prop where
 aD:V (Z v)=V (Z w)
 out:∀r,¬X r->v.heap[r]?=w.heap[r]?
 jH:∀r,X r->∃o x,w.heap[r]?=Y o/\v.heap[r]?=Y x/\NR o x
 rA:∀r:Q,jW P w.heap[r]?
 nQ:v.tape=w.tape
 gY:v.drawn=w.drawn
 os:v.os=w.os
 cX:v.output=w.output
 rl:xl1 X w v
def vx(X:ZP)(n:Q)(e:me):Prop:=
 match e.loc with
 | ma a=>¬X a.block/\a.block<n| pa r=>(X r->e.write=ao)/\r<n
 | .mark .noRoom=>True| .mark (.extern _)=>True
 | .output=>True|_=>False
def vx.U{X m e}(h:vx X n e)(a:n<=m):vx X m e:=by grind [vx]
structure CR{z:Type}(P:Zp)(X:ZP)(v:Zy)(aw:bE me)(r:lu z)(p:lu z×bE me)(q:Zy)(t:bE me):Prop where
 eq:p=(hV q r,aw++t)
 sm:Sm P X (rW r) q
 iQ:∀x,X x->q.heap[x]?=v.heap[x]?
 tz:∀e∈t,vx X (V<|Z q) e
 io:V (Z v)<=V (Z q)
structure Bl{z:Type}(P p:Zp)(X:ZP)(s:Sem z):Prop where
 nh:∀w v aw,Sm P X w v->qI (s.run p w)->∃q x,CR P X v aw (s.run p w) (s.runT P v aw) q x
 oK:∀w,Sm P X w w->qI (s.run p w)->tQ w (s.run p w) (s.run p)
 km:∀w,Sm P X w w->tR (s.run p w)
section
variable{P D:cI}{X:Q->Prop}
def Sm.jL{w v}(h:Sm P X w v):Sm P X w w:=⟨O,λ_ _=>O,λr d=>by obtain⟨o,i,a,f,⟨b,g⟩|⟨c,e,rfl,rfl⟩⟩:=h.jH r d;exact⟨o,o,a,a,aJ ⟨b,by cases o<;>cases b;rfl⟩⟩;exact⟨_,_,a,a,ac ⟨_,_,O,O⟩⟩,h.rA,O,O,O,O,⟨h.rl.1,λ_ _ _=>ac O⟩⟩
def xm3{s}{k:z->Sem S}(f:Bl P D X s)(hk:∀a,Bl P D X<|k a):Bl P D X<|s.bind k:=by
 refine⟨λw v g c b=>?_,λw c b=>?_,λw c=>?_⟩;rotate_left 2;rw[qe D s k w];let l:=f.km w c;cases hq:s.run D w with|halt hh W=>rw[hq]at l;exact l|ok a W=>let⟨C,u,I⟩:=f.nh w w #[] c õ;rw[hq]at I;exact(hk a).km W I.sm.jL
 rw[qe D s k w]at b⊢;rw[Yf P s k v g];cases B:s.run D w with
 |halt hh W=>
  rw[B]at b;let⟨C,u,h⟩:=f.nh w v g c (by rw[B];revert b;cases hh<;>exact id);rw[B]at h;refine⟨C,u,⟨?_,h.sm,h.iQ,h.tz,h.io⟩⟩;rw[h.eq];rfl
 |ok a W=>rw[B]at b;let⟨C,u,h⟩:=f.nh w v g c zbg;rw[B]at h;let⟨v'',new',F⟩:=(hk a).nh W C (g++u) h.sm b;refine⟨v'',u++new',⟨?_,F.sm,λx m=>(F.iQ x m).trans<|h.iQ x m,?_,xa h.io F.io⟩⟩;rw[h.eq];show(k a).runT P C (g++u)=_;rw[F.eq,Xn];rfl;intro e o;obtain x|x:=Kz.1 o;exact(h.tz e x).U F.io;exact F.tz e x
 let n:=qe D s k;unfold tQ;simp only[n]at b⊢;cases B:s.run D w with
 |halt h W=>
  rw[B]at b;let⟨h1,G,A⟩:=f.oK w c (by rw[B];revert b;cases h<;>exact id);rw[B]at h1 G A;refine⟨h1,G,λt d j=>?_⟩;rw[A t d j];rfl
 |ok a W=>
  rw[B]at b;let⟨h1,G,A⟩:=f.oK w c zbg;rw[B]at h1 G A;simp only[rW,hV]at h1 G A;let⟨C,u,I⟩:=f.nh w w #[] c zbg;rw[B]at I;let⟨k1,k2,k3⟩:=(hk a).oK W I.sm.jL b;show w.drawn<=(rW<|(k a).run D W).drawn/\(rW<|(k a).run D W).tape=w.tape/\∀t d,DI w ((rW<|(k a).run D W).drawn-w.drawn) t d->_=hV (re (rW<|(k a).run D W) t<|d+((rW<|(k a).run D W).drawn-w.drawn)) ((k a).run D W);refine⟨À,k2.trans G,λt d j=>?_⟩;rw[A t d<|j.le À];let:=k3 t (d+(W.drawn-w.drawn)) (λi q p=>by
   let:=j (W.drawn-w.drawn+i) q À
   grind)
  rw[show d+(W.drawn-w.drawn)+((rW _).drawn-W.drawn)=d+((rW<|(k a).run D W).drawn-w.drawn) by omega]at this;exact this
theorem AG{s}{k:z->Sem S}(b:Bl P D X s)(hk:∀a,Bl P D X<|k a):Bl P D X<|s>>=k:=xm3 b hk
def B3{s}(r:Zy->lu z)(h:∀w,rW (r w)=w)(g:∀w t d,r (re w t d)=hV (re w t d) (r w))(j:∀w,tR<|r w)(c:∀w,s.run D w=r w)
  (a:∀w v aw,Sm P X w v->qI (r w)->∃x,s.runT P v aw=(hV v<|r w,aw++x)/\∀e∈x,vx X (V<|Z v) e):Bl P D X s:=by
 refine⟨λw v aw f b=>?_,λw f b=>?_,λw _=>Á⟩;rw[c]at b⊢;let⟨x,q,p⟩:=a w v aw f b;exact⟨v,x,⟨q,Á,λ_ _=>O,p,zd _⟩⟩;grind [tQ]
theorem W7(a):Bl P D X (iu a:Sem z):=
 B3 (dG a) (λ_=>O) (λ_ _ _=>O) (λ_=>bD) (λ_=>O) (λw v b _ _=>⟨#[],by simp[iu,fk,hV,-fd],Â⟩)
def zO(h)(a:J2 h):Bl P D X (Sem.halt h:Sem z):=
 B3 (ft h) (λ_=>O) (λ_ _ _=>O) (λ_=>a) (λ_=>O) (λw v b _ _=>⟨#[],by grind [fk,hV],Â⟩)
theorem TE(m)(b:m= .noRoom\/∃f,m= .extern f):Bl P D X<|mark m:=
 B3 (λw=>dG () w) (λ_=>O) (λ_ _ _=>O) (λ_=>bD) (λ_=>O) (λw v c _ _=>⟨#[⟨.mark m,ao,M⟩],by simp[mark,fk,hV,-fd],λe a=>by simp at a;subst a;obtain rfl|⟨f,rfl⟩:=b<;>exact bD⟩)
def Sm.eQ{w v}(h:Sm P X w v)(a):aX v a=aX w a:=by
 unfold aX;by_cases b:X a.block;obtain⟨o,j,d,f,⟨g,i⟩|⟨c,e,rfl,rfl⟩⟩:=h.jH _ b;rw[d,f];cases o<;>cases g
 cases j<;>cases i<;>rfl
 grind;rw[h.out _ b]
def xi3(a):Bl P D X<|Go.frozen a:=
 B3 (λw=>dG (aX w a) w) (λ_=>O) (λ_ _ _=>O) (λ_=>bD) (λ_=>O) (λw v c b _=>⟨#[],by simp[lZ,fk,hV,b.eQ a,-fd],Â⟩)
theorem Xq{k:Zp->Sem z}(h:k P=k D)(hk:Bl P D X<|k D):Bl P D X<|program>>=k:=by
 let d:∀w,(p9>>=k).run D w=(k D).run D w:=λw=>O;let e:∀w a,(p9>>=k).runT P w a=(k D).runT P w a:=λw a=>É
 refine⟨λw v a b c=>?_,λw b c=>?_,λw b=>by rw[d];exact hk.km w b⟩;rw[d]at c⊢;rw[e];exact hk.nh w v a b c;rw[d]at c;let:=hk.oK w b c;grind [tQ]
def xi2(q):Bl P D X<|choose q:=by
 let x:∀p w,(choose q).run p w=if q.forced then dG 0 w else dG (q.cut<|w.tape w.drawn q) {w with drawn:=w.drawn+1}:=λp w=>Â
 refine⟨λw v e a b=>?_,λw a b=>?_,λw _=>by rw[x];split<;>trivial⟩;rw[x];split;exact⟨v,#[],⟨by grind [choose,fk,hV],a,λ_ _=>O,Â,zd _⟩⟩;refine⟨{v with drawn:=v.drawn+1},#[],⟨?_,⟨a.aD,a.out,a.jH,a.rA,a.nQ,by simp[rW,a.gY],a.os,a.cX,a.rl⟩,λ_ _=>O,Â,zd _⟩⟩;simp[choose,fk, *,hV,a.nQ,a.gY,-fd];unfold tQ;simp only[x];split;grind [rW,hV];refine⟨by simp[rW],O,λt d c=>?_⟩;let:=c 0 q<|by simp[rW]
 grind [rW,hV,re]
theorem Sm.vw{w v}(h:Sm P X w v)(r)(a:X r):r<V (Z w):=by let⟨o,x,e,q,_⟩:=h.jH r a;grind
def Sm.jK{w v}(h:Sm P X w v)(o)(ho:jW P<|some o):Sm P X {w with heap:=w.heap.push o} {v with heap:=v.heap.push o}:=by
 refine⟨ã,λr a=>?_,λr a=>?_,λr=>by
  rw[jb];split;exact ho;exact h.rA r,h.nQ,h.gY,h.os,h.cX,⟨by let:=h.rl.1;grind,λr a b=>by
  let:=h.vw r a;simp only[jb,h.aD,show r≠V (Z w) by omega,kB];exact h.rl.2 r a b⟩⟩
 simp[jb,h.aD];split;rfl;exact h.out r a;let:=h.vw r a;simp only[jb,h.aD,show r≠V (Z w) by omega,kB];exact h.jH r a
def xxm(o)(ho:jW P<|some o):Bl P D X<|newObj o:=by let q:∀p w,(newObj o).run p w=dG (V<|Z w) {w with heap:=w.heap.push o}:=λ_ _=>O;refine⟨λw v d a b=>?_,λw a b=>?_,λw _=>za2⟩;rw[q];refine⟨{v with heap:=v.heap.push o},#[],⟨?_,a.jK o ho,λx c=>?_,Â,Â⟩⟩;simp[newObj,fk,hV,a.aD,-fd];let:=a.vw x c;simp[jb,a.aD,show x≠V (Z w) by omega,kB];grind [tQ,rW,hV,re]
def AD{w:Zy}{x}(hx:N w a=Y x):a.block<V (Z w):=rv
def Sm.i{w v}(h:Sm P X w v)(b:¬X a.block):N v a=N w a:=by simp[N,h.out _ b]
def Sm.oL{w v}(h:Sm P X w v)(d:X a.block):N w a=R/\(∀s,w.noCell a s=jF s)/\∀at_ u,w.heap[a.block]?≠Y (.view at_ u):=by
 obtain⟨o,j,f,g,⟨b,i⟩|⟨c,e,rfl,rfl⟩⟩:=h.jH _ d;cases o<;>cases b
 grind [N,iI];grind [N,iI]
def Ui{p}{w v:Zy}{u:Zt}(h:v.heap[at_.block]?=w.heap[at_.block]?):v.seen p at_ u k b=w.seen p at_ u k b:=by unfold qk;rw[h]
def xav{p}:∀(d:Q) (t:Zt) (o:Q) (x:Zv),plainCell p d t o=Y x->∃b B,x.bytes?=Y (b::B):=by
 intro d;induction d with
 |zero=>intro t o x h;cases h
 |succ d I=>
  intro t o x h;unfold plainCell at h;split at h;let⟨f,q,j⟩:=Array.exists_of_findSome?_eq_some h;grind;grind;split at h<;>cases h;exact⟨_,_,O⟩
  split at h<;>cases h
  cases ‹IntKind›<;>exact⟨_,_,O⟩
  split at h<;>cases h
  cases ‹FloatKind›<;>exact⟨_,_,O⟩
  split at h<;>cases h
  cases ‹FloatKind›<;>exact⟨_,_,O⟩
  grind
def zsq{p}{e:Zt}{f x stop}(h:x<stop):∃W,seenCells p #[] e f x stop=mB W:=by cases f with|zero=>exact⟨_,O⟩|succ f=>unfold seenCells;rw[aL À];dsimp only;split;grind;split;grind;simp
def Sm.tO{w v}(d:Sm P X w v)(p)(hx:X at_.block)(u:Zt)(k b):∃W,w.seen p at_ u k b=mB W:=by
 let⟨o,i,t,C,h⟩:=d.jH _ hx;unfold qk;simp only[mC,mi,iu,Except.pure,t];split;exact⟨_,O⟩;cases j:plainCell p p.depth u k.off with
 |none=>exact⟨_,O⟩
 |some l=>
  let⟨y,q,m⟩:=xav _ _ _ _ j;simp only[m,Xl];cases byteOfCell p p.depth u k.off with
  |none=>exact⟨_,O⟩
  |some S=>
   obtain⟨a,g⟩|⟨c,e,rfl,rfl⟩:=h;cases o<;>cases a
   exact⟨_,O⟩;dsimp only;split;exact⟨_,O⟩;split;rename_i B _;let⟨W,F⟩:=zsq (p:=p) (e:=e) (f:=T (y::q)+1) (x:=at_.off/p.cellsOf e*p.bytesOf e+B+S) (stop:=at_.off/p.cellsOf e*p.bytesOf e+B+S+T (y::q)) Â;simp_all;exact⟨_,O⟩
structure AC(P D:Zp):Prop where
 hU:∀(w:Zy) at_ u k b,w.seen D at_ u k b=w.seen P at_ u k b
 Gx:∀u,tight D D.depth u=tight P P.depth u
def xbs{p}{w:Zy}{u:Zt}{x l}(h:w.viewLoad p at_ u k b= .ok (x,l)):(∀y∈l,y.block=at_.block)/\at_.block<V (Z w):=by
 unfold World.viewLoad at h;cases t:w.seen p at_ u k b with
 |error e=>rw[t]at h;cases h
 |ok s=>
  let⟨c,e,F,first,q,C⟩:=s;rw[t]at h;simp only[mC,mi]at h;cases j:Value.ofBytes q (C.flatMap λ(_,s,B)=>(B.drop (first-s)).take (first+((q.bytes?.map (T ·)).getD 0)-max first s))with
  |none=>simp_all
  |some y=>
   simp only[j]at h;cases h;refine⟨λy f=>?_,?_⟩;grind
   ·apply jg;intro a;let d:w.heap[at_.block]?=R:=Array.getElem?_eq_none À;unfold qk at t;simp only[mC,mi,d]at t;repeat' split at t
    all_goals cases t
end
end
section
variable[pn:Pn]
section
variable{P P':cI}{X:Q->Prop}
def AC.yg(x:AC P P'){w v:Zy}(h:v.heap[at_.block]?=w.heap[at_.block]?)(u:Zt)(k b):v.viewLoad P at_ u k b=w.viewLoad P' at_ u k b:=by unfold World.viewLoad;rw[x.hU,Ui h]
def Kh{p w}(a m):(oe a m).run p w=match N w a with
  |some v=>dG v w
  |none=>match w.farLoad p a (m==gE)with
   | .ok (v,_)=>dG v w| mB h=>ft h w:=by
 grind [oe,gc]
def xoo{p w}(a m aw):(oe a m).runT p w aw=match N w a with
  |some v=>(dG v w,aw.push ⟨ma a,ao,m==gE⟩)
  |none=>match w.farLoad p a (m==gE)with
   | .ok (v,t)=>(dG v w,aw++t.toArray.map (⟨.cell ·,ao,m== .atomic⟩))| mB h=>(ft h w,aw):=by
 grind [oe,fk]
def xoq(a m p w t d):(oe a m).run p (re w t d)=hV (re w t d) ((oe a m).run p w)/\rW ((oe a m).run p w)=w:=by let e:N (re w t d) a=N w a:=O;let f:(re w t d).farLoad p a _=w.farLoad p a (m==gE):=O;unfold oe;simp only[gc,e,f];cases N w a with|some x=>exact⟨O,O⟩|none=>cases w.farLoad p a _ with|ok x=>exact⟨O,O⟩|error x=>exact⟨O,O⟩
def xns(q:AC P P'){w v}(c:Sm P X w v)(a b){x l}(h:w.farLoad P' a b= .ok (x,l)):
  v.farLoad P a b= .ok (x,l)/\∀y∈l,¬X y.block/\y.block<V (Z v):=by
 unfold mA at h⊢;by_cases g:X a.block;let j:=(c.oL g).2.2;grind;rw[c.out _ g];cases p:w.heap[a.block]?with
 |none=>grind
 |some o=>
  rw[p]at h;cases o with
  |view at_ u=>
   simp only at h⊢;by_cases d:X at_.block;obtain⟨f,i⟩:=c.tO _ d u a b;let:w.viewLoad P' at_ u a b=mB f:=by unfold World.viewLoad;rw[i];rfl
   grind;rw[q.yg (c.out _ d) u a b];cases t:w.viewLoad P' at_ u a b with
   |error z=>grind
   |ok z=>
    rw[t]at h;cases h;let⟨m,W⟩:=xbs t;exact⟨O,λy e=>by rw[m y e];exact⟨d,c.aD▸W⟩⟩
  |_=>cases h
def xsb(q:AC P P')(a m):Bl P P' X<|Go.load a m:=by
 refine⟨λw v n d f=>?_,λw d f=>?_,λw d=>?_⟩;rotate_left 2;rw[Kh];let j:=(d.rA a.block).iR;cases p:N w a with
 |some x=>trivial
 |none=>
  cases b:w.farLoad P' a _ with
  |ok z=>trivial
  |error h=>
   unfold mA iI at b;cases t:w.heap[a.block]?with
   |none=>rw[t]at b;cases b;trivial
   |some o=>
    rw[t]at b j;cases o with
    |view at_ u=>
     simp only at b;cases W:w.viewLoad P' at_ u a (m==gE)with|ok z=>grind|error z=>rw[W]at b;cases b;trivial
    |pending c e=>grind|_=>cases b;trivial
 rw[Kh]at f⊢;rw[xoo];by_cases i:X a.block;exfalso;let⟨D,B,C⟩:=d.oL i;let b:w.farLoad P' a (m==gE)=mB (jF "load: no such cell"):=by unfold mA;rw[B];split;grind;rfl
 rw[D,b]at f;exact f;rw[d.i i];cases p:N w a with
 |some x=>exact⟨v,#[⟨ma a,ao,m==gE⟩],⟨í,d,λ_ _=>O,λe g=>by simp at g;subst g;exact⟨i,d.aD▸AD p⟩,zd _⟩⟩
 |none=>
  rw[p]at f;cases b:w.farLoad P' a _ with
  |ok z=>
   let⟨x,l⟩:=z;let⟨D,B⟩:=xns q d a _ b;rw[D];refine⟨v,l.toArray.map (⟨.cell ·,ao,m== .atomic⟩),⟨í,d,λ_ _=>O,λe g=>?_,zd _⟩⟩;simp at g;obtain⟨y,k,rfl⟩:=g;exact B y k
  |error h=>
   rw[b]at f;exfalso;revert f;unfold mA iI at b;cases t:w.heap[a.block]?with
   |none=>rw[t]at b;cases b;exact id
   |some o=>
    rw[t]at b;cases o with
    |view at_ u=>
     simp only at b;cases W:w.viewLoad P' at_ u a (m==gE)with|ok z=>grind|error z=>rw[W]at b;cases b;exact id
    |_=>cases b;exact id
 unfold tQ;let:=xoq a m P' w;rw[(this w.tape w.drawn).2];grind
theorem Sm.H{w v}(h:Sm P X w v)(d:¬X a.block)(x):Sm P X (ay w a x)<|ay v a x:=by
 refine⟨by simp[ay,h.aD],λr c=>?_,λr c=>?_,λr=>?_,h.nQ,h.gY,h.os,h.cX,⟨by simp[ay,Array.size_modify];exact h.rl.1,λr c g=>by let b:a.block≠r:=λe=>d<|e▸c;simp only[ay,Jg,b,kB];exact h.rl.2 r c g⟩⟩;simp[ay,Jg,h.out r c];let b:a.block≠r:=λe=>d<|e▸c;simp only[ay,Jg,b,kB];exact h.jH r c;let f:=h.rA r;simp only[ay,Jg];split;cases q:w.heap[r]?with|none=>grind|some o=>rw[q]at f;cases o with|cells=>exact .G|_=>exact f
 omega
def xp6{w:Zy}(b:¬X a.block)(x r)(c:X r):(ay w a x).heap[r]?=w.heap[r]?:=by grind [ay]
theorem Sm.yh{w v}(h:Sm P X w v)(hx:¬X r)(o)(ho:jW P<|some o):Sm P X {w with heap:=aA w.heap r o} {v with heap:=aA v.heap r o}:=by
 refine⟨ã,λs b=>?_,λs b=>?_,λs=>?_,h.nQ,h.gY,h.os,h.cX,⟨by simp[J4];exact h.rl.1,λs b c=>by let a:r≠s:=λe=>hx<|e▸b;simp only[Xy,a,kB];exact h.rl.2 s b c⟩⟩;simp[Xy,h.aD,h.out s b];let a:r≠s:=λe=>hx<|e▸b;simp only[Xy,a,kB];exact h.jH s b;show jW P (aA w.heap r o)[s]?;rw[Xy];repeat' split
 exact ho;exact .lz;exact h.rA s
def Ub{w:Zy}(a:¬X r)(o s)(b:X s):(aA w.heap r o)[s]?=w.heap[s]?:=Á
def cY:Zv->ez
 | bY _=>M| cE _=>M
 |_=>ao
theorem GG{p w}(a x m):(Go.store a x m).run p w=
  (if cY x then ft (jF "store: not the value of one cell") w else
  match N w a with
  |some _=>if aX w a then ft (.unsupported<|.unsafePointer "a write to bytes that a string shares") w else dG () (ay w a x)
  |none=>match w.farStore p a x (m==gE)with
   | .ok (w,_)=>dG () w| mB h=>ft h w:lu Unit):=by
 cases x<;>rfl
def xk3{p w}(a x m aw):(Go.store a x m).runT p w aw=
  (if cY x then(ft (jF "store: not the value of one cell") w,aw)else
  match N w a with
  |some _=>if aX w a then(ft (.unsupported<|.unsafePointer "a write to bytes that a string shares") w,aw)else(dG ()<|ay w a x,aw.push ⟨ma a,M,m==gE⟩)
  |none=>match w.farStore p a x (m==gE)with
   | .ok (w,t)=>(dG () w,aw++t.toArray.map (⟨.cell ·,M,m== .atomic⟩))| mB h=>(ft h w,aw):lu Unit×bE me):=by
 cases x<;>rfl
def xei{p}{w:Zy}{u:Zt}{c}{e:Zt}{F first d a}
  (h:w.seen p at_ u k b= .ok (c,e,F,first,d,a)):w.heap[at_.block]?=Y (au c e F):=by
 unfold qk at h;simp only[mC,mi,iu,Except.pure]at h;repeat' split at h
 all_goals cases h
 all_goals omega
def NU(p)(w v:Zy)(at_)(u:Zt)(k x b)(h:v.heap[at_.block]?=w.heap[at_.block]?):
  (∃e,w.viewStore p at_ u k x b=mB e/\v.viewStore p at_ u k x b=mB e)\/
  (∃o l,w.viewStore p at_ u k x b= .ok ({w with heap:=aA w.heap at_.block o},l)/\v.viewStore p at_ u k x b= .ok ({v with heap:=aA v.heap at_.block o},l)/\(∀y∈l,y.block=at_.block)/\at_.block<V (Z w)/\∃c e f,o=au c e f):=by
 unfold World.viewStore;rw[Ui h];cases t:tight p p.depth u with
 |false=>exact aJ ⟨_,O,O⟩
 |true=>
  cases j:w.seen p at_ u k b with
  |error e=>exact aJ ⟨e,O,O⟩
  |ok s=>
   let⟨c,e,F,first,q,C⟩:=s;let d:=xei j;cases W:x.bytes? with
   |none=>exact aJ ⟨_,O,O⟩
   |some B=>
    by_cases g:Y (T B)=q.bytes?.map (T ·);simp[Bool.not_true,ja,kB,mC,mi,iu,Except.pure,ne_eq,g,not_true_eq_false];generalize i:List.foldlM (m:=Except String) _ c C=aw;cases aw with|error e=>grind|ok D=>grind
    refine aJ ⟨ "memory seen as another type: a value of another size",?_,?_⟩<;>
    ·simp[Bool.not_true,ja,kB,mC,mi,ne_eq,g,not_false_eq_true,dY];rfl
def AC.wj(q:AC P P')(w:Zy)(at_)(u:Zt)(k x b):w.viewStore P' at_ u k x b=w.viewStore P at_ u k x b:=by unfold World.viewStore;rw[q.hU,q.Gx]
def xjk(W:AC P P'){w v}(d:Sm P X w v)(a x b){D l}(h:w.farStore P' a x b= .ok (D,l)):
  ∃r o,¬X r/\(∃c e f,o=au c e f)/\D={w with heap:=aA w.heap r o}/\v.farStore P a x b= .ok ({v with heap:=aA v.heap r o},l)/\∀y∈l,y.block=r/\r<V (Z v):=by
 unfold lR at h⊢;by_cases m:X a.block;let z:=(d.oL m).2.2;grind;rw[d.out _ m];cases C:w.heap[a.block]?with
 |none=>grind
 |some o=>
  rw[C]at h;cases o with
  |view at_ u=>
   simp only at h⊢;by_cases g:X at_.block;obtain⟨t,s⟩:=d.tO _ g u a b;exfalso;let:∃y,w.viewStore P' at_ u a x b=mB y:=by unfold World.viewStore;rw[s];cases tight P' P'.depth u<;>exact⟨_,O⟩
   grind;obtain⟨e,j,k⟩|⟨o,B,j,k,n,p,q⟩:=NU P' w v at_ u a x b (d.out _ g);grind;rw[j]at h;cases h;refine⟨at_.block,o,g,q,O,?_,λy i=>⟨n y i,d.aD▸p⟩⟩;rw[<-W.wj,k]
  |_=>cases h
theorem TO{p w x h}(c:w.farStore p a x b=mB h):¬qI (ft h w:lu Unit):=by
 unfold lR iI at c;cases q:w.heap[a.block]?with
 |none=>rw[q]at c;cases c;exact id
 |some o=>
  rw[q]at c;cases o with
  |view at_ u=>
   simp only at c;cases t:w.viewStore p at_ u a x b with|ok z=>grind|error z=>rw[t]at c;cases c;exact id
  |_=>cases c;exact id
def xm4(W:AC P P')(a x m):Bl P P' X<|Go.store a x m:=by
 refine⟨λw v h2 g f=>?_,λw g f=>?_,λw g=>?_⟩;rotate_left 2;rw[GG];let G:=(g.rA a.block).iR;split;trivial;cases hc:N w a with
 |some y=>dsimp only;split<;>trivial
 |none=>
  cases b:w.farStore P' a x _ with
  |ok z=>trivial
  |error h=>
   unfold lR iI at b;cases ho:w.heap[a.block]?with
   |none=>rw[ho]at b;cases b;trivial
   |some o=>
    rw[ho]at b G;cases o with
    |view at_ u=>
     simp only at b;cases hl:w.viewStore P' at_ u a x (m==gE)with|ok z=>grind|error z=>rw[hl]at b;cases b;trivial
    |pending c e=>grind|_=>cases b;trivial
 rw[GG]at f⊢;rw[xk3];by_cases i:cY x=M;rw[aT i]at f;exact f.elim;rw[aL i]at f⊢;rw[aL i];by_cases k:X a.block;exfalso;let⟨h1,p,q⟩:=g.oL k;let b:w.farStore P' a x (m==gE)=mB (jF "store: no such cell"):=by unfold lR;rw[p];split;grind;rfl
 rw[h1,b]at f;exact f;rw[g.i k];cases hc:N w a with
 |some y=>
  rw[hc]at f;rw[g.eQ a];cases hz:aX w a with|true=>rw[hz]at f;exact f.elim|false=>refine⟨ay v a x,#[⟨ma a,M,m==gE⟩],⟨í,g.H k x,λr n=>xp6 k x r n,λe j=>?_,Â⟩⟩;simp at j;subst j;exact⟨k,by simp[ay,g.aD];exact AD hc⟩
 |none=>rw[hc]at f;cases b:w.farStore P' a x (m==gE)with|error h=>grind [TO]|ok z=>let⟨w',l⟩:=z;obtain⟨r,o,n,⟨B,C,D,rfl⟩,rfl,p,q⟩:=xjk W g a x (m==gE) b;simp only[p];refine⟨{v with heap:=aA v.heap r<|au B C D},l.toArray.map (⟨.cell ·,M,m== .atomic⟩),⟨í,g.yh n _ .G,λs A=>Ub n _ s A,λe j=>?_,Â⟩⟩;simp at j;obtain⟨y,I,rfl⟩:=j;let⟨e1,e2⟩:=q y I;exact⟨Á,Á⟩
 unfold tQ;rw[GG]at f⊢;by_cases i:cY x=M;rw[aT i]at f;exact f.elim;rw[aL i]at f⊢;let F:∀t d,N (re w t d) a=N w a:=λ_ _=>O;let hx:∀t d,aX (re w t d) a=aX w a:=λ_ _=>O;cases hc:N w a with
 |some y=>grind [GG,rW,hV,re,ay]
 |none=>
  rw[hc]at f;cases b:w.farStore P' a x (m==gE)with
  |error h=>grind [TO]
  |ok z=>
   let⟨w',l⟩:=z;let L:∃r o,w'={w with heap:=aA w.heap r o}/\∀t d,(re w t d).farStore P' a x (m==gE)= .ok ({re w t d with heap:=aA w.heap r o},l):=by
    unfold lR iI at b⊢;cases ho:w.heap[a.block]?with
    |none=>grind
    |some o=>
     rw[ho]at b;cases o with
     |view at_ u=>
      simp only at b;obtain⟨e,e1,e2⟩|⟨o,l',e1,e2,e3,e4,_⟩:=NU P' w w at_ u a x (m==gE) O;grind;rw[e1]at b;cases b;refine⟨at_.block,o,O,λt d=>?_⟩;rw[show(re w t d).heap=w.heap from O,ho];simp only;obtain⟨e,f1,f2⟩|⟨o',l'',f1,f2,f3,f4,_⟩:=NU P' w (re w t d) at_ u a x (m==gE) O;grind;rw[f2];rw[e1]at f1;let hd:aA w.heap at_.block o=aA w.heap at_.block o':=gv World.heap<|(Prod.mk.inj<|Except.ok.inj f1).1;rw[((Prod.mk.inj<|Except.ok.inj f1).2),hd];rfl
     |_=>cases b
   grind [GG,rW,hV,re]
def Yg(r p w):(na r).run p w=match w.heap[r]?with
   |some (au ..)=>ft (jF "getObj: a row of cells") w|some o=>dG o w
   |none=>ft (jF "getObj: no such block") w:=by
 grind [na,gc]
def zzq(r p w aw):(na r).runT p w aw=match w.heap[r]?with
   |some (au ..)=>(ft (jF "getObj: a row of cells") w,aw)|some o=>(dG o w,aw.push ⟨pa r,ao,o.isChan⟩)
   |none=>(ft (jF "getObj: no such block") w,aw):=by
 grind [na,fk]
def xsa{k:Obj->Sem S}(hk:∀o,¬X r->jW P (Y o)->Bl P P' X (k o))(hd:∀o,o.isChan=M->∀w,¬qI ((k o).run P' w)/\tR ((k o).run P' w)):Bl P P' X<|getObj r>>=k:=by
 let m:∀w,(na r>>=k).run P' w=((na r).run P' w).andThen λo u=>(k o).run P' u:=qe P' _ _;let j:∀w,Sm P X w w->qI ((na r>>=k).run P' w)->∃o,¬X r/\jW P (Y o)/\∀t d,(na r>>=k).run P' _=(k o).run P' (re w t d):=λw g a=>by
  rw[m,Yg]at a;cases hw:w.heap[r]?with
  |none=>rw[hw]at a;exact a.elim
  |some o=>
   rw[hw]at a;have b:¬X r:=λb=>by
    obtain⟨p,G,i,B,⟨q,C⟩|⟨c,e,rfl,rfl⟩⟩:=g.jH _ b;rw[hw]at i;cases i;cases o<;>cases q
    exact(hd _ O _).1 a;rw[hw]at i;cases i;exact a
   refine⟨o,b,zb2,λt d=>?_⟩;rw[m,Yg,show(re w t d).heap[r]?=w.heap[r]?from O,hw];cases o with|cells c e f=>exact a.elim|_=>rfl
 refine⟨λw v n g a=>?_,λw g a=>?_,λw g=>?_⟩;rotate_left 2;rw[m,Yg];cases hw:w.heap[r]?with
 |none=>trivial
 |some o=>
  by_cases D:o.isChan=M;let:=(hd o D w).2;cases o<;>cases D
  exact this;let b:(∃c e f,o=au c e f)\/¬X r:=by by_cases b:X r;obtain⟨p,G,i,B,⟨q,C⟩|⟨c,e,rfl,rfl⟩⟩:=g.jH _ b;grind;grind;grind
  obtain⟨c,e,f,rfl⟩|b:=b;trivial;let:=(hk o b zb2).km w g;cases o with|cells=>trivial|_=>exact this
 rw[m,Yg]at a⊢;rw[show(na r>>=k).runT P v n=_ from Yf P _ _ v n,zzq];by_cases b:X r;exfalso;obtain⟨o,A,i,B,⟨q,C⟩|⟨c,e,rfl,rfl⟩⟩:=g.jH _ b;rw[i]at a;cases o<;>cases q
 exact(hd _ O _).1 a;rw[i]at a;exact a;rw[g.out r b];cases hw:w.heap[r]?with
 |none=>rw[hw]at a;exact a.elim
 |some o=>
  rw[hw]at a;let y:r<V (Z v):=g.aD▸(za.1 hw).1
  let j:qI _->∃z l,CR P X v n _ ((k o).runT P v<|n.push ⟨pa r,ao,o.isChan⟩) z l:=λs=>by obtain⟨z,l,h⟩:=(hk o b zb2).nh w v _ g s;refine⟨z,#[⟨pa r,ao,o.isChan⟩]++l,⟨by rw[h.eq];simp,h.sm,h.iQ,λe F=>?_,h.io⟩⟩;obtain x|x:=Kz.1 F;simp at x;subst x;exact⟨λh=>dC h b,zm y h.io⟩;exact h.tz e x
  cases o with|cells _ _ _=>exact a.elim|_=>exact j a
 let⟨o,b,ho,h⟩:=j w g a;let W:(na r>>=k).run P' w=(k o).run P' w:=h w.tape w.drawn;rw[W]at a⊢;let⟨l1,l2,l3⟩:=(hk o b ho).oK w g a;exact⟨l1,l2,λt d I=>Á⟩
def xi4(r o)(hx:¬X r)(ho:jW P<|some o):Bl P P' X<|setObj r o:=by
 let x:∀p w,(setObj r o).run p w=match w.heap[r]?with
   |some (au ..)=>ft (jF "setObj: a row of cells") w|some _=>dG () {w with heap:=aA w.heap r o}
   |none=>ft (jF "setObj: no such block") w:=λp w=>by
  grind [setObj,gc]
 let t:∀p w b,(setObj r o).runT p w b=match w.heap[r]?with
   |some (au ..)=>(ft (jF "setObj: a row of cells") w,b)|some _=>(dG () {w with heap:=aA w.heap r o},b.push ⟨pa r,M,o.isChan⟩)
   |none=>(ft (jF "setObj: no such block") w,b):=λp w b=>by
  grind [setObj,fk]
 refine⟨λw v b c f=>?_,λw c f=>?_,λw _=>by rw[x];cases w.heap[r]?with|none=>trivial|some q=>cases q<;>trivial⟩;rw[x]at f⊢;rw[t];rw[c.out r hx];cases m:w.heap[r]?with
 |none=>exact⟨v,#[],⟨í,c,λ_ _=>O,Â,zd _⟩⟩
 |some q=>
  let i:r<V (Z v):=c.aD▸(za.1 m).1
  let d:∃l u,CR P X v b (dG () {w with heap:=aA w.heap r o}) (dG () {v with heap:=aA v.heap r o},b.push ⟨pa r,M,o.isChan⟩) l u:=by refine⟨{v with heap:=aA v.heap r o},#[⟨pa r,M,o.isChan⟩],⟨í,c.yh hx o ho,λs j=>Ub hx o s j,λe g=>?_,Â⟩⟩;simp at g;subst g;exact⟨λh=>dC h hx,Á⟩
  cases q with|cells _ _ _=>exact⟨v,#[],⟨í,c,λ_ _=>O,Â,zd _⟩⟩|_=>omega
 grind [tQ,re,rW,hV]
end
end
def wf(P:Zp)(F:Zc):Zp:={P with funcs:=F}
section
variable{P:cI}{F:bE kL}{X:Q->Prop}
theorem DH(P F)(t:Zt):(wf P F).info? t=P.info? t:=O
theorem Yj(P F)(t:Zt):(wf P F).underlying t=P.underlying t:=O
theorem Vx(P F):(wf P F).depth=P.depth:=O
theorem Vw(P F)(t:Zt):(wf P F).cellsOf t=P.cellsOf t:=O
theorem xH(P F)(t:Zt):(wf P F).bytesOf t=P.bytesOf t:=O
def xq0(P F):∀d t o,plainCell (wf P F) d t o=plainCell P d t o:=by intro d;induction d<;>grind [plainCell,Yj,Vw]
theorem DD(P F):∀d t o,byteOfCell (wf P F) d t o=byteOfCell P d t o:=by intro d;induction d<;>grind [byteOfCell,Yj,Vw,xH]
def xe2(P F):∀d t o,cellHolding (wf P F) d t o=cellHolding P d t o:=by intro d;induction d<;>grind [cellHolding,Yj,Vw,xH]
def xq2(P F):∀d t,tight (wf P F) d t=tight P d t:=by intro d;induction d<;>grind [tight,Yj,xH]
def zxt(P F c)(e:Zt):∀f x s,seenCells (wf P F) c e f x s=seenCells P c e f x s:=by intro f;induction f with|zero=>intros;rfl|succ f I=>intro x s;simp[seenCells,I,Vw,xH,xe2,Vx]<;>rfl
def xvw(P F)(w:Zy)(a)(u:Zt)(k b):w.seen (wf P F) a u k b=w.seen P a u k b:=by simp only[qk,Vx,xq0,DD,Vw,xH,zxt]<;>rfl
def TI(P F):AC P<|wf P F:=⟨λw a u k b=>xvw P F w a u k b,xq2 P F _⟩
theorem NP(P F)(t:Zt):(wf P F).underlyingId t=P.underlyingId t:=O
theorem NL(P F):(wf P F).cutTypes=P.cutTypes:=O
theorem Tz(P F):∀d t u,(wf P F).alikeButTags d t u=P.alikeButTags d t u:=by intro d;induction d with|zero=>intros;rfl|succ d I=>intro t u;simp[Program.alikeButTags,I,DH]
theorem xla(P F c):(wf P F).ownRow c=P.ownRow c:=by unfold Program.ownRow;simp[DH,Yj,NL]
theorem TK(P F)(t:Zt):(wf P F).packed t=P.packed t:=by grind [Program.packed,Program.packedAs,DH,Yj,NL,xla,Tz,NP,Vx]
theorem AF(P F)(t:Zt):(wf P F).stoodInHeld t=P.stoodInHeld t:=by grind [Program.stoodInHeld,Program.stoodInAs,DH,Yj,NL,Tz,NP,Vx]
theorem Fg(P F):∀d t,(wf P F).holdsPacked d t=P.holdsPacked d t:=by intro d;induction d<;>grind [Program.holdsPacked,Yj,TK]
theorem Ff(P F):∀d t,(wf P F).eqGuardType d t=P.eqGuardType d t:=by intro d;induction d<;>grind [Program.eqGuardType,Yj]
variable[pn:A.Pn]
abbrev B(P:Zp)(F:Zc)(X:ZP)(s:Sem z):Prop:=Bl P (wf P F) X s
theorem xq{s}{k:z->Sem S}(b:B P F X s)(hk:∀a,B P F X<|k a):B P F X<|s>>=k:=AG b hk
theorem xr(a):B P F X (iu a:Sem z):=W7 a
theorem TJ{s}(f:z->S)(b:B P F X s):B P F X<|Functor.map f s:=AG b λa=>W7 _
def pV{c:Prop}[Decidable c]{s t:Sem z}(a:B P F X s)(b:B P F X t):B P F X (if c then s else t):=Á
theorem xz(a):B P F X (stuck a:Sem z):=zO _ bD
def Yb(u)(h:J2<|.unsupported u):B P F X (unsupported u:Sem z):=zO _ h
theorem TD(v):B P F X (goPanic v:Sem z):=zO _ bD
def NI(a m):B P F X<|Go.load a m:=xsb (TI P F) a m
def xr5(a v m):B P F X<|Go.store a v m:=xm4 (TI P F) a v m
theorem AH(o)(ho:jW P<|some o):B P F X<|newObj o:=xxm o ho
def B7{k:Obj->Sem S}(hk:∀o,¬X r->jW P (Y o)->B P F X (k o))(h:∀o,o.isChan=M->∀w,¬qI ((k o).run (wf P F) w)/\tR ((k o).run (wf P F) w)):B P F X<|getObj r>>=k:=xsa hk h
def DK(r o)(hx:¬X r)(ho:jW P<|some o):B P F X<|setObj r o:=xi4 r o hx ho
theorem Vr(q):B P F X<|choose q:=xi2 q
def xmo(a):B P F X<|Go.frozen a:=xi3 a
def NJ(n):B P F X<|askRoom n:=by grind [askRoom,TE,W7]
def zP(t:Zt):B P F X<|typeInfo t:=by refine Xq O ?_;split;exact W7 _;exact zO _ bD
theorem Yz(t:Zt):B P F X<|underlying t:=by refine Xq O ?_;split;exact W7 _;exact zO _ bD
theorem Ob:LawfulMonad Sem:=LawfulMonad.mk' _ (λx=>Â)
 (λ_ _=>O)
 (λx f g=>Â)
theorem TG(l:bA z)(f:z->y->Sem (ForInStep y))(b:∀a s,B P F X<|f a s):∀I,B P F X<|forIn l I f:=by induction l<;>grind [W7,AG]
def GJ(l:bE z)(f)(c:∀a s,B P F X<|f a s)(b:y):B P F X<|forIn l b f:=by rw[<-Array.forIn_toList];exact TG _ f c b
def Oe(l:Std.Legacy.Range)(f)(c:∀a s,B P F X<|f a s)(b:y):B P F X<|forIn l b f:=by grind [Std.Legacy.Range.forIn_eq_forIn_range',TG]
def Of(f)(b:∀a s,B P F X<|f a s):∀(l:bA z) (I:y),B P F X (l.foldlM f I)
 |[],I=>W7 _|a::l,I=>by rw[List.foldlM_cons];exact AG (b _ _) λs=>Of f b l s
theorem TC(f:z->Sem S)(c:∀a,B P F X<|f a):∀l:bA z,B P F X (l.mapM f)
 |[]=>by grind [W7]|a::l=>by rw[List.mapM_cons];exact AG (c a) λb=>AG (TC f c l) λd=>W7 _
def Uk(f:z->Sem S)(b:∀a,B P F X<|f a)(l:bE z):B P F X<|l.mapM f:=by grind [Array.mapM_eq_mapM_toList,TJ,TC]
end
section
variable[pn:Pn]
section
variable{P:cI}{F:bE kL}{X:Q->Prop}
def TH(r:Q){s}(f:Obj->dD L)(y:∀o,(∀a t,o≠ .view a t)->(∀a t,o≠ .number a t)->f o=R)
  (n:∀p w,s.run p w=match w.heap[r]?with
   |some o=>dG (f o) w|none=>ft (jF "getObj: no such block") w)
  (k:∀p w aw,s.runT p w aw=match w.heap[r]?with
   |some (au c e g)=>(dG (f<|au c e g) w,aw)
   |some o=>(dG (f o) w,aw.push ⟨pa r,ao,o.isChan⟩)|none=>(ft (jF "getObj: no such block") w,aw)):B P F X s:=by
 refine B3 (λw=>match w.heap[r]?with
   |some o=>dG (f o) w|none=>ft _ w) (λw=>?_) (λw t d=>?_) (λw=>?_) (n _) λw v aw m x=>?_
 cases w.heap[r]?<;>rfl
 rw[show(re w t d).heap[r]?=w.heap[r]?from O];cases w.heap[r]?<;>rfl
 cases w.heap[r]?<;>trivial
 rw[k];by_cases z:X r;obtain⟨o,u,q,l,⟨C,D⟩|⟨c,e,rfl,rfl⟩⟩:=m.jH _ z;let i:=(za.1 l).1;rw[q,l];cases o<;>cases C
 cases u<;>cases D<;>exact⟨#[⟨pa r,ao,_⟩],by simp[hV,qA,y];rfl,λe j=>zcr⟩
 rw[q,l];exact⟨#[],by simp[hV,y],Â⟩;rw[m.out r z];cases W:w.heap[r]?with
 |none=>rw[W]at x;exact x.elim
 |some o=>
  let i:r<V (Z v):=m.aD▸(za.1 W).1
  let h:∀b,∀e∈#[(⟨pa r,ao,b⟩:me)],vx X (V<|Z v) e:=λb e j=>zcr
  cases o with
  |cells c e g=>exact⟨#[],í,Â⟩|chan a b c d e g=>exact⟨#[⟨pa r,ao,M⟩],by simp[hV,qA],h _⟩
  |_=>exact⟨#[⟨pa r,ao,ao⟩],by simp[hV,qA],h _⟩
def Od(r):B P F X<|viewAt r:=by refine TH r (λ| .view a t=>Y (a,t)|_=>R) (λo c d=>Á) (λp w=>?_) (λp w b=>?_)<;>cases h:w.heap[r]?with|none=>simp[viewAt,lG,na,mC,gl,gc,fk,dU,h,-fd]|some o=>cases o<;>simp[viewAt,lG,na,mC,gl,gc,fk,dU,h,iu,qA,-fd]
def Uf(r):B P F X<|numberAt r:=by refine TH r (λ| .number a t=>Y (a,t)|_=>R) (λo c d=>Á) (λp w=>?_) (λp w b=>?_)<;>cases h:w.heap[r]?with|none=>simp[numberAt,lG,na,mC,gl,gc,fk,dU,h,-fd]|some o=>cases o<;>simp[numberAt,lG,na,mC,gl,gc,fk,dU,h,iu,qA,-fd]
def fM(w:Zy)(a:Addr):ez:=aX w a||(match w.shape? a.block with
 |some (_,n)=>aX w {block:=a.block,off:=n}|none=>ao)
theorem Sm.fM{w v:Zy}(h:Sm P X w v)(a:Addr):fM v a=fM w a:=by
 unfold A.fM;rw[h.eQ a];by_cases b:X a.block;obtain⟨o,j,d,f,⟨g,i⟩|⟨c,e,rfl,rfl⟩⟩:=h.jH _ b;cases o<;>cases g
 cases j<;>cases i<;>simp[dU,aX,d,f]
 grind [aX];simp[dU,aX,h.out _ b]
theorem NX{w v}(h:Sm P X w v)(a)(hx:X a.block):fM w a=ao:=by
 obtain⟨o,i,d,f,⟨b,g⟩|⟨c,e,rfl,rfl⟩⟩:=h.jH _ hx;cases o<;>cases b
 grind [fM,aX];grind [fM,aX]
def ztu(a p w):(mz a).run p w=dG (fM w a) w:=by cases h:aX w a with|true=>simp[mz,lZ,mC,gl,gc,fM,h,iu]|false=>cases q:w.shape? a.block with|none=>simp[mz,lZ,lG,mC,gl,gc,fM,h,q,iu]|some x=>let⟨e,n⟩:=x;simp[mz,lZ,lG,mC,gl,gc,fM,h,q]
def zs3(a p w aw):(mz a).runT p w aw=(dG (fM w a) w,aw):=by cases h:aX w a with|true=>simp[mz,lZ,mC,gl,fk,fM,h,iu,-fd]|false=>cases q:w.shape? a.block with|none=>simp[mz,lZ,lG,mC,gl,fk,fM,h,q,iu,-fd]|some x=>let⟨e,n⟩:=x;simp[mz,lZ,lG,mC,gl,fk,fM,h,q,-fd]
def xcg(a b):B P F X<|mayBeOne a b:=by
 let i:∀p w,(mayBeOne a b).run p w=dG ((fM w a&&fM w b)||(fM w a&&(w.shape? a.block matches Y (_,0)))||(fM w b&&(w.shape? b.block matches Y (_,0)))) w:=λp w=>by simp only[mayBeOne,mC,qe,ztu,lG,gc,iu];rfl
 let e:∀p w f,(mayBeOne a b).runT p w f=(dG ((fM w a&&fM w b)||(fM w a&&(w.shape? a.block matches Y (_,0)))||(fM w b&&(w.shape? b.block matches Y (_,0)))) w,f):=λp w f=>by simp only[mayBeOne,mC,Yf,zs3,lG,fk,iu];rfl
 refine B3 _ (λw=>O) (λw t d=>O) (λw=>?_) (i _) λw v f c j=>⟨#[],?_,Â⟩;trivial;rw[e,c.fM a,c.fM b];simp only[hV,Array.append_empty,GV,Result.ok.injEq,and_true];by_cases h:X a.block;rw[NX c a h];by_cases g:X b.block;grind [NX];simp[dU,c.out _ g,Fm];by_cases g:X b.block;rw[NX c b g];simp[dU,c.out _ h,Fm,Vo];simp[dU,c.out _ h,c.out _ g]
theorem Un{k:dD (Zt×Q)->Sem S}(hk:∀s,B P F X<|k s)(q:∀e n m,k (Y (e,n))=k (Y (e,m))):B P F X<|shape r>>=k:=by
 let b:∀w v:Zy,Sm P X w v->k (v.shape? r)=k (w.shape? r):=λw v a=>by
  by_cases f:X r;obtain⟨o,p,h,i,⟨j,l⟩|⟨c,e,rfl,rfl⟩⟩:=a.jH _ f;cases o<;>cases j
  cases p<;>cases l<;>simp[dU,h,i]
  grind [dU];simp[dU,a.out _ f]
 refine⟨λw v g a d=>?_,λw a d=>?_,λw a=>(hk _).km w a⟩;let:=(hk _).nh w v g a d;rw[<-b w v a]at this;let e:(lG r>>=k).run (wf P F) w=(k<|v.shape? r).run (wf P F) w:=by rw[b w v a];rfl
 simp_all;exact(hk _).oK w a d
def Kj{s:Sem z}(h:∀w,¬qI (s.run (wf P F) w)/\tR (s.run (wf P F) w)):B P F X s:=⟨λw v b _ a=>dC a (h w).1,λw _ a=>dC a (h w).1,λw _=>(h w).2⟩
def xmx{k:z->Sem S}(a):B P F X<|(stuck a:Sem z)>>=k:=Kj λw=>⟨id,bD⟩
def TL(t:Zt)(p w):(fj t).run p w=match p.underlying t with
  |some d=>dG d w|none=>ft (jF "no such type") w:=by
 show(match p.underlying t with
  |some d=>(iu d:Sem TypeDesc)|none=>stuck "no such type").run p w=_
 cases p.underlying t<;>rfl
def zpu(t:Zt)(p w aw):(fj t).runT p w aw=match p.underlying t with
  |some d=>(dG d w,aw)|none=>(ft (jF "no such type") w,aw):=by
 show(match p.underlying t with
  |some d=>(iu d:Sem TypeDesc)|none=>stuck "no such type").runT p w aw=_
 cases p.underlying t<;>rfl
theorem GF{t:Zt}{k:TypeDesc->Sem S}(hk:∀u,P.underlying t=Y u->B P F X (k u)):B P F X<|underlying t>>=k:=by
 cases h:P.underlying t with
 |none=>
  refine Kj λw=>?_;let e:(fj t>>=k).run (wf P F) w=ft (jF "no such type") w:=by rw[show(fj t>>=k).run _ w=_ from qe _ _ _ w,TL,show(wf P F).underlying t=R from h];rfl
  exact e▸⟨id,bD⟩
 |some u=>
  let d:∀w,(fj t>>=k).run _ w=(k u).run _ w:=λw=>by rw[show(fj t>>=k).run _ w=_ from qe _ _ _ w,TL,show(wf P F).underlying t=Y u from h];rfl
  let f:∀w a,(fj t>>=k).runT P w a=(k u).runT P w a:=λw a=>by rw[show(fj t>>=k).runT P w a=_ from Yf _ _ _ w a,zpu,h]
  refine⟨λw v a b c=>?_,λw b c=>?_,λw b=>by rw[d];exact(hk u h).km w b⟩;rw[d]at c⊢;rw[f];exact(hk u h).nh w v a b c;rw[d]at c;let:=(hk u h).oK w b c;grind [tQ]
end
section
variable{P:cI}{F:bE kL}{X:Q->Prop}
attribute[local simp] Fg AF Ff Vx Vw xH DD
def Ud(a):∀(n i:Q) (A:Za),B P F X (loadCellsFrom a i n A)
 |0,i,A=>W7 _|n+1,i,A=>AG (NI _ _) λv=>Ud a n (i+1) _
def Kb(a):∀(x:Ze) (i:Q),B P F X (storeCells a x i)
 |[],i=>by grind [storeCells,W7]|v::x,i=>by unfold storeCells;exact AG (xr5 _ _ _) λ_=>Kb a x<|i+1
def xmv(t:Zt)(x):B P F X<|Instr.range t x:=by
 refine GF λd q=>?_
 haveI:=Ob
 simp only[pure_bind];repeat' (first|(with_reducible exact xmx _)|((with_reducible apply AH _);next=>(refine⟨λc e h=>?_,λb h=>?_,λl h=>?_⟩<;>cases h<;>simp))|((with_reducible refine B7 (λ_ _ _=>?_) ?_);rotate_left;next=>(intro o a w;cases o<;>first|(cases a;done)|exact⟨id,bD⟩))|(with_reducible first|refine xq ?_ (λ_=>?_)|exact xr _)|split)
def NZ{l}{k:Loop->Sem S}(hk:∀r,¬X l->jW P (Y<|.loop r)->B P F X (k r)):B P F X<|Instr.getLoop l>>=k:=by
 haveI:=Ob
 unfold Instr.getLoop;rw[bind_assoc];refine B7 (λo b a=>?_) λo a w=>?_;split;grind;exact Kj λw=>⟨id,bD⟩;cases o<;>first|(cases a;done)|exact⟨id,bD⟩
def jW.BY{r}(h:jW P<|some<|.loop r)(s):jW P<|some<|.loop {r with state:=s}:=
 ⟨λc f e=>Æ,λa e=>Æ,λl e=>(by cases e;exact h.ry r O)⟩
def xce(l j)(b:∀c,j=Y c->q9 P ao c=M):B P F X<|Instr.endRound l j:=by refine NZ λr d a=>xq (DK _ _ d ⟨λc f e=>Æ,λg e=>Æ,λl e=>(by cases e;exact⟨(a.ry r O).1,(a.ry r O).2.1,b,(a.ry r O).c⟩)⟩) λ_=>xr _
def iU:(∀(t:Zt),B P F X<|sizeOf t)/\(∀(t:Zt),B P F X<|zeroValue t)/\(∀(e:Zt) (c:Za),B P F X<|newRow e c)/\(∀(v:Zv),B P F X<|Instr.sureAddr v)/\(∀(k:IntKind) (x:U),B P F X<|Conv.intToInt k x)/\(∀(x:U),B P F X<|Conv.intToString x)/\(∀(a:Addr) (n:Q),B P F X<|loadCells a n)/\(∀(v:Zv),B P F X<|asIntOf v)/\(∀(v:Zv),B P F X<|asBool v)/\(∀(e:Zt),B P F X<|elemOf e)/\(∀(q:BinOp) (x y:eM),B P F X<|Op.stringOp q x y)/\(∀(a:Addr),B P F X<|behindNumber a)/\(∀(t:Zt),B P F X<|typeStr t)/\(∀(t:Zt),B P F X<|isAgg t)/\(∀(q:BinOp) (k:IntKind) (x y:U),B P F X<|Op.intArith q k x y)/\(∀(q:BinOp) (k:IntKind) (x y:U),B P F X<|Op.intBits q k x y)/\(∀(x:Zv),B P F X<|Builtin.lenOf x)/\(∀(a:Addr),B P F X<|noView a)/\(∀(a b:Zv),B P F X<|Instr.keyThatStays a b)/\(∀(l:Q),B P F X<|Instr.getLoop l)/\(∀(v:Zv),B P F X<|asAgg v)/\(∀(q:BinOp) (x y:U),B P F X<|Op.intCmp q x y)/\(∀(x:Zv),B P F X<|Instr.entry x)/\(∀(x:Zv) (i:Q),B P F X<|Instr.extract x i)/\(∀(f:Fn) (a c:Za),B P F X<|Instr.makeFunc f a c)/\(∀(t:Zt) (x:Zv),B P F X<|Instr.makeInterface t x)/\(∀(I:Zv) (s:ez) (t:Zt),B P F X<|Instr.next I s t)/\(∀(l:Q),B P F X<|Instr.takeDeferred l)/\(∀(v:Zv),B P F X<|asString v):=by refine⟨?_,?_,?_,?_,?_,?_,?_,?_,?_,?_,?_,?_,?_,?_,?_,?_,?_,?_,?_,?_,?_,?_,?_,?_,?_,?_,?_,?_,?_⟩<;>intros<;>(first|unfold sizeOf|unfold zeroValue|unfold newRow|unfold Instr.sureAddr|unfold Conv.intToInt|unfold Conv.intToString|unfold loadCells|unfold asIntOf|unfold asBool|unfold elemOf|unfold Op.stringOp|unfold behindNumber|unfold typeStr|unfold isAgg|unfold Op.intArith|unfold Op.intBits|unfold Builtin.lenOf|unfold noView|unfold lX|unfold Instr.getLoop|unfold asAgg|unfold Op.intCmp|unfold Instr.entry|unfold Instr.extract|unfold Instr.makeFunc|unfold Instr.makeInterface|unfold Instr.next|unfold fK|unfold asString)<;>repeat' (first|((with_reducible apply Yb _);next=>(exact bD))|((with_reducible apply AH _);next=>(refine⟨λc e h=>?_,λd h=>?_,λl h=>?_⟩<;>cases h<;>simp))|((with_reducible refine B7 (λ_ _ _=>?_) ?_);rotate_left;next=>(intro o g w;cases o<;>first|(cases g;done)|exact⟨id,bD⟩))|((with_reducible apply DK _ _ ‹_›);next=>(refine⟨λc e h=>?_,λd h=>?_,λl h=>?_⟩<;>cases h<;>simp))|(with_reducible first|refine xq ?_ (λ_=>?_)|exact xr _|exact zP _|exact xz _|exact Ud _ _ _ _|exact Yz _|refine pV ?_ ?_|exact Uf _|exact Od _|exact Vr _)|split)
def Ke(a):B P F X<|byteOf a:=by unfold byteOf;split;exact W7 _;refine Xq ?_ ?_;simp;refine xq (iU.j.j.2.1 a) λ_=>?_;grind [Un,xr,xz]
def NW(x g f a b r)(m:q9 P ao a=M)(n:q9 P ao b=M)(j:P.inits.idxOf? x=R):B P F X<|Instr.enterLoop x g f a b r:=by unfold fe;let k:∀d,jW P<|some<|.loop {state:= .ready,pending:=R,fn:=x,tmps:=g,params:=f,assign:=a,body:=b,defers:=d}:=λd=>⟨λc e h=>È,λi h=>È,λl h=>Á⟩;repeat' (first|(exact AH _<|k _)|((with_reducible apply AH _);next=>(refine⟨λc e h=>?_,λi h=>?_,λl h=>?_⟩<;>cases h<;>simp))|(with_reducible first|refine xq ?_ (λ_=>?_)|exact iU.j.j.c.1 _|exact xr _)|split)
def oh:(∀(t:Zt) (C:Za) (q:Q),B P F X<|part t C q)/\(∀(v:Zv),B P F X<|asInt v)/\(∀(x:Zv),B P F X<|Conv.bytesToString x)/\(∀(t:Zt) (a:Addr),B P F X<|loadVar t a)/\(∀(e:Zt) (c:Zv),B P F X<|newVar e c)/\(∀(t:Zt) (a:Addr) (v:Zv),B P F X<|storeVar t a v)/\(∀(s n:Q) (x:Zv),B P F X<|Builtin.firstCells s n x)/\(∀(a b:Addr),B P F X<|sameAddr a b)/\(∀(j:UnOp) (x:Zv),B P F X<|Op.unary j x)/\(∀(a:Addr) (c b:Q),B P F X<|partAt a c b)/\(∀(t:Zt) (p:bE<|Nat×Zv),B P F X<|Instr.build t p)/\(∀(t:Zt) (n:Q) (p:bE<|Nat×Zv),B P F X<|Instr.buildSlice t n p)/\(∀(l:Q) (a:Za),B P F X<|Instr.yield l a)/\(∀(u:bE Zt) (t:Zt) (a:Za),B P F X<|Builtin.clear_ u t a)/\(∀(x y:Zv),B P F X<|Builtin.max2 x y)/\(∀(x y:Zv),B P F X<|Builtin.min2 x y):=by refine⟨?_,?_,?_,?_,?_,?_,?_,?_,?_,?_,?_,?_,?_,?_,?_,?_⟩<;>intros<;>(first|unfold part|unfold asInt|unfold Conv.bytesToString|unfold loadVar|unfold newVar|unfold storeVar|unfold Builtin.firstCells|unfold sameAddr|unfold Op.unary|unfold partAt|unfold Instr.build|unfold Instr.buildSlice|unfold Instr.yield|unfold Builtin.clear_|unfold Builtin.max2|unfold Builtin.min2)<;>repeat' (first|((with_reducible apply Yb _);next=>(exact bD))|((with_reducible apply DK _ _ ‹_›);next=>(refine⟨λc e h=>?_,λf h=>?_,λl h=>?_⟩<;>cases h<;>simp))|((with_reducible refine B7 (λ_ _ _=>?_) ?_);rotate_left;next=>(intro o d w;cases o<;>first|(cases d;done)|exact⟨id,bD⟩))|(with_reducible first|refine xq ?_ (λ_=>?_)|refine pV ?_ ?_|exact iU.j.e.1 _|exact iU.1 _|exact xr _|exact xz _|exact iU.g.1 _|exact iU.f.1 _ _|refine GJ _ _ (λ_ _=>?_) _|exact NI _ _|exact iU.2.2.1 _ _|exact Kb _ _ _|exact iU.j.j.2.1 _|exact xcg _ _|exact Vr _|exact xmo _|exact iU.j.g.1 _ _ _ _|exact iU.j.f.1 _ _ _ _|exact Ke _|exact iU.2.1 _|exact Yz _|refine Uk _ (λ_=>?_) _|exact iU.j.j.c.1 _|exact iU.j.2.2.1 _ _ _|exact iU.j.1 _)|split|(dsimp only))
theorem tP(e):B P F X (runtimePanic e:Sem z):=by refine Xq O ?_;repeat' (first|(with_reducible first|refine xq ?_ (λ_=>?_)|exact iU.j.2.1 _|exact oh.d.1 _ _|exact TD _)|split)
def zyp:∀(d:Q) (t:Zt) (x y:Zv),B P F X<|Op.eqGuardIn d t x y:=by intro d;induction d with|zero=>intro t x y;exact zO _ bD|succ d I=>intro t x y;unfold Op.eqGuardIn;repeat' (first|(with_reducible first|refine xq ?_ (λ_=>?_)|refine pV ?_ ?_|exact I _ _ _|exact oh.1 _ _ _|exact iU.1 _|exact xr _|exact Yz _|refine Oe _ _ (λ_ _=>?_) _|refine GJ _ _ (λ_ _=>?_) _)|split|(dsimp only))
theorem jas(b)(t:Zt)(a):B P F X<|Builtin.max_ b t a:=by unfold Builtin.max_;split;exact zO _ bD;exact Of _ (λ_ _=>oh.j.f.1 ..) ..
theorem jat(b)(t:Zt)(a):B P F X<|Builtin.min_ b t a:=by unfold Builtin.min_;split;exact zO _ bD;exact Of _ (λ_ _=>oh.j.g ..) ..
def xml(k x y c):B P F X (boundsPanic k x y c:Sem z):=by grind [boundsPanic,xq,tP,Vr,TJ]
def xca(e):∀(n:Q) (t:Zt) (v:Zv),B P F X<|Instr.checkKey e n t v:=by intro n;induction n with|zero=>intro t v;exact zO _ bD|succ n I=>intro t v;unfold iK;repeat' (first|(with_reducible first|refine xq ?_ (λ_=>?_)|refine pV ?_ ?_|exact I _ _|exact tP _|exact oh.1 _ _ _|exact iU.1 _|exact iU.j.d.1 _|exact xr _|exact xz _|exact zP _|exact Yz _|refine Oe _ _ (λ_ _=>?_) _|refine GJ _ _ (λ_ _=>?_) _)|split)
def NT(l):B P F X<|Instr.beginRound l:=by refine NZ λr b a=>xq (DK _ _ b<|a.BY _) λ_=>?_;grind [tP,xr]
def xiu(l):B P F X<|Instr.endLoop l:=by refine NZ λr b a=>?_;repeat' (first|(exact DK _ _ b<|a.BY _)|(with_reducible first|refine xq ?_ (λ_=>?_)|refine pV ?_ ?_|exact tP _|exact xr _))
def pU:(∀(v:Zv),B P F X<|asAddr v)/\(∀(a:Addr) (f:Field),B P F X<|fieldPlace a f)/\(∀(q:BinOp) (k:IntKind) (x y:U),B P F X<|Op.intDiv q k x y)/\(∀(q:BinOp) (k:IntKind) (x:U) (j:IntKind) (y:U),B P F X<|Op.shift q k x j y)/\(∀(a b:dD Addr),B P F X<|samePointer a b)/\(∀(q:BinOp) (t:Zt) (x y:Operand) (a b:Zv),B P F X<|eqGuard q t x y a b)/\(∀(t:Zt) (a:Zv),B P F X<|Instr.loadAt t a)/\(∀(t:Zt) (a v:Zv),B P F X<|Instr.storeAt t a v)/\(∀(t:Zt) (x i:Zv),B P F X<|Instr.indexAt t x i)/\(∀(x:Zv) (y:Q) (c:BoundsCode),B P F X<|Instr.sliceBound x y c)/\(∀(t:Zt) (x:Zv),B P F X<|Instr.arrayAt t x)/\(∀(t:Zt) (h:ez) (x:Zv),B P F X<|Instr.alloc t h x)/\(∀(t:Zt) (x:Zv),B P F X<|Instr.box t x)/\(∀(t:Zt) (x:Zv) (i:Q),B P F X<|Instr.field t x i)/\(∀(t:Zt) (x i:Zv),B P F X<|Instr.index t x i)/\(∀(t:Zt) (x:Zv),B P F X<|Instr.makeChan t x)/\(∀(t:Zt) (x:dD Zv),B P F X<|Instr.makeMap t x)/\(∀(t:Zt) (l c:Zv),B P F X<|Instr.makeSlice t l c)/\(∀(t:Zt) (m k v:Zv),B P F X<|Instr.entryStore t m k v)/\(∀(x:Zv) (t u:Zt) (p:ez),B P F X<|Instr.typeAssert x t u p)/\(∀(W:bE Zt) (t:Zt) (a:Za),B P F X<|Builtin.copy_ W t a):=by refine⟨?_,?_,?_,?_,?_,?_,?_,?_,?_,?_,?_,?_,?_,?_,?_,?_,?_,?_,?_,?_,?_⟩<;>intros<;>(first|unfold asAddr|unfold fieldPlace|unfold Op.intDiv|unfold Op.shift|unfold samePointer|unfold eqGuard|unfold Instr.loadAt|unfold Instr.storeAt|unfold Instr.indexAt|unfold Instr.sliceBound|unfold Instr.arrayAt|unfold Instr.alloc|unfold Instr.box|unfold Instr.field|unfold Instr.index|unfold Instr.makeChan|unfold Instr.makeMap|unfold Instr.makeSlice|unfold Instr.entryStore|unfold Instr.typeAssert|unfold Builtin.copy_)<;>repeat' (first|((with_reducible apply Yb _);next=>(exact bD))|((with_reducible refine Xq ?_ ?_);next=>simp)|((with_reducible apply AH _);next=>(refine⟨λc e h=>?_,λd h=>?_,λl h=>?_⟩<;>cases h<;>simp))|((with_reducible apply DK _ _ ‹_›);next=>(refine⟨λc e h=>?_,λd h=>?_,λl h=>?_⟩<;>cases h<;>simp))|((with_reducible refine B7 (λ_ _ _=>?_) ?_);rotate_left;next=>(intro o g w;cases o<;>first|(cases g;done)|exact⟨id,bD⟩))|(with_reducible first|exact tP _|exact xr _|exact xz _|refine xq ?_ (λ_=>?_)|refine pV ?_ ?_|exact oh.j.2.1 _ _ _|exact iU.1 _|exact oh.g.1 _ _|exact zyp _ _ _ _|exact iU.c.1 _|exact oh.c.1 _ _|exact oh.e.1 _ _ _|exact iU.g.1 _|exact xml _ _ _ _|exact Yz _|exact oh.d.1 _ _|exact iU.2.1 _|exact iU.j.j.d.1 _|exact oh.1 _ _ _|exact oh.2.1 _|exact zP _|exact iU.2.2.1 _ _|exact Vr _|exact NJ _|exact oh.f.1 _ _ _|exact iU.j.j.1 _|exact Kb ..)|split)
def xiv:∀(d:Q) (t:Zt) (x y:Zv),B P F X<|Op.equalIn d t x y:=by intro d;induction d with|zero=>intro t x y;exact zO _ bD|succ d I=>intro t x y;unfold Op.equalIn;repeat' (first|((with_reducible apply Yb _);next=>(exact bD))|((with_reducible refine Xq ?_ ?_);next=>(first|(simp;done)|rfl))|(with_reducible first|refine xq ?_ (λ_=>?_)|refine pV ?_ ?_|exact I _ _ _|exact Ke _|exact iU.j.c.1 _|exact pU.d.1 _ _|exact oh.g.1 _ _|exact tP _|exact oh.1 _ _ _|exact iU.1 _|exact iU.j.d.1 _|exact xr _|exact xz _|exact Vr _|exact zP _|exact Yz _|refine Oe _ _ (λ_ _=>?_) _|refine GJ _ _ (λ_ _=>?_) _)|split|(dsimp only))
def Gy:(∀(t:Zt) (x y:Zv),B P F X<|Op.equal t x y)/\(∀(s:ez) (n c:Q) (l h m:dD Zv),B P F X<|Instr.sliceBounds s n c l h m)/\(∀(t:Zt) (x:Zv) (i:Q),B P F X<|Instr.fieldAt t x i):=by refine⟨?_,?_,?_⟩<;>intros<;>(first|unfold Op.equal|unfold Instr.sliceBounds|unfold Instr.fieldAt)<;>repeat' (first|(with_reducible first|exact xiv _ _ _ _|refine xq ?_ (λ_=>?_)|exact pU.j.2.1 _ _ _|exact xr _|exact xz _|exact pU.2.1 _ _|exact iU.c.1 _|exact Yz _)|split)
def TR(t:Zt)(k):∀(aw:bA eF) (i:Q),B P F X (Instr.findAsking t k aw i)
 |[],i=>by grind [Instr.findAsking,W7]|e::aw,i=>by unfold Instr.findAsking;refine AG (Gy.1 _ _ _) λb=>?_;split;exact W7 _;exact TR t k aw<|i+1
def Tu:(∀(t:Zt) (k:Zv) (aw:bA eF),B P F X<|Instr.findKey t k aw)/\(∀(t:Zt) (x:Zv) (l h m:dD Zv),B P F X<|Instr.slice t x l h m):=by refine⟨?_,?_⟩<;>intros<;>(first|unfold cB|unfold Instr.slice)<;>repeat' (first|(with_reducible first|refine xq ?_ (λ_=>?_)|exact TR _ _ _ _|exact xr _|exact Yz _|refine pV ?_ ?_|exact Gy.2.1 _ _ _ _ _ _|exact pU.1 _|exact iU.1 _|exact xz _)|split)
def Gz:(∀(t:Zt) (x:Zv) (q p j:dD Zv),B P F X<|Instr.sliceAt t x q p j)/\(∀(t:Zt) (x i:Zv) (u:ez),B P F X<|Instr.lookup t x i u)/\(∀(t:Zt) (m k v:Zv),B P F X<|Instr.mapUpdate t m k v)/\(∀(t:Zt) (m k:Zv),B P F X<|Instr.mapEntry t m k)/\(∀(g:bE Zt) (t:Zt) (a:Za),B P F X<|Builtin.delete_ g t a):=by refine⟨?_,?_,?_,?_,?_⟩<;>intros<;>(first|unfold Instr.sliceAt|unfold fC|unfold im|unfold Instr.mapEntry|unfold iT)<;>repeat' (first|((with_reducible refine B7 (λ_ _ _=>?_) ?_);rotate_left;next=>(intro o b w;cases o<;>first|(cases b;done)|exact⟨id,bD⟩))|((with_reducible apply DK _ _ ‹_›);next=>(refine⟨λc e h=>?_,λd h=>?_,λl h=>?_⟩<;>cases h<;>simp))|(with_reducible first|refine xq ?_ (λ_=>?_)|exact Tu.2 _ _ _ _ _|exact Gy.2.1 _ _ _ _ _ _|exact iU.c.1 _|exact iU.1 _|exact xr _|exact Yz _|exact Tu.1 _ _ _|exact xca _ _ _ _|exact iU.2.1 _|exact xz _|exact iU.j.j.2.2.1 _ _|exact tP _)|split)
def xky(d e n B x p w):∃b,(Builtin.mayShare d e n B x).run p w=dG b w:=by
 let f:∀(a:Addr) (c:Q),∃b,(Builtin.holdsCells a c).run p w=dG b w:=λa c=>by unfold Builtin.holdsCells;simp only[lG,mC,gl,gc];cases w.shape? a.block with|none=>simp|some y=>simp
 unfold Builtin.mayShare;cases B with
 |none=>
  simp only[mC,gl,iu];cases x with
  |slice a l c=>
   cases a with|none=>simp|some a=>let⟨b,h⟩:=f a<|n*d;grind [qe,bN,gc]
  |_=>simp
 |some a=>
  let⟨b,h⟩:=f a<|e*d;simp only[mC,iu,qe,h,bN,lZ,gc];cases q:(b&& !aX w _)with
  |false=>simp
  |true=>
   cases x with
   |slice y l c=>
    cases y with|none=>simp|some y=>let⟨j,t⟩:=f y<|n*d;grind [qe,bN,gc]
   |_=>simp
def xr4{c a q x}{k:ez->Sem S}(hk:∀b w,¬qI ((k b).run (wf P F) w)/\tR ((k b).run (wf P F) w)):B P F X<|Builtin.mayShare c a n q x>>=k:=
 Kj λw=>by obtain⟨b,d⟩:=xky c a n q x _ w;rw[show(Builtin.mayShare c a n q x>>=k).run _ w=_ from qe _ _ _ w,d];exact hk b w
theorem xmk(c)(t:Zt)(a):B P F X<|Builtin.append_ c t a:=by unfold Builtin.append_;repeat' (first|((with_reducible apply xr4);next=>(intro b w;cases b<;>exact⟨id,bD⟩))|(with_reducible first|refine xq ?_ (λ_=>?_)|refine pV ?_ ?_|exact oh.f.1 _ _ _|exact iU.j.j.1 _|exact oh.2.1 _|exact tP _|exact iU.2.2.1 _ _|exact Kb _ _ _|exact iU.1 _|exact iU.2.1 _|exact xr _|exact xz _|exact Vr _|exact NJ _|exact zP _|exact Yz _)|split)
theorem xms(e:Zt)(c):B P F X<|newRow e c>>=λa=>jZ a>>=λ_=>(iu a:Sem Addr):=by
 let f:∀w:Zy,(({w with heap:=w.heap.push<|au c e}:Zy).freeze {block:=V (Z w),off:=V c} 1)={w with heap:=w.heap.push<|au c e (V c,V c+1)}:=λw=>by grind [iJ,World.mk.injEq]
 let q:∀p w,(newRow e c>>=λa=>jZ a>>=λ_=>(iu a:Sem Addr)).run p w=dG (K (V<|Z w) 0) {w with heap:=w.heap.push _}:=λp w=>by rw[<-f w];simp[newRow,newObj,jZ,lG,freeze,mC,gl,gc,iu,dU]
 let t:∀p w d,(newRow e c>>=λa=>jZ a>>=λ_=>(iu a:Sem Addr)).runT p w d=(dG (K (V<|Z w) 0) {w with heap:=w.heap.push _},d):=λp w d=>by rw[<-f w];simp[newRow,newObj,jZ,lG,freeze,mC,gl,fk,iu,dU,-fd]
 refine⟨λw v d b g=>?_,λw b g=>?_,λw _=>za2⟩;rw[q,t];refine⟨{v with heap:=v.heap.push _},#[],⟨by simp[hV,b.aD],b.jK _ .G,λx h=>?_,Â,Â⟩⟩;let:=b.vw x h;simp[jb,b.aD,show x≠V (Z w) by omega,kB];grind [tQ,rW,hV,re]
def zpo(e:Zt)(s):B P F X<|Conv.stringToBytes e s:=by
 haveI:=Ob
 refine xq (Vr _) λb=>?_;let:∀(c:Za),(newRow e c>>=λa=>jZ a>>=λ_=>(iu (aB (Y a) s.size b):Sem Zv))=(newRow e c>>=λa=>jZ a>>=λ_=>(iu a:Sem Addr))>>=λa=>iu<|aB (Y a) s.size b:=λc=>Â
 grind [xq,xms,xr]
theorem TS(o k x y):B P F X<|Op.floatArith o k x y:=by unfold Op.floatArith;grind [xq,xr,xz,Vr]
def Uc(o k x y):B P F X<|Op.floatCmp o k x y:=by unfold Op.floatCmp;grind [xr,xz]
def zvy(s b k):B P F X<|Conv.floatToInt s b k:=by grind [Conv.floatToInt,xq,xr,Vr]
def zv0(k n):B P F X<|Conv.intToFloat k n:=by grind [Conv.intToFloat,xr]
theorem NS(s b k):B P F X<|Conv.floatToFloat s b k:=by grind [Conv.floatToFloat,xq,xr,Vr]
def zyn(s a b k):B P F X<|Conv.complexToComplex s a b k:=by grind [Conv.complexToComplex,xq,NS,xr,xz]
def GE(o k x y):B P F X<|Op.Complex.arith o k x y:=by grind [Op.Complex.arith,xq,TS,xr,xz]
def TF(o k x y):B P F X<|Op.Complex.cmp o k x y:=by unfold Op.Complex.cmp;repeat' (first|(with_reducible first|refine xq ?_ (λ_=>?_)|exact Uc _ _ _ _|exact iU.j.1 _))
def xr2(s x k):B P F X<|Op.Complex.conv s x k:=by grind [Op.Complex.conv,xq,NS,xr,xz]
theorem NE(x y):B P F X<|Op.Complex.add x y:=GE ..
theorem NH(x y):B P F X<|Op.Complex.sub x y:=GE ..
theorem NG(x y):B P F X<|Op.Complex.mul x y:=GE ..
def xxc(x y):B P F X<|Op.Complex.quo x y:=GE ..
def xcc(a b c d):B P F X<|Op.Complex.product a b c d:=by grind [Op.Complex.product,xq,NG,NH,NE,xr]
def zvw(s a b c d):B P F X<|Op.Complex.corrected s a b c d:=by unfold Op.Complex.corrected;repeat' (first|(with_reducible first|refine xq ?_ (λ_=>?_)|exact NG _ _|exact NH _ _|exact NE _ _|exact xr _))
def zyo(a b c d):B P F X<|Op.Complex.quotient a b c d:=by unfold Op.Complex.quotient;repeat' (first|(with_reducible first|refine xq ?_ (λ_=>?_)|refine pV ?_ ?_|exact zvw _ _ _ _ _|exact xxc _ _|exact NG _ _|exact NH _ _|exact NE _ _|exact TF _ _ _ _|exact xr _))
def zym(o k a b c d):B P F X<|Op.complexOp o k a b c d:=by unfold Op.complexOp;repeat' (first|(with_reducible first|refine xq ?_ (λ_=>?_)|refine pV ?_ ?_|exact zyo _ _ _ _|exact xcc _ _ _ _|exact xr2 _ _ _|exact TF _ _ _ _|exact GE _ _ _ _|exact xr _|exact xz _)|split)
def jaq:B P F X<|sys .env:=
 B3 (λw=>dG (.strings w.os.env) w) (λ_=>O) (λ_ _ _=>O) (λ_=>bD) (λw=>by
  let e:w.sys .env=(.strings w.os.env,w):=O;simp[sys,gc,e]) (λw v c b _=>⟨#[⟨.output,M,ao⟩],by
  let e:v.sys .env=(.strings v.os.env,v):=O;simp[sys,fk,e,hV,b.os,-fd],λe a=>by simp at a;subst a;exact bD⟩)
theorem xci:B P F X<|Instr.panicnil:=by unfold Instr.panicnil;repeat' (first|((with_reducible refine Xq ?_ ?_);next=>(first|(simp;done)|rfl))|(with_reducible first|refine xq ?_ (λ_=>?_)|exact jaq|exact xr _|exact xz _)|split)
theorem Um(x):B P F X<|Instr.panic x:=by unfold Instr.panic;grind [xq,xci,tP,xz,TD]
theorem xvv(P F):∀d t u,sameLayout (wf P F) d t u=sameLayout P d t u:=by intro d;induction d<;>grind [sameLayout,Yj,NP,AF]
theorem xz4(P F)(f:Zt->ez):∀d e c o n,rowAt (wf P F) f d e c o n=rowAt P f d e c o n:=by intro d;induction d<;>grind [rowAt,Yj,Vw,AF]
theorem Kl(P F):∀d e c o u n,liesAt (wf P F) d e c o u n=liesAt P d e c o u n:=by intro d;induction d<;>grind [liesAt,Yj,xz4,xvv,Vx]
theorem ztv(P F):∀d t b,cellOfByte (wf P F) d t b=cellOfByte P d t b:=by intro d;induction d<;>grind [cellOfByte,Yj,Vw,xH]
def Uj(P F d)(e:Zt)(c o b):cellAtBytes (wf P F) d e c o b=cellAtBytes P d e c o b:=by grind [cellAtBytes,Vw,xH,DD,ztv]
def TM(a)(u:Zt)(n p w):(lF a u n).run p w=dG (match w.shape? a.block with
  |some (e,c)=>liesAt p p.depth e (c/p.cellsOf e) a.off u n|none=>ao) w:=by
 cases h:w.shape? a.block with|none=>simp[lF,p9,lG,mC,gl,gc,h,iu]|some y=>let⟨e,c⟩:=y;simp[lF,p9,lG,mC,gl,gc,h,iu]
def xmt{s:Sem z}(h:∀w,Sm P X w w->¬qI (s.run (wf P F) w)/\tR (s.run (wf P F) w)):B P F X s:=⟨λw v c a b=>dC b (h w a.jL).1,λw a b=>dC b (h w a).1,λw a=>(h w a).2⟩
theorem Kf(hx:¬X r):B P F X<|shape r:=
 B3 (λw=>dG (w.shape? r) w) (λ_=>O) (λ_ _ _=>O) (λ_=>bD) (λ_=>O) (λw v b a _=>⟨#[],by simp[lG,fk,hV,dU,a.out r hx,-fd],Â⟩)
def xiw(hx:¬X a.block):B P F X<|freeze a n:=by
 let x:∀w v:Zy,Sm P X w v->Sm P X (w.freeze a n) (v.freeze a n):=by
  intro w v h;unfold iJ;split;exact h;refine⟨ã,λr b=>?_,λr b=>?_,λr=>by
   let i:=h.rA r;simp only[Jg];split;cases q:w.heap[r]?with|none=>grind|some o=>rw[q]at i;cases o with|cells=>exact .G|_=>exact i
   omega,h.nQ,h.gY,h.os,h.cX,⟨by simp[Array.size_modify];exact h.rl.1,λr b k=>by let c:a.block≠r:=λe=>hx<|e▸b;simp only[Jg,c,kB];exact h.rl.2 r b k⟩⟩
  simp[Jg,h.out r b];let c:a.block≠r:=λe=>hx<|e▸b;simp only[Jg,c,kB];exact h.jH r b
 let f:∀(w:Zy) (r:Q),X r->(w.freeze a n).heap[r]?=w.heap[r]?:=by intro w r b;unfold iJ;split;rfl;grind
 refine⟨λw v l g j=>⟨v.freeze a n,#[],⟨?_,x w v g,λr b=>f v r b,Â,?_⟩⟩,λw g j=>⟨?_,?_,λt d _=>?_⟩,λw _=>bD⟩;grind [freeze,fk,gc,hV];grind [iJ];show w.drawn<=(w.freeze a n).drawn;grind [iJ];show(w.freeze a n).tape=w.tape;grind [iJ];let e:(w.freeze a n).drawn=w.drawn:=by unfold iJ;split<;>rfl
 show dG () ((re w t d).freeze a n)=dG () (re (w.freeze a n) t<|d+((w.freeze a n).drawn-w.drawn));rw[e];grind [iJ,re]
def TZ(a:Addr):∀(n:Q) (b:Addr) (A:eM),B P F X (lH b A n)
 |0,b,A=>by grind [lH,W7]|n+1,b,A=>by unfold lH;refine xq (NI _ _) λx=>?_;split;exact TZ a n _ _;exact xz _
theorem xck(a)(u:Zt)(n)(k:n≠0):B P F X<|variablesAt a u n>>=λb=>if b then(lH a .empty n>>=λs=>freeze a n>>=λ_=>(iu (ak s):Sem Zv))else unsupported (.unsafePointer "String: not so many bytes at ptr"):=by
 by_cases f:X a.block;refine xmt λw i=>?_;rw[show(lF a u n>>=_).run _ w=_ from qe _ _ _ w];obtain⟨o,q,d,l,⟨g,p⟩|⟨c,e,rfl,rfl⟩⟩:=i.jH _ f;let e:(lF a u n).run (wf P F) w=dG ao w:=by
  cases o<;>cases g
  rw[TM];simp[dU,d]
 rw[e];exact⟨id,bD⟩;let e:∃b,(lF a u n).run (wf P F) w=dG b w:=⟨_,TM a u n _ w⟩;let⟨b,x⟩:=e;rw[x];cases b with
 |false=>exact⟨id,bD⟩
 |true=>
  let j:(lH a .empty n).run (wf P F) w=ft (jF "load: no such cell") w:=by
   obtain⟨m,rfl⟩:=Nat.exists_eq_succ_of_ne_zero k;let h:(oe a .plain).run (wf P F) w=ft (jF "load: no such cell") w:=by rw[Kh];simp[N,mA,iI,d]
   unfold lH;rw[show(oe a .plain>>=_).run _ w=_ from qe _ _ _ w,h];rfl
  show¬qI ((lH a .empty n>>=λs=>freeze a n>>=λ_=>(iu (ak s):Sem Zv)).run (wf P F) w)/\tR ((lH a .empty n>>=λs=>freeze a n>>=λ_=>(iu (ak s):Sem Zv)).run (wf P F) w);rw[show(lH a .empty n>>=_).run _ w=_ from qe _ _ _ w,j];exact⟨id,bD⟩
 refine xq ?_ λb=>?_;grind [lF,Xq,Kl,Vx,Vw,xq,Kf,xr];split;exact xq (TZ a ..) λs=>xq (xiw f) λ_=>xr _;exact Yb _ bD
theorem zyu(d)(t:Zt)(a):B P F X<|Builtin.unsafeSliceData_ d t a:=by
 let⟨l⟩:=a;obtain _|⟨x,_|⟨y,l⟩⟩:=l;exact xz _;cases x with
 |slice b n c=>
  cases b with|none=>exact xr _|some b=>exact pV (xr _)<|xq (Od _) λ_=>pV (xr _)<|xq (iU.j.2.1 _) λ_=>xq (AH _ ⟨λc e h=>È,λf h=>È,λl h=>È⟩) λ_=>xr _
 |_=>exact xz _
 cases x<;>first|exact xz _|(rename_i b _ _;cases b<;>exact xz _)
def Fe(s:Sem z):Prop:=∀p w a W,s.run p w≠ dG a W
theorem xka{s}{k:z->Sem S}(h:∀a,Fe<|k a):Fe<|s>>=k:=λp w b c e=>by rw[show(s>>=k).run p w=_ from qe p s k w]at e;cases q:s.run p w with|ok a w1=>rw[q]at e;exact h a p w1 b c e|halt x w1=>simp_all
theorem xdt(v):Fe (goPanic v:Sem z):=λp w a b e=>Æ
theorem Vg(e):Fe (runtimePanic e:Sem z):=by grind [runtimePanic,xka,xdt]
theorem Fi{s}{k:z->Sem S}(i:B P F X s)(g:Fe s):B P F X<|s>>=k:=by
 refine⟨λw v f c b=>?_,λw c b=>?_,λw c=>?_⟩;rotate_left 2;let e:(s>>=k).run (wf P F) w=_:=qe _ s k w;rw[e];let j:=i.km w c;cases x:s.run _ w with
 |ok a W=>exact dC x<|g _ _ _ _
 |halt p W=>rw[x]at j;exact j
 let e:(s>>=k).run (wf P F) w=_:=qe _ s k w;let l:(s>>=k).runT P v f=_:=Yf P s k v f;rw[e]at b⊢;rw[l];cases x:s.run _ w with
 |ok a W=>exact dC x<|g _ _ _ _
 |halt p W=>rw[x]at b;let⟨C,q,h⟩:=i.nh w v f c (by rw[x];revert b;cases p<;>exact id);rw[x]at h;refine⟨C,q,⟨?_,h.sm,h.iQ,h.tz,h.io⟩⟩;rw[h.eq];rfl
 let n:∀w,(s>>=k).run (wf P F) w=_:=qe _ s k;unfold tQ;simp only[n]at b⊢;cases x:s.run _ w with
 |ok a W=>exact dC x<|g _ _ _ _
 |halt h W=>rw[x]at b;let⟨u,o,D⟩:=i.oK w c (by rw[x];revert b;cases h<;>exact id);rw[x]at u o D;refine⟨u,o,λt d m=>?_⟩;rw[D t d m];rfl
def zr6(u):Fe (unsupported u:Sem z):=λp w a b e=>Æ
theorem zqy(c)(t:Zt)(a):B P F X<|Builtin.unsafeString_ c t a:=by
 unfold Builtin.unsafeString_;let⟨l⟩:=a;obtain _|⟨x,_|⟨y,_|⟨z,l⟩⟩⟩:=l;exact xz _;cases x<;>exact xz _
 cases x with
 |pointer b=>
  dsimp only;refine xq (oh.2.1 _) λn=>?_;split;split;grind [Fi,tP,Vg];split;exact Fi (Yb _ bD)<|zr6 _;cases b with|none=>grind [tP,xr]|some b=>dsimp only;split;exact xr _;refine xq (iU.j.2.1 _) λu=>?_;grind [xck]
  exact xz _
 |_=>exact xz _
 cases x<;>exact xz _
theorem jar(c)(t:Zt)(a)(h:∀u,c[0]?=Y u->GH P u=M):B P F X<|Builtin.len_ c t a:=by
 unfold Builtin.len_;split
 ·rename_i u x p;refine GF λd q=>?_;let b:=h u Á;unfold GH at b;rw[q]at b;repeat' (first|((with_reducible refine B7 (λ_ _ _=>?_) ?_);rotate_left;next=>(intro o e w;cases o<;>first|(cases e;done)|exact⟨id,bD⟩))|(with_reducible first|refine xq ?_ (λ_=>?_)|exact xr _|exact xz _|exact Yz _)|split)
  grind
 exact xz _
theorem jap(b)(t:Zt)(a)(h:∀u,b[0]?=Y u->GH P u=M):B P F X<|Builtin.cap_ b t a:=by unfold Builtin.cap_;split<;>grind [GF,GH,xr,xz]
end
section
variable{P:cI}{F:bE kL}{X:Q->Prop}
attribute[local simp] Fg AF Ff Vx Vw xH DD Uj Kl
def xi0(e:Zt)(s):B P F X<|Conv.stringToRunes e s:=by unfold Conv.stringToRunes;repeat' (first|(with_reducible first|refine xq ?_ (λ_=>?_)|exact iU.2.2.1 _ _|exact xr _|exact Vr _))
def zyq(x):B P F X<|Conv.runesToString x:=by unfold Conv.runesToString;repeat' (first|(with_reducible first|refine xq ?_ (λ_=>?_)|exact iU.f.1 _ _|exact xr _|exact xz _|refine GJ _ _ (λ_ _=>?_) _)|split)
theorem xis(c D:Zt)(x)(h:NK P c D=M):B P F X<|convert c D x:=by refine GF λa d=>GF λb e=>?_;unfold NK at h;rw[d,e]at h;split at h<;>first|(cases h;done)|(rename_i q t;cases q;cases t;(repeat' (first|((with_reducible apply Yb _);next=>(exact bD))|(with_reducible first|refine xq ?_ (λ_=>?_)|exact zyq _|exact xi0 _ _|exact zyn _ _ _ _|exact NS _ _ _|exact zv0 _ _|exact zvy _ _ _|exact zpo _ _|exact oh.2.2.1 _|exact iU.e.1 _|exact iU.d.1 _ _|exact xr _|exact xz _|exact Yz _)|split))<;>grind)
def zyx(p d)(e:Zt)(o b):cellAtBytes p d e 0 o b=R:=by unfold cellAtBytes;simp only[mC,Option.bind];grind
def xmw{k:dD (Zt×Q)->Sem S}(hk:∀s,B P F X<|k s)(p:∀e w,¬qI ((k<|some (e,0)).run (wf P F) w)/\tR ((k<|some (e,0)).run (wf P F) w)):B P F X<|shape r>>=k:=by
 by_cases m:X r;refine⟨λw v d a b=>?_,λw a b=>(hk _).oK w a b,λw a=>(hk _).km w a⟩;obtain⟨o,n,g,i,⟨j,l⟩|⟨c,e,rfl,rfl⟩⟩:=a.jH _ m;cases o<;>cases j
 let f:(lG r>>=k).run (wf P F) w=(k R).run (wf P F) w:=by simp[dU,g]
 let h:(lG r>>=k).runT P v d=(k R).runT P v d:=by cases n<;>cases l<;>simp[dU,i]
 rw[f]at b⊢;rw[h];exact(hk R).nh w v d a b;exfalso;let f:(lG r>>=k).run (wf P F) w=(k<|some (e,0)).run (wf P F) w:=by simp[dU,g]
 grind;grind [xq,Kf]
def Ua(a)(t:Zt)(x y):B P F X<|Builtin.unsafeAdd_ a t #[x,y]:=by
 cases x with
 |pointer b=>
  refine xq (oh.2.1 _) λn=>?_;repeat' (first|((with_reducible refine xmw (λ_=>?_) ?_);rotate_left;next=>(intro e w;simp[p9,mC,gl,gc,zyx,unsupported,qI,tR,J2]))|(exact Fi ..)|((with_reducible apply Yb _);next=>(exact bD))|((with_reducible refine Xq ?_ ?_);next=>simp)|(with_reducible first|refine xq ?_ (λ_=>?_)|refine pV ?_ ?_|exact Od _|exact xr _)|split)
 |_=>exact xz _
def xb8(a l):B P F X<|asNumber a l:=by unfold asNumber;repeat' (first|((with_reducible apply AH _);next=>(refine⟨λc e h=>?_,λb h=>?_,λl h=>?_⟩<;>cases h<;>simp))|(with_reducible first|refine xq ?_ (λ_=>?_)|exact xr _))
def ztc(t:Zt)(x y):B P F X<|movedNumber t x y:=by unfold movedNumber;repeat' (first|((with_reducible apply Yb _);next=>(exact bD))|(with_reducible first|refine xq ?_ (λ_=>?_)|refine pV ?_ ?_|exact xb8 _ _|exact Ua _ _ _ _|exact iU.j.c.1 _|exact xr _|exact Yz _)|split)
def zqu(t:Zt)(x y):B P F X<|movedPointer t x y:=by unfold movedPointer;repeat' (first|((with_reducible apply Yb _);next=>(exact bD))|(with_reducible first|refine xq ?_ (λ_=>?_)|refine pV ?_ ?_|exact Ua _ _ _ _|exact Uf _)|split)
theorem T'(a b):B P F X<|Op.twoPlaces a b:=by unfold Op.twoPlaces;repeat' (first|((with_reducible apply Yb _);next=>(exact bD))|((with_reducible refine Xq ?_ ?_);next=>(first|(simp;done)|rfl))|(with_reducible first|refine xq ?_ (λ_=>?_)|refine pV ?_ ?_|exact Ke _|exact xr _))
def xiq(k a b):B P F X<|Op.addrSub k a b:=by grind [Op.addrSub,xq,T',xr]
def xio(o a b):B P F X<|Op.addrCmp o a b:=by unfold Op.addrCmp;repeat' (first|((with_reducible apply Yb _);next=>(exact bD))|(with_reducible first|refine xq ?_ (λ_=>?_)|exact T' _ _|exact xr _)|split)
def xip(k a n):B P F X<|Op.addrMod k a n:=by unfold Op.addrMod;repeat' (first|((with_reducible refine Un (λ_=>?_) ?_);rotate_left;next=>grind)|((with_reducible apply Yb _);next=>(exact bD))|(with_reducible first|refine xq ?_ (λ_=>?_)|refine pV ?_ ?_|exact Ke _|exact xr _|exact zP _)|split)
def xr1(o)(t:Zt)(x y):B P F X<|binOp o t x y:=by unfold binOp;repeat' (first|((with_reducible apply Yb _);next=>(exact bD))|(with_reducible first|refine xq ?_ (λ_=>?_)|refine pV ?_ ?_|exact xip _ _ _|exact xio _ _ _|exact xiq _ _ _|exact zqu _ _ _|exact ztc _ _ _|exact zym _ _ _ _ _ _|exact Uc _ _ _ _|exact TS _ _ _ _|exact Gy.1 _ _ _|exact iU.j.c.1 _|exact iU.j.2.2.1 _ _ _|exact iU.j.j.e.1 _ _ _|exact pU.c.1 _ _ _ _ _|exact iU.j.g.1 _ _ _ _|exact pU.2.2.1 _ _ _ _|exact iU.j.f.1 _ _ _ _|exact xr _|exact xz _|exact Yz _)|split)
def N'(t:Zt)(x):B P F X<|Place.get t x:=by unfold Place.get;repeat' (first|(with_reducible first|exact oh.c.1 _ _|exact xr _)|split)
theorem Oc:∀(l:bA FieldStep) (t:Zt) (x:Place),B P F X (follow l t x)
 |[],t,x=>by grind [follow,xr]|s::l,t,x=>by unfold follow;repeat' (first|(with_reducible first|refine xq ?_ (λ_=>?_)|refine pV ?_ ?_|exact Oc l _ _|exact N' _ _|exact pU.2.1 _ _|exact pU.1 _|exact oh.1 _ _ _|exact xz _|exact Yz _)|split)
def xi1(d)(t:Zt)(p a b):B P F X<|Builtin.ssaWrapNilChk_ d t #[p,ak a,ak b]:=by
 cases p with
 |pointer q=>
  cases q with
  |some q=>exact xr _
  |none=>
   refine xq (Vr _) λc=>?_;repeat' (first|(exact Fi ..)|((with_reducible apply Yb _);next=>(exact bD))|(with_reducible first|refine xq ?_ (λ_=>?_)|refine pV ?_ ?_|exact tP _|exact xz _|exact zP _|exact Yz _)|split|(dsimp only))
 |_=>exact xz _
theorem TT(t:Zt)(x b w):B P F X<|receiverAt t x b w:=by unfold receiverAt;repeat' (first|(exact xi1 ..)|(with_reducible first|refine xq ?_ (λ_=>?_)|exact N' _ _|exact pU.1 _|exact oh.c.1 _ _|exact xr _|exact xz _|exact Yz _)|split)
theorem ztd(t:Zt)(v p b):B P F X<|receiverVia t v p b:=by grind [receiverVia,xq,TT,Oc]
theorem Ul:∀(n:Q) (t:Zt) (v:Zv) (x:String),B P F X (method n t v x)
 |0,t,v,x=>by unfold method;exact Yb _ bD|n+1,t,v,x=>by unfold method;repeat' (first|(with_reducible first|refine xq ?_ (λ_=>?_)|exact Ul n _ _ _|exact TT _ _ _ _|exact Oc _ _ _|exact N' _ _|exact tP _|exact xr _|exact xz _|exact zP _)|split)
def TN:∀(l:bA FieldStep) (t:Zt) (x:dD Zv),B P F X (followBlind l t x)
 |[],t,x=>by grind [followBlind,xr]|s::l,t,x=>by unfold followBlind;repeat' (first|(with_reducible first|refine xq ?_ (λ_=>?_)|exact TN l _ _|exact oh.1 _ _ _|exact xr _|exact xz _|exact Yz _)|split)
def Ue:∀(n:Q) (t:Zt) (v:Zv) (x:String),B P F X (nilAhead n t v x)
 |0,t,v,x=>by grind [nilAhead,xr]|n+1,t,v,x=>by unfold nilAhead;repeat' (first|(with_reducible first|refine xq ?_ (λ_=>?_)|exact Ue n _ _ _|exact TN _ _ _|exact xr _|exact xz _|exact zP _|exact Yz _)|split)
theorem xiy(f a):B P F X<|Deferred.ofValue f a:=by unfold Deferred.ofValue;grind [xr,xz]
def GD(r c)(t:Zt):B P F X<|resolve r c t:=by grind [o8,xiy,xr]
def vv(F:Zc)(f:FuncId):Prop:=∃x s,F[f]?=Y x/\x.body=Y (.refuse s)/\(x.name== "runtime.NumGoroutine")=ao
structure BN(P:Zp)(F:Zc)(X:ZP)(s:Sem Next):Prop where
 nh:∀w v aw,Sm P X w v->qI (s.run (wf P F) w)->(∀f a W,s.run (wf P F) w=dG (nN f a) W->¬vv F f)->∃q x,CR P X v aw (s.run (wf P F) w) (s.runT P v aw) q x
 oK:∀w,Sm P X w w->qI (s.run (wf P F) w)->tQ w (s.run (wf P F) w) (s.run<|wf P F)
 km:∀w,Sm P X w w->tR (s.run (wf P F) w)
theorem Bl.eG(h:B P F X s):BN P F X s:=⟨λw v a b c _=>h.nh w v a b c,h.oK,h.km⟩
theorem Kk{s}{k:z->Sem Next}(f:B P F X s)(hk:∀a,BN P F X<|k a):BN P F X<|s>>=k:=by
 let j:∀w,(s>>=k).run _ w=_:=λw=>qe (wf P F) s k w;refine⟨λw v g c b m=>?_,λw c b=>?_,λw c=>?_⟩;rotate_left 2;rw[j];let n:=f.km w c;cases hq:s.run _ w with|halt hh W=>rw[hq]at n;exact n|ok a W=>let⟨C,u,hm⟩:=f.nh w w #[] c õ;rw[hq]at hm;exact(hk a).km W hm.sm.jL
 let p:(s>>=k).runT P v g=_:=Yf P s k v g;rw[j]at b⊢;rw[p];simp only[j]at m;cases D:s.run _ w with
 |halt hh W=>
  rw[D]at b;let⟨C,u,h⟩:=f.nh w v g c (by rw[D];revert b;cases hh<;>exact id);rw[D]at h;refine⟨C,u,⟨?_,h.sm,h.iQ,h.tz,h.io⟩⟩;rw[h.eq];rfl
 |ok a W=>rw[D]at b m;let⟨C,u,h⟩:=f.nh w v g c zbf;rw[D]at h;let⟨v'',new',G⟩:=(hk a).nh W C (g++u) h.sm b m;refine⟨v'',u++new',⟨?_,G.sm,λx o=>(G.iQ x o).trans<|h.iQ x o,?_,xa h.io G.io⟩⟩;rw[h.eq];show(k a).runT P C (g++u)=_;rw[G.eq,Xn];rfl;intro e r;obtain x|x:=Kz.1 r;exact(h.tz e x).U G.io;exact G.tz e x
 unfold tQ;simp only[j]at b⊢;cases D:s.run _ w with
 |halt h W=>
  rw[D]at b;let⟨h1,A,I⟩:=f.oK w c (by rw[D];revert b;cases h<;>exact id);rw[D]at h1 A I;refine⟨h1,A,λt d l=>?_⟩;rw[I t d l];rfl
 |ok a W=>
  rw[D]at b;let⟨h1,A,I⟩:=f.oK w c zbf;rw[D]at h1 A I;simp only[rW,hV]at h1 A I;let⟨C,u,hm⟩:=f.nh w w #[] c zbf;rw[D]at hm;let⟨k1,k2,k3⟩:=(hk a).oK W hm.sm.jL b;show w.drawn<=(rW<|(k a).run (wf P F) W).drawn/\(rW<|(k a).run (wf P F) W).tape=w.tape/\∀t d,DI w ((rW<|(k a).run (wf P F) W).drawn-w.drawn) t d->_=hV (re (rW<|(k a).run (wf P F) W) t<|d+((rW<|(k a).run (wf P F) W).drawn-w.drawn)) ((k a).run (wf P F) W);refine⟨À,k2.trans A,λt d l=>?_⟩;rw[I t d<|l.le À];let:=k3 t (d+(W.drawn-w.drawn)) (λi q y=>by
   let:=l (W.drawn-w.drawn+i) q À
   grind)
  rw[show d+(W.drawn-w.drawn)+((rW _).drawn-W.drawn)=d+((rW<|(k a).run (wf P F) W).drawn-w.drawn) by omega]at this;exact this
structure nz(P:Zp)(F:Zc)(X:ZP):Prop where
 fU:∀f:Q,F[f]?=P.funcs[f]?\/vv F f\/∃x q,P.funcs[f]?=Y x/\F[f]?=Y q/\x.name=q.name/\x.body.isNone=ao/\q.body.isNone=ao
 Ts:∀f:Q,(F[f]?).map (·.results)=(P.funcs[f]?).map (·.results)
 Gw:∀(f:Q) x,F[f]?=Y x->(x.name== "runtime.NumGoroutine")=ao
 eG:∀(f:Q) x,F[f]?=Y x->x.body.isNone=M->kV x=R
 Tr:∀(f:Q) x,F[f]?=Y x->x.body.isNone=M->∀e,oH x=Y e->∀a,B P F X<|e a
def Oa{k}(h:k P=k (wf P F))(hk:BN P F X<|k<|wf P F):BN P F X<|program>>=k:=by
 let d:∀w,(p9>>=k).run _ w=(k _).run (wf P F) w:=λw=>O;let e:∀w a,(p9>>=k).runT P w a=(k<|wf P F).runT P w a:=λw a=>É
 refine⟨λw v a b c f=>?_,λw b c=>?_,λw b=>by rw[d];exact hk.km w b⟩;rw[d]at c⊢;rw[e];exact hk.nh w v a b c f;rw[d]at c;let:=hk.oK w b c;grind [tQ]
theorem NY(x:nz P F X)(f A):BN P F X<|callFunc f A:=by
 unfold callFunc;obtain h|⟨a,s,b,c,d⟩|⟨a,g,b,c,d,m,n⟩:=x.fU f
 ·refine Oa ?_ ?_;rw[<-h];rfl;apply Bl.eG;show B P F X (match F[f]?with|none=>_|some a=>_);cases q:F[f]?with
  |none=>exact xz _
  |some a=>
   dsimp only;split;exact xr _;split
   ·rename_i t;refine xq (TE _<|ac ⟨f,O⟩) λ_=>?_;rw[(x.eG f a q t)];dsimp only;repeat' (first|(exact(x.Tr f a q t) _ ‹_› _)|((with_reducible apply Yb _);next=>(exact bD))|(with_reducible first|refine xq ?_ (λ_=>?_)|refine pV ?_ ?_|exact xr _)|split)
   exact xr _
 let e:∀w,(callFunc f A).run _ w=dG (nN f A) w:=λw=>by show(match F[f]?with|none=>_|some a=>_:Sem Next).run (wf P F) w=_;simp_all
 refine⟨λw v l j k i=>dC ⟨a,s,b,c,d⟩<|i f A w<|e w,λw j k=>?_,λw _=>by unfold callFunc at e;rw[e];trivial⟩;grind [callFunc,tQ,hV,rW];refine Oa ?_ ?_;show(match P.funcs[f]?with|none=>_|some a=>_)=(match F[f]?with|none=>_|some a=>_);grind;apply Bl.eG;show B P F X (match F[f]?with|none=>_|some a=>_);grind [xr]
theorem TQ(x:nz P F X)(r a A):BN P F X<|callMethod r a A:=by
 unfold callMethod;split;apply Oa O;grind [Kk,Ul,NY]
 ·exact Bl.eG<|tP _
 grind [Bl.eG,xz]
def xir(b d)(t:Zt)(c a)(h:BZ P b d=M):B P F X<|builtin b d t c a:=by
 unfold builtin;cases b<;>simp[BZ,ja]at h<;>dsimp only
 case append=>grind [xq,xmk,xr]
 case cap=>grind [xq,jap,xr]
 case clear=>exact xq (oh.j.e.1 ..) λ_=>xr _
 case copy=>exact xq (pU.j.j.d ..) λ_=>xr _
 case delete=>exact xq (Gz.d ..) λ_=>xr _
 case len=>grind [xq,jar,xr]
 case max=>grind [xq,jas,xr]
 case min=>grind [xq,jat,xr]
 case panic=>grind [xq,Um,xr]
 case recover=>exact xr _
 case unsafeSliceData=>grind [xq,zyu,xr]
 grind [xq,zqy,xr]
def DF(x:nz P F X)(t A)(h:Wn P t=M):BN P F X<|invoke t A:=by
 unfold invoke;cases t with
 |nil=>exact Bl.eG<|tP _
 |builtin b q u c=>exact Bl.eG<|xir _ _ _ _ _ h
 |collected r=>exact Bl.eG<|xz _
 |coroexit c=>cases h
 |fn f c=>
  cases f with
  |func f=>exact NY x _ _|method n=>grind [TQ,Bl.eG,xz]
  |methodOf t n=>grind [Kk,Yz,TQ,Bl.eG,xz]|via t p f b=>grind [Kk,ztd,NY,Bl.eG,xz]
  |yield l=>exact Bl.eG<|oh.j.d.1 ..
theorem Vu{q c}{t:Zt}(h:Fk P c=M){p w W d}(a:(o8 q c t).run p w=dG d W):Wn P d.target=M:=by
 unfold o8 at a;unfold Fk at h;cases x:c.callee with
 |builtin b=>
  rw[x]at a h;cases a;exact h
 |invoke r n=>
  rw[x]at a;cases a;rfl
 |value f=>rw[x]at a;unfold Deferred.ofValue at a;dsimp only at a;split at a<;>cases a<;>rfl
def Kg{s k}{q:z->Prop}(n:B P F X s)(r:∀w a W,s.run (wf P F) w=dG a W->q a)(hk:∀a,q a->BN P F X (k a)):BN P F X<|s>>=k:=by
 classical
 let m:∀p w,(∀a W,s.run p w=dG a W->q a)->(s>>=k).run p w=(s>>=λa=>if q a then k a else stuck "").run p w:=λp w h=>by rw[show(s>>=k).run p w=_ from qe p s k w,show(s>>=λa=>if q a then k a else stuck "").run p w=_ from qe p s _ w];cases u:s.run p w<;>simp_all
 let l:=Kk (k:=λa=>if q a then k a else stuck "") n (λa=>by grind [Bl.eG,xz]);let i:∀w,(s>>=k).run _ w=_:=λw=>m _ w λa W=>r w a W;refine⟨λw v c d g o=>?_,λw d g=>?_,λw d=>by rw[i];exact l.km w d⟩;let b:=g;rw[i]at b;let⟨G,D,h⟩:=l.nh w v c d b (λf a W e=>o f a W Á);exists G,D;rw[i];let t:(s>>=k).runT P v c=(s>>=λa=>if q a then k a else stuck "").runT P v c:=by
  rw[show(s>>=k).runT P v c=_ from Yf P s k v c,show(s>>=λa=>if q a then k a else stuck "").runT P v c=_ from Yf P s _ v c];let j:qI<|s.run (wf P F) w:=by rw[show(s>>=k).run _ w=_ from qe _ s k w]at g;cases u:s.run _ w with|ok a W=>trivial|halt x W=>rw[u]at g;revert g;cases x<;>exact id
  let⟨I,C,A⟩:=n.nh w v c d j;rw[A.eq];cases u:s.run _ w with|ok a W=>grind [hV]|halt x W=>rfl
 grind;let b:=g;rw[i]at b;let:=l.oK w d b;grind [tQ]
def Fh(q:nz P F X)(t o)(h:vy P o.op=M):BN P F X<|execOp t o:=by
 unfold aR;cases p:o.op<;>rw[p]at h<;>simp[vy,ja]at h<;>dsimp only
 case call c=>exact Kg (GD ..) (λw d b a=>Vu h a) λd j=>DF q _ _ j
 case convert u D x=>grind [Bl.eG,xq,xis,xr]
 all_goals apply Bl.eG
 all_goals (repeat' (first|((with_reducible apply Yb _);next=>(exact bD))|((with_reducible refine Xq ?_ ?_);next=>(first|(simp;done)|rfl))|(with_reducible first|refine xq ?_ (λ_=>?_)|refine pV ?_ ?_|exact GD _ _ _|exact Ue _ _ _ _|exact xr1 _ _ _ _|exact Um _|exact pU.j.j.c.1 _ _ _ _|exact iU.j.j.j.2.2.1 _ _ _|exact xmv _ _|exact pU.j.j.2.2.1 _ _ _ _|exact Gz.c.1 _ _ _|exact Gz.2.2.1 _ _ _ _|exact pU.j.j.2.1 _ _ _|exact pU.j.j.1 _ _|exact iU.j.j.j.2.1 _ _|exact iU.j.j.j.1 _ _ _|exact pU.j.g.1 _ _|exact Gz.2.1 _ _ _ _|exact pU.j.f.1 _ _ _|exact pU.j.e.1 _ _ _|exact iU.j.j.g.1 _ _|exact iU.j.j.f.1 _|exact oh.j.c.1 _ _ _|exact oh.j.2.2.1 _ _|exact pU.j.d.1 _ _|exact pU.j.c.1 _ _ _|exact pU.j.2.2.1 _ _|exact Gz.1 _ _ _ _ _|exact pU.j.1 _ _ _|exact pU.g.1 _ _ _|exact pU.f.1 _ _|exact Gy.2.2 _ _ _|exact pU.e.1 _ _ _ _ _ _|exact oh.j.1 _ _|exact iU.j.1 _|exact tP _|exact xr _)|split))
end
end
section
open Go.Conc
variable[pn:Pn]
section
variable{P:cI}{F:bE kL}{X:Q->Prop}
structure Af(P:Zp)(X:ZP)(v W q:Zy)(aw:bE me):Prop where
 sm:Sm P X W q
 iQ:∀x,X x->q.heap[x]?=v.heap[x]?
 tz:∀e∈aw,vx X (V<|Z q) e
 io:V (Z v)<=V (Z q)
def Tv(P:Zp)(X:ZP)(v:Zy)(q s:qB):Prop:=
 ∀G W e,q=ij G W e->G.dying=R->∃x aw,s=ij G x aw/\Af P X v W x aw
def Nx:Next->Prop
 | gp _| .skip| nN _ _| .round ..| .defer _| .recover=>True
 |_=>False
def Vi(P:Zp)(F:Zc)(f:FuncId):Prop:=F[f]?=P.funcs[f]?/\¬vv F f
def Af.Gv{v W x a}(h:Af P X v W x aw)(c:∀e∈a,e∈aw):Af P X v W x a:=
 ⟨h.sm,h.iQ,λe b=>h.tz e<|c e b,h.io⟩
def CR.af{r}{b:lu z×bE me}{v x a}(h:CR P X v #[] r b x a):Af P X v (rW r) x a:=⟨h.sm,h.iQ,h.tz,h.io⟩
theorem CR.pT{s:Sem z}{r v x a}(h:CR P X v #[] r (s.runT P v #[]) x a):s.run P v=hV x r/\s.events P v #[]=a:=by have:=h.eq;simp_all
def GC{f}(h:F[f]?=P.funcs[f]?)(A k):bI (wf P F) f A k=bI P f A k:=by grind [bI,wf]
def Ug{f c m w W G a}(h:bJ aw (dieOf f c m b w)=ij G W a):G.dying≠R:=by cases h;simp
theorem Ka{f m w W G a}(h:bJ aw (endThrow f m w)=ij G W a)(x:G.dying=R):False:=Ug h x
theorem J'{p f C m w W G a}(h:bJ aw (endFatal p f C R m w)=ij G W a)(x:G.dying=R):False:=by unfold endFatal at h;dsimp only at h;split at h;exact Ug h x;cases h;cases h
def GB{P1 P2 w1 t A r D C}(hk:D.kind≠ eK)(j:P1.follows=P2.follows)
  (i:s.run P1 w1=r)(z:s.run P2 t=hV A r)(o:tR r)(w:∀n x,r=dG n x->Nx n)(v:∀f a x k,r=dG (nN f a) x->bI P1 f a k=bI P2 f a k)
  {G I p}(h:aO P1 M D C R s w1=ij G I p)(hd:G.dying=R):
  qI r/\I=rW r/\aO P2 M D C R s t=ij G A (seen P2 D.fn<|s.events P2 t #[]):=by
 let e:(D.kind==eK)=ao:=by cases hq:D.kind<;>simp_all
 cases r with
 |halt hh x=>
  cases hh with
  |panic y=>
   simp only[aO,ze,dY,i,e]at h;cases h;exists bD,O;exact ä
  |blocked=>exact o.elim|waiting=>exact o.elim
  |goexit=>exact o.elim|fatal m=>grind [aO,ze,J']
  |throw m=>grind [aO,ze,Ka]
  |exit c=>
   exfalso;exact zb3
  |stuck m=>
   exfalso;exact zb3
  |unsupported u=>
   exfalso;cases u with
   |initOrder g=>exact o.elim
   |_=>
    exact zb3
 |ok n x=>
  let q:=w n x O;cases n with
  |value y=>
   simp only[aO,ze,dY,i,e]at h;cases h;exists bD,O;exact ä
  |skip=>
   simp only[aO,ze,dY,i,e]at h;cases h;exists bD,O;exact ä
  |enter f a=>
   simp only[aO,ze,dY,i,e]at h;cases h;exists bD,O;exact ä
  |round l f ts a b=>
   simp only[aO,ze,dY,i,e]at h;cases h;exists bD,O;exact ä
  |defer d=>
   simp only[aO,ze,dY,i,e]at h;cases h;exists bD,O;exact ä
  |recover=>
   simp only[aO,ze,dY,i,e,j]at h;cases B:D.roundOf with
   |none=>
    cases W:dQ D C<;>
    ·simp[B,W]at h;cases h;exists bD,O;exact ä
   |some l=>
    cases j:P2.follows iz with
    |true=>
     cases W:dQ D C<;>
     ·simp[B,j,W,dY]at h;cases h;exists bD,O;exact ä
    |false=>
     cases W:tryRecoverLoop l C<;>
     ·simp[B,j,W,ja,kB]at h;cases h;exists bD,O;exact ä
  |_=>exact q.elim
def xb6(i:BN P F X s){w v}(d:Sm P X w v){q C}(hk:q.kind≠ eK)
  (g:∀n w1,s.run (wf P F) w=dG n w1->Nx n)(c:∀f a w1,s.run (wf P F) w=dG (nN f a) w1->Vi P F f):
  Tv P X v (aO (wf P F) M q C R s w) (aO P M q C R s v):=by
 intro l m j h t;let b:=i.km w d.jL;let⟨u,o,p⟩:=i.nh w v #[] d ((GB (P2:=wf P F) hk O O (Fj _).symm b g (λ_ _ _ _ _=>O) h t).1) λf a w1 e=>(c f a w1 e).2;let⟨W,D⟩:=p.pT;let⟨_,B,G⟩:=GB (P1:=wf P F) (P2:=P) (w1:=w) hk O O W b g (λf a x k e=>GC (c f a x e).1 a k) h t;exists u,_,G;rw[B,D];exact p.af.Gv λe c=>mem_seen c
def Fd(w:Zy)(st:Zy->qB):Prop:=∀G W e,st w=ij G W e->G.dying=R->w.drawn<=W.drawn/\W.tape=w.tape/\
 ∀t d,DI w (W.drawn-w.drawn) t d->∃aw,st (re w t d)=ij G (re W t<|d+(W.drawn-w.drawn)) aw
def Uh(e:BN P F X s){w}(b:Sm P X w w){x C}(hk:x.kind≠ eK)
  (c:∀n w1,s.run (wf P F) w=dG n w1->Nx n):Fd w<|stepG.apply (wf P F) M x C R s:=by
 intro i j f h q;let a:=e.km w b;let⟨p,u,_⟩:=GB (P2:=wf P F) hk O O (Fj _).symm a c (λ_ _ _ _ _=>O) h q;let⟨l1,l,o⟩:=e.oK w b p;rw[u];refine⟨l1,l,λt d g=>⟨_,(GB (P2:=wf P F) hk O O (o t d g) a c (λ_ _ _ _ _=>O) h q).2.2⟩⟩
end
end
end A
namespace A
variable{w w1 S v:Zy}{f fn:FuncId}{t:Zt}{l cs n:bA Zf}{b:ez}{fr:Zf}{En c:Prop}{s E' E:Zy->qB}{st a d:qB}{g1 g g2 g':Zg}{p P:Zp}{es:bE me}
open Go Go.Conc
section
variable[pn:Pn]
section
variable{y z:Type}{P:cI}{F:bE kL}{X:Q->Prop}
def jr{s}{k:y->Sem z}{p b}(h:(s>>=k).run p w=dG b w1):∃a W,s.run p w=dG a W/\(k a).run p W=dG b w1:=by rw[show(s>>=k).run p w=_ from qe p s k w]at h;cases q:s.run p w with|ok a W=>rw[q]at h;exact⟨a,W,O,h⟩|halt x W=>simp_all
theorem KL{s p n}(h:(s>>=λx=>(iu (gp x):Sem Next)).run p w=dG n w1):Nx n:=by let⟨a,W,_,q⟩:=jr h;cases q;trivial
def KO{s:Sem Unit}{p n}(h:(s>>=λ_=>(iu .skip:Sem Next)).run p w=dG n w1):Nx n:=by let⟨a,W,_,x⟩:=jr h;cases x;trivial
def OC(x:nz P F X){A n}(h:(callFunc f A).run (wf P F) w=dG n w1):Nx n:=by
 let⟨p,W,m,q⟩:=jr h;cases m;change(match F[f]?with|none=>_|some fn=>_:Sem Next).run (wf P F) w=_ at q;cases u:F[f]?with
 |none=>simp_all
 |some fn=>
  rw[u]at q;simp only[x.Gw f fn u]at q;cases o:fn.body.isNone with
  |false=>
   simp only[o]at q;cases q;trivial
  |true=>simp only[o,dY,x.eG f fn u o]at q;let⟨_,i,_,j⟩:=jr q;cases r:oH fn with|some e=>grind [KL]|none=>rw[r]at j;dsimp only at j;split at j;cases j;trivial;cases j
def UC(x:nz P F X){r a A n}(h:(callMethod r a A).run (wf P F) w=dG n w1):Nx n:=by unfold callMethod at h;split at h;let⟨p,W,u,q⟩:=jr h;let⟨y,o,m,j⟩:=jr q;exact OC x j;exact dC h<|Vg _ _ _ _ _;cases h
def xdx{b d}{c a}(e:BZ P b d=M){p n}(h:(builtin b d t c a).run p w=dG n w1):Nx n:=by cases b<;>simp[BZ,ja]at e<;>first|exact KL h|(cases h;trivial)
def xpb{l a p n}(h:(Instr.yield l a).run p w=dG n w1):Nx n:=by let⟨r,W,q,x⟩:=jr h;split at x;simp_all;cases x;trivial
theorem Ci(x:nz P F X){t A}(a:Wn P t=M){n}(h:(invoke t A).run (wf P F) w=dG n w1):Nx n:=by
 unfold invoke at h;cases t with
 |nil=>exact dC h<|Vg _ _ _ _ _
 |builtin b o u c=>exact xdx a h|collected r=>cases h
 |coroexit c=>cases a
 |fn f c=>
  cases f with
  |func f=>exact OC x h
  |method m=>
   dsimp only at h;split at h;exact UC x h;cases h
  |methodOf t m=>
   dsimp only at h;split at h;let⟨p,W,j,q⟩:=jr h;exact UC x q;cases h
  |via t p f b=>
   dsimp only at h;split at h;let⟨p,W,j,q⟩:=jr h;exact OC x q;cases h
  |yield l=>exact xpb h
def OD(q:nz P F X){i o}(ho:vy P o.op=M){n}(h:(aR i o).run (wf P F) w=dG n w1):Nx n:=by
 unfold aR at h;cases m:o.op<;>rw[m]at ho h<;>simp[vy,ja]at ho
 case call c=>let⟨d,W,u,j⟩:=jr h;exact Ci q (Vu ho u) j
 case defer c=>let⟨d,W,u,j⟩:=jr h;cases j;trivial
 case move=>cases h;trivial
 case assign=>cases h;trivial
 case pick=>let⟨d,W,u,j⟩:=jr h;cases j;trivial
 case panic=>exact KL h
 case nilCheck x=>dsimp only at h;split at h;exact dC h<|Vg _ _ _ _ _;exact dC h<|Vg _ _ _ _ _;exact dC h<|Vg _ _ _ _ _;split at h;exact dC h<|Vg _ _ _ _ _;let⟨p,W,u,j⟩:=jr h;let⟨y,k,e,r⟩:=jr j;split at r;simp_all;cases r;trivial;cases h;trivial;cases h;trivial
 all_goals first|exact KL h|exact KO h
def xd0{o}(h:wk P ao o=M):wk P M o=M:=by grind [wk]
theorem Cf:∀{c:pB},q9 P ao c=M->q9 P M c=M
 | fG _ o _,h=>xd0 h| gU a b,h=>by simp only[q9,jy]at*;exact⟨Cf h.1,Cf h.2⟩
 | .cond _ a b,h=>by simp only[q9,jy]at*;exact⟨Cf h.1,Cf h.2⟩| .block _ a,h=>Cf (c:=a) h
 | .loop a,h=>Cf (c:=a) h| .scope a,h=>Cf (c:=a) h
 | .rangeFunc _ _ a b,h=>h| .skip,_| .exit _,_| .label _,_| .goto _,_| .ret,_| .refuse _,_=>O
def xdy{c}(h:q9 P ao c=M):q9 P b c=M:=by cases b<;>grind [Cf]
def Vt(P:Zp)(b:ez):Item->Prop
 | dE c=>q9 P b c=M| .inLoop c=>q9 P b c=M
 | .inScope c=>q9 P b c=M| aS o _=>wk P b o=M
 | .call ..=>False| .extern ..=>False
 |_=>True
structure Jy(P:Zp)(fr:Zf):Prop where
 lk:∀I∈fr.todo,Vt P fr.roundOf.isNone I
 nk:∀d∈fr.defers,Wn P d.target=M
 eH:fr.kind≠ eK/\fr.kind≠ pR
 lL:P.inits.idxOf? fr.fn=R
def Mc(P:Zp)(f:FuncId):Prop:=∃fn c,P.funcs[f]?=Y fn/\fn.body=Y c/\q9 P M c=ao
def ni(P:Zp)(fr:Zf):Prop:=Mc P fr.fn\/Jy P fr
def uw(P:Zp)(g:Zg):Prop:=ni P g.frame/\∀c∈g.callers,ni P c
def Jy.DT(h:Jy P fr){k}(hk:∀I∈k,Vt P fr.roundOf.isNone I):Jy P {fr with todo:=k}:=⟨hk,h.nk,h.eH,h.lL⟩
def Jy.qJ(h:Jy P fr)(m):Jy P {fr with mode:=m}:=⟨h.lk,h.nk,h.eH,h.lL⟩
theorem Jy.iM(h:Jy P fr)(a):Jy P<|fr.raise a:=zck
theorem Jy.jM(h:Jy P fr)(v):Jy P<|fr.finish v:=by
 unfold Frame.finish;let b:=h.lk;split;rename_i o i r k e;rw[e]at b;refine⟨λc a=>?_,h.nk,h.eH,h.lL⟩;simp only[jc]at a;obtain rfl|a:=a;exact b (aS o (i::r)) Â
 grind;rename_i l k e;rw[e]at b;refine⟨λc a=>?_,h.nk,h.eH,h.lL⟩;simp only[jc]at a;obtain rfl|a:=a;trivial;grind;rename_i k e;rw[e]at b;exact⟨λc a=>b c Á,h.nk,h.eH,h.lL⟩;rename_i e;rw[e]at b;exact eT<|b _<|xu ..;rename_i e;rw[e]at b;exact eT<|b _<|xu ..;omega
def ni.qJ(h:ni P fr)(m):ni P {fr with mode:=m}:=h.imp id λh=>h.qJ m
theorem ni.iM(h:ni P fr)(a):ni P<|fr.raise a:=zck
def xjn(fr:Zf)(v):(fr.finish v).fn=fr.fn:=KM
theorem ni.jM(h:ni P fr)(v):ni P<|fr.finish v:=h.imp (λh=>by rw[xjn];exact h) λh=>h.jM v
def Ow{b id}:∀{k q:bA Item},(∀I∈k,Vt P b I)->exitTo id k=Y q->∀I∈q,Vt P b I
 |[],q,h,e=>Æ
 |x::k,q,h,e=>by have hk:∀I∈k,Vt P b I:=λI a=>h I Á;unfold exitTo at e;split at e;rename_i i u j;cases j;split at e;grind;exact Ow hk e;rename_i o u _ j;cases j;exact Ow hk e;grind
def Ov{b l}:∀{c r:pB},q9 P b c=M->findLabel c l=Y r->q9 P b r=M
 | gU x y,r,h,e=>by
  simp only[q9,jy]at h;unfold findLabel at e;cases q:findLabel x l with
  |some j=>
   rw[q]at e;cases e;simp only[q9,jy];exact⟨Ov h.1 q,h.2⟩
  |none=>rw[q]at e;exact Ov h.2 e
 | .label L,r,h,e=>by
  unfold findLabel at e;split at e<;>cases e
  rfl
 | .skip,r,_,e| fG ..,r,_,e| .cond ..,r,_,e| .block ..,r,_,e| .loop _,r,_,e| .rangeFunc ..,r,_,e| .exit _,r,_,e| .scope _,r,_,e| .goto _,r,_,e| .ret,r,_,e| .refuse _,r,_,e=>Æ
def Oy{b l}:∀{k q:bA Item},(∀I∈k,Vt P b I)->gotoIn l k=Y q->∀I∈q,Vt P b I
 |[],q,h,e=>Æ
 |x::k,q,h,e=>by have hk:∀I∈k,Vt P b I:=λI a=>h I Á;unfold gotoIn at e;split at e;rename_i B u j;cases j;let c:=h (.inScope B) Â;split at e;rename_i r o;cases e;intro I a;simp only[jc]at a;obtain rfl|rfl|a:=a;exact Ov c o;exact c;grind;exact Oy hk e;rename_i m u _ j;cases j;exact Oy hk e;grind
theorem KG:∀{cs C:bA Zf} {fr:Zf} {v:Zv},(∀c∈cs,ni P c)->dQ fr cs=Y (v,C)->∀c∈C,ni P c
 |[],C,fr,v,h,e=>ü
 |c::cs,C,fr,v,h,e=>by
  unfold dQ at e;split at e;rename_i q r hk j;cases j;split at e;cases e;intro x a;simp only[jc]at a;obtain rfl|a:=a;exact(h c Â).qJ _;grind;grind;rename_i W r hk j;cases j;cases u:dQ c cs with|none=>grind|some y=>rw[u]at e;cases e;intro x a;simp only[jc]at a;obtain rfl|a:=a;grind;exact KG (λz b=>h z<|by simp[b]) u x a
  grind
theorem KE:∀{cs C:bA Zf} {l:Q} {v:Zv},(∀c∈cs,ni P c)->tryRecoverLoop l cs=Y (v,C)->∀c∈C,ni P c
 |[],C,l,v,h,e=>Æ
 |c::cs,C,l,v,h,e=>by have hk:∀x∈cs,ni P x:=λx a=>h x (by simp[a]);let⟨y,q,j⟩:=zv.1 e;cases j;intro x a;simp only[jc]at a;obtain rfl|a:=a;grind;split at q;exact KE hk q x a;split at q;grind [KG];exact KE hk q x a;exact KE hk q x a
def AJ(P:Zp):Next->Prop
 | .round _ f _ a b=>q9 P ao a=M/\q9 P ao b=M/\P.inits.idxOf? f=R| .defer d=>Wn P d.target=M
 |_=>True
def UA{x c}{p d}(a:(o8 x c t).run p w=dG d S):S=w:=by
 unfold o8 at a;cases h:c.callee with
 |builtin b=>simp_all|invoke r n=>simp_all
 |value f=>rw[h]at a;unfold Deferred.ofValue at a;dsimp only at a;split at a<;>cases a<;>rfl
def UE{l p r}(h:(Instr.getLoop l).run p w=dG r S):w.heap[l]?=Y (.loop r)/\S=w:=by
 let⟨o,W,x,q⟩:=jr h;rw[Yg]at x;cases j:w.heap[l]?with
 |none=>grind
 |some u=>
  rw[j]at x;cases u<;>cases x<;>cases q
  grind
def zw7{A p n}(c:Nx n)(h:(callFunc f A).run p w=dG n w1)(b:∀fn,p.funcs[f]?=Y fn->fn.body.isNone=M->kV fn=R):AJ P n:=by let⟨r,W,u,x⟩:=jr h;cases u;cases j:p.funcs[f]?with|none=>simp_all|some fn=>rw[j]at x;dsimp only at x;split at x;cases x;trivial;split at x;rename_i o;rw[b fn j o]at x;let⟨_,i,_,q⟩:=jr x;dsimp only at q;split at q;let⟨a,k,_,m⟩:=jr q;cases m;trivial;split at q;cases q;trivial;cases q;cases x;trivial
def OE(x:nz P F X){t A}(d:Wn P t=M)(i:Sm P X w w){n}(h:(invoke t A).run (wf P F) w=dG n w1):AJ P n:=by
 let q:=Ci x d h;let k:∀{f:FuncId} {A:Za} {W:Zy},(callFunc f A).run (wf P F) W=dG n w1->AJ P n:=λh=>zw7 q h λfn e b=>x.eG _ fn e b;let o:∀{r:Zv} {L:String} {A:Za} {W:Zy},(callMethod r L A).run (wf P F) W=dG n w1->AJ P n:=λh=>by unfold callMethod at h;split at h;let⟨p,W,B,D⟩:=jr h;let⟨y,G,I,h4⟩:=jr D;grind;exact dC h<|Vg _ _ _ _ _;cases h
 unfold invoke at h;cases t with
 |nil=>exact dC h<|Vg _ _ _ _ _
 |builtin b C u c=>
  let j:BZ P b C=M:=d;cases b<;>simp[BZ,ja]at j<;>first|(let⟨a,W,_,D⟩:=jr h;cases D;trivial)|(cases h;trivial)
 |collected r=>cases h
 |coroexit c=>cases d
 |fn f c=>
  cases f with
  |func f=>grind
  |method m=>
   dsimp only at h;split at h;grind;cases h
  |methodOf t m=>
   exact zcc
  |via t p f b=>
   exact zcc
  |yield l=>let⟨r,W,B,D⟩:=jr h;obtain⟨g,rfl⟩:=UE B;split at D;simp_all;cases D;let:=(i.rA l).ry r g;exact⟨this.1,this.2.1,this.c⟩
def xdv(q:nz P F X){i o}(ho:vy P o.op=M)(b:Sm P X w w){n}(h:(aR i o).run (wf P F) w=dG n w1):AJ P n:=by
 unfold aR at h;cases m:o.op<;>rw[m]at ho h<;>simp[vy,ja]at ho
 case call c=>let⟨d,W,u,j⟩:=jr h;obtain rfl:=UA u;exact OE q (Vu ho u) b j
 case defer c=>let⟨d,W,u,j⟩:=jr h;cases j;exact Vu ho u
 case move=>cases h;trivial
 case assign=>cases h;trivial
 case nilCheck x=>dsimp only at h;split at h;exact dC h<|Vg _ _ _ _ _;exact dC h<|Vg _ _ _ _ _;exact dC h<|Vg _ _ _ _ _;split at h;exact dC h<|Vg _ _ _ _ _;let⟨p,W,u,j⟩:=jr h;let⟨y,k,e,r⟩:=jr j;split at r;simp_all;cases r;trivial;cases h;trivial;cases h;trivial
 all_goals (let⟨a,W,_,j⟩:=jr h;cases j;trivial)
def uL(P:Zp)(F:Zc):Prop:=∀f,Vi P F f->P.inits.idxOf? f=R/\(Mc P f\/∀fn c,F[f]?=Y fn->fn.body=Y c->q9 P M c=M)
def OG(e:uL P F)(g:Vi P F f)(h:¬Mc P f)(a){k}(hk:k≠ eK/\k≠ pR):Jy P<|Frame.enter (wf P F) f a k:=by refine⟨λi b=>?_,λd q=>(by cases q),hk,(e f g).1⟩;unfold bI at b;simp only[ju]at b;subst b;rw[show(wf P F).funcs[f]?=F[f]?from O];cases j:F[f]?with|none=>rfl|some fn=>cases x:fn.body with|none=>simp[x];rfl|some c=>simp[x];exact(e f g).2.resolve_left h fn c j x
def GX(b:uL P F)(d:Vi P F f)(a){k}(hk:k≠ eK/\k≠ pR):ni P<|Frame.enter (wf P F) f a k:=
 (Classical.em _).imp id λc=>OG b d c a hk
def Ur{l e a b}(h:q9 P ao a=M/\q9 P ao b=M/\P.inits.idxOf? f=R){k}(hk:k≠ eK/\k≠ pR):Jy P<|Frame.round l f e a b k:=by refine⟨λg c=>?_,λd x=>(by cases x),hk,h.2.2⟩;unfold Frame.round at c;simp only[jc,Ky,or_false]at c;obtain rfl|rfl|rfl:=c;exact h.1;trivial;exact h.2.1
def KN(G:uL P F){s cs}(g:Jy P fr)(j:∀c∈cs,ni P c)(D:tR<|s.run (wf P F) w)(E:∀n x,s.run (wf P F) w=dG n x->Nx n)
  (hk:∀n x,s.run (wf P F) w=dG n x->AJ P n)(q:∀f a x,s.run (wf P F) w=dG (nN f a) x->Vi P F f)
  {g' S r}(h:aO (wf P F) M fr cs R s w=ij g' S r)(L:g'.dying=R):uw P g':=by
 let i:(fr.kind==eK)=ao:=by let:=g.eH.1;cases I:fr.kind<;>simp_all
 let m:∀c∈fr::cs,ni P c:=λc z=>by simp only[jc]at z;obtain rfl|z:=z;exact ac g;grind
 let B:∀k:CallKind,(k=match fr.todo with| .call _ M _ _::_=>CallKind.wrapped|_=>dH)->k≠ eK/\k≠ pR:=λk e=>Á
 let o:=(GB (P2:=wf P F) g.eH.1 O O (Fj _).symm D E (λ_ _ _ _ _=>O) h L).1;cases W:s.run _ w with
 |halt A x=>
  rw[W]at o;cases A with
  |panic y=>
   simp only[aO,ze,dY,W,i]at h;cases h;exact⟨ac<|g.iM _,j⟩
  |_=>exact o.elim
 |ok n x=>
  let C:=E n x W;let t:=hk n x W;cases n with
  |value y=>
   exact zch
  |skip=>
   exact zch
  |enter f a=>
   simp only[aO,ze,dY,W,i]at h;cases h;exact⟨GX G (q f a _ W) a<|B _ O,m⟩
  |round l f ts a b=>
   simp only[aO,ze,dY,W,i]at h;cases h;exact⟨ac<|Ur t ⟨Â,Â⟩,m⟩
  |defer d=>
   simp only[aO,ze,dY,W,i]at h;cases h;let:Jy P {fr with defers:=d::fr.defers}:=⟨g.lk,λe q=>by simp only[jc]at q;obtain rfl|q:=q;exact t;exact g.nk e q,g.eH,g.lL⟩;exact⟨ac<|this.jM _,j⟩
  |recover=>
   simp only[aO,ze,dY,W,i]at h;let fin:∀y:dD _,(∀v p,y=Y (v,p)->∀c∈p,ni P c)->bJ (seen (wf P F) fr.fn (if ao=M then#[]else s.events (wf P F) w #[])) (match y with
     |some (v,callers)=>ij {frame:=fr.finish v,callers,status:=bK,dying:=R} x|none=>ij {frame:=fr.finish .nilIface,callers:=cs,status:=bK,dying:=R} x)=ij g' S r->uw P g':=λy u h=>by
    cases y with
    |none=>exact zbc
    |some y=>cases h;exact⟨ac<|g.jM _,u _ _ O⟩
   refine fin _ (λv p e=>?_) h;grind [KG,KE]
  |_=>exact C.elim
end
section
variable{y z x:Type}{P:cI}{F:bE kL}{X:Q->Prop}
structure G3(En:Prop)(P:Zp)(X:ZP)(w v:Zy)(s:Zy->qB)(st:qB):Prop where
 DQ:En->Tv P X v (s w) st
 oK:Fd w s
 ok:En->∀g' S e,s w=ij g' S e->g'.dying=R->uw P g'
def Af.yi(a:Sm P X w v):Af P X v w v #[]:=⟨a,λ_ _=>O,Â,zd _⟩
def AK(f:Sm P X w v)(d:∀w,s w=ij g1 w #[])(h:st=ij g1 v #[])(o:g1.dying=R->uw P g1):G3 En P X w v s st:=by refine⟨λ_ b c a e q=>?_,λb c a e q=>?_,λ_ b c a e q=>?_⟩;rw[d]at e;cases e;exact⟨v,#[],h,.yi f⟩;simp_all;grind
theorem Cj(a:∀g' S q,s w≠ ij g' S q):G3 En P X w v s st:=
 ⟨λ_ g' S q e _=>dC e<|a _ _ _,λg' S q e _=>dC e<|a _ _ _,λ_ g' S q e _=>dC e<|a _ _ _⟩
def OH{s}(f:B P F X s)(d:Sm P X w v){cont' cont:lu x->qB}
  (c:∀r g' S q,cont' r=ij g' S q->g'.dying=R->qI r/\S=rW r/\q=#[]/\∀u,cont' (hV u r)=ij g' u #[]/\cont (hV u r)=ij g' u #[])
  (i:∀g' S q,cont' (s.run (wf P F) w)=ij g' S q->g'.dying=R->uw P g'):
  G3 En P X w v (λw=>bJ (seen (wf P F) fn<|s.events (wf P F) w #[])<|cont'<|s.run (wf P F) w) (bJ (seen P fn<|s.events P v #[])<|cont<|s.run P v):=by
 let I:∀{b q:bE me} {st:qB} {g':Zg} {S:Zy},bJ b st=ij g' S q->∃j,st=ij g' S j:=λ{b q st g' S} e=>by
  cases st<;>cases e
  grind
 refine⟨λ_ g' S q e o=>?_,λg' S q e o=>?_,λ_ g' S q e o=>?_⟩;let⟨j,m⟩:=I e;obtain⟨a,rfl,_,g⟩:=c _ _ _ _ m o;let⟨D,k,W⟩:=f.nh w v #[] d a;let⟨C,L⟩:=W.pT;refine⟨D,seen P fn k,?_,W.af.Gv λe h=>mem_seen h⟩;grind [bJ];let⟨j,m⟩:=I e;obtain⟨a,rfl,_,g⟩:=c _ _ _ _ m o;let⟨l1,G,A⟩:=f.oK w d.jL a;grind [bJ];grind
def zyf{p s x a}(c:s.run p w=dG (nN f a) x){fr cs}(hk:fr.kind≠ eK):
  ∃k es,aO p M fr cs R s w=ij {frame:=bI p f a k,callers:=fr::cs,status:=bK,dying:=R} x es:=by
 let b:(fr.kind==eK)=ao:=by cases h:fr.kind<;>simp_all
 exact⟨_,_,by simp[aO,ze,dY,c,b];rfl⟩
def wo(P:Zp)(F:Zc)(n:Q)(s:qB):Prop:=∀g' S e,s=ij g' S e->T g'.callers=n+1->g'.frame.roundOf=R->Vi P F g'.frame.fn
def UJ(p:uL P F){s}(g:Sm P X w v){cs}(b:Jy P fr)(i:∀c∈cs,ni P c)(l:BN P F X s)
  (j:∀n x,s.run (wf P F) w=dG n x->Nx n)(hk:∀n x,s.run (wf P F) w=dG n x->AJ P n)(q:En->wo P F (T cs) (aO (wf P F) M fr cs R s w)):
  G3 En P X w v (aO (wf P F) M fr cs R s) (aO P M fr cs R s v):=by
 let m:En->∀f a x,s.run _ w=dG (nN f a) x->Vi P F f:=λd f a x e=>let⟨k,r,h⟩:=zyf (cs:=cs) e b.eH.1;q d _ _ _ h O O
 exact⟨λd=>xb6 l g b.eH.1 j<|m d,Uh l g.jL b.eH.1 j,λd t y o e u=>KN p b i (l.km w g.jL) j hk (m d) e u⟩
def KI{fr c cs}(hk:fr.kind≠ eK/\fr.kind≠ pR)(b:ni P c)(a:∀x∈cs,ni P x)(q):
  ∃g1,(∀p w,gi p M fr (c::cs) R q w=ij g1 w #[])/\g1.dying=R/\uw P g1:=by
 cases h:fr.kind with
 |normal=>exact⟨_,λp w=>by simp[gi,h];rfl,O,b.jM _,a⟩|wrapped=>exact⟨_,λp w=>by simp[gi,h];rfl,O,b.jM _,a⟩
 |early=>grind|report=>grind
 |deferred=>refine⟨_,λp w=>by simp[gi,h];rfl,O,?_,a⟩;split;split;exact b.qJ _;exact b.qJ _;omega
def KH{p fr}(hk:fr.kind≠ pR)(a:p.inits.idxOf? fr.fn=R)(q w):gi p M fr [] R q w=ic (.done q) w:=by grind [gi]
end
section
variable{y z r:Type}{P:cI}{F:bE kL}{X:Q->Prop}
def Yi(p:Zp)(fr:Zf)(cs:bA Zf)(j:dD pB)(w:Zy):qB:=
 match fr.roundOf with
 |none=>if j matches R|some .ret then ij {frame:={fr with mode:=eB},callers:=cs,status:=bK,dying:=R} w else ic (iP "exit, goto: no such block or label" (fr.pos p)) w
 |some l=>bJ (seen p fr.fn<|(lS l j).events p w #[]) (match(lS l j).run p w with
  | dG v w=>gi p M fr cs R v w| ft _ w=>ic (iP "range over a function: no such loop" (fr.pos p)) w)
def xok(h:Sm P X w v)(f:Jy P fr)(d:∀c∈cs,ni P c)(j:cs=[]->P.inits.idxOf? fr.fn=R)(b)(n:∀c,b=Y c->q9 P ao c=M):
  G3 En P X w v (Yi (wf P F) fr cs b) (Yi P fr cs b v):=by
 unfold Yi;cases W:fr.roundOf with
 |none=>
  let k:Jy P {fr with mode:=eB,roundOf:=R}:=by let:=f.qJ eB;rw[W]at this;exact this
  cases b with
  |none=>exact AK h (λ_=>O) O λ_=>⟨ac k,d⟩
  |some c=>
   cases c with|ret=>exact AK h (λ_=>O) O λ_=>⟨ac k,d⟩|_=>grind [Cj]
 |some l=>
  refine OH (cont':=λr=>match r with
   | dG v w=>gi _ M fr cs R v w| ft _ w=>ic (iP "range over a function: no such loop" (fr.pos _)) w) (cont:=λr=>match r with
   | dG v w=>gi P M fr cs R v w| ft _ w=>ic (iP "range over a function: no such loop" (fr.pos P)) w) (xce l b n) h (λr m o g e D=>?_) λm o g e D=>?_
  cases r with
  |halt x w1=>cases e
  |ok a w1=>
   dsimp only at e;cases cs with
   |nil=>rw[KH (p:=wf P F) f.eH.2<|j O]at e;cases e
   |cons c cs=>let⟨g1,q,L,B⟩:=KI (cs:=cs) f.eH (d c Â) (λx i=>d x<|jw _ i) a;rw[q]at e;cases e;exact⟨bD,O,O,λu=>⟨q ..,q ..⟩⟩
  cases C:(lS l b).run (wf P F) w with
  |halt x w1=>grind
  |ok a w1=>
   rw[C]at e;dsimp only at e;cases cs with
   |nil=>rw[KH (p:=wf P F) f.eH.2<|j O]at e;cases e
   |cons c cs=>let⟨g1,q,L,B⟩:=KI (cs:=cs) f.eH (d c Â) (λx i=>d x<|jw _ i) a;grind
def Ot{s}(k:B P F X s)(h:Sm P X w v){K' zq:r->Zy->qB}
  (hk:∀a w1 A,s.run (wf P F) w=dG a w1->Sm P X w1 A->G3 En P X w1 A (K' a) (zq a A))(n:∀w g' S u,E' w≠ ij g' S u):
  G3 En P X w v (λw=>bJ (seen (wf P F) fn<|s.events (wf P F) w #[]) (match s.run (wf P F) w with| dG a w=>K' a w| ft _ w=>E' w))
   (bJ (seen P fn<|s.events P v #[]) (match s.run P v with| dG a w=>zq a w| ft _ w=>E w)):=by
 let I:∀{b u:bE me} {st:qB} {g':Zg} {S:Zy},bJ b st=ij g' S u->∃W,st=ij g' S W:=λ{b u st g' S} e=>by
  cases st<;>cases e
  grind
 cases L:s.run (wf P F) w with
 |halt x w1=>grind [Cj]
 |ok a w1=>
  let⟨A,new,C⟩:=k.nh w v #[] h (by rw[L];trivial);let⟨l1,l2,l3⟩:=k.oK w h.jL (by rw[L];trivial);rw[L]at C l1 l2 l3;simp only[rW,hV]at l1 l2 l3;let⟨c1,c2⟩:=C.pT;simp only[hV]at c1;let f:=hk a w1 A L C.sm;refine⟨λc g' S u e hd=>?_,λg' S u e hd=>?_,λc g' S u e hd=>?_⟩;let⟨W,D⟩:=I e;rw[L]at D;let⟨v',b,g,G⟩:=f.DQ c _ _ _ D hd;rw[c1,c2];dsimp only;rw[g];refine⟨v',seen P fn new++b,O,G.sm,λx l=>(G.iQ x l).trans<|C.iQ x l,λy m=>?_,xa C.io G.io⟩;obtain z|z:=Kz.1 m;exact(C.tz y<|mem_seen z).U G.io;exact G.tz y z;let⟨W,D⟩:=I e;rw[L]at D;let⟨k1,k2,k3⟩:=f.oK _ _ _ D hd;refine⟨À,k2.trans l2,λt d j=>?_⟩;let g:=l3 t d (j.le À);let⟨es2,G⟩:=k3 t (d+(w1.drawn-w.drawn)) (λi q o=>by
   let:=j (w1.drawn-w.drawn+i) q À
   grind)
  grind [bJ];let⟨W,D⟩:=I e;rw[L]at D;exact f.ok c _ _ _ D hd
def Ux{I k}(h:∀x∈I::k,Vt P b x):∀x∈k,Vt P b x:=λx a=>h x<|by simp[a]
def Jq{it k}(h:Vt P b it)(hk:∀x∈k,Vt P b x):∀x∈it::k,Vt P b x:=λx a=>Á
end
section
variable{y z x:Type}{P:cI}{F:bE kL}{X:Q->Prop}
theorem xij(s):bJ #[] s=s:=by cases s<;>simp[bJ]
theorem G3.cH{a b c}(h:G3 En P X w v b d)(e:∀w,a w=b w)(f:c=d):G3 En P X w v a c:=by rw[show a=b from funext e,f];exact h
theorem zte(q p w):(choose q).events p w #[]=#[]:=Â
theorem xp5(p fn):seen p fn #[]=#[]:=by simp[seen]
def xc4{l p j}(b:Sm P X w w)(h:(mw l).run p w=dG j w1):∀c,j=Y c->q9 P ao c=M:=by let⟨r,m,o,q⟩:=jr h;obtain⟨a,rfl⟩:=UE o;let d:=(b.rA l).ry r a;split at q;let⟨_,W,u,_⟩:=jr q;exact dC u<|Vg _ _ _ _ _;let⟨_,W,u,i⟩:=jr q;simp_all
theorem Uw{e c a b r p l mark}(h:(fe fn e c a b r).run p w=dG (l,mark) w1):∀d∈mark,Wn P d.target=M:=by
 unfold fe at h;cases r with
 |some L=>let⟨x,W,u,q⟩:=jr h;simp_all
 |none=>let⟨x,W,u,q⟩:=jr h;let⟨y,k,o,m⟩:=jr q;let⟨z,D,B,i⟩:=jr m;cases o;cases i;intro d j;simp only[ju]at j;subst j;rfl
def xsy(hx:nz P F X)(W:uL P F)(A:Sm P X w v){cs}(g:Jy P fr)(z:∀c∈cs,ni P c)(hr:cs=[]->P.inits.idxOf? fr.fn=R)
  (hE:En->wo P F (T cs) (aI (wf P F) M M fr cs R w)):
  G3 En P X w v (aI (wf P F) M M fr cs R) (aI P M M fr cs R v):=by
 have h3:=g.lk;have C:∀{k':bA Item},(∀it∈k',Vt P fr.roundOf.isNone it)->(∀p w,aI p M M fr cs R w=ij {frame:={fr with todo:=k'},callers:=cs,status:=bK,dying:=R} w #[])->
   G3 En P X w v (aI (wf P F) M M fr cs R) (aI P M M fr cs R v):=λhk h=>
  AK A (λw=>h _ w) (h _ v) λ_=>⟨ac<|g.DT hk,z⟩
 have v':∀q:dD pB,(∀c,q=Y c->q9 P ao c=M)->(∀p w,aI p M M fr cs R w=Yi p fr cs q w)->
   G3 En P X w v (aI (wf P F) M M fr cs R) (aI P M M fr cs R v):=λq hj h=>
  (xok (F:=F) A g z hr q hj).cH (λw=>h _ w) (h _ v)
 have bc:∀{s:Sem Next},BN P F X s->(∀n x,s.run (wf P F) w=dG n x->Nx n)->(∀n x,s.run (wf P F) w=dG n x->AJ P n)->(∀p w,aI p M M fr cs R w=aO p M fr cs R s w)->
   G3 En P X w v (aI (wf P F) M M fr cs R) (aI P M M fr cs R v):=λhs hn hk h=>
  (UJ W A g z hs hn hk Á).cH (λw=>h _ w) (h _ v)
 cases hto:fr.todo with
 |nil=>
  refine v' R (λc e=>Æ) λp w=>?_;exact æ
 |cons it k=>
  rw[hto]at h3;have hk:=Ux h3;have m:=h3 it<|xu ..;cases it with
  |call d b r s=>exact m.elim|extern r a=>exact m.elim
  |inBlock id=>exact C hk λp w=>by grind [aI]|inScope c=>exact C hk λp w=>Ô
  |inLoop c=>exact zdv
  |inRangeFunc l=>grind [Cj,aI]
  |endRangeFunc l=>
   let ct (p:Zp) (r:lu<|Option pB):qB:=match r with
    | dG q w=>ij {frame:={fr with todo:=(q.map dE).toList++k},callers:=cs,status:=bK,dying:=R} w
    | ft (.panic v) w=>ij {frame:=fr.raise [{v,recovered:=ao}],callers:=cs,status:=bK,dying:=R} w| ft _ w=>ic (iP "range over a function: no such loop" (fr.pos p)) w
   have e:∀p w,aI p M M fr cs R w=bJ (seen p fr.fn<|(mw l).events p w #[]) (ct p<|(mw l).run p w):=λp w=>by grind [aI,ze]
   refine(OH (cont':=ct<|wf P F) (cont:=ct P) (xiu l) A (λr wr w' G h hd=>?_) λwr w' G h hd=>?_).cH (e _)<|e _ v;cases r with
   |ok j w1=>cases h;exact⟨bD,O,O,λu=>⟨O,O⟩⟩
   |halt x w1=>
    cases x with
    |panic y=>cases h;exact⟨bD,O,O,λu=>⟨O,O⟩⟩
    |_=>cases h
   cases S:(mw l).run (wf P F) w with
   |ok j w1=>
    rw[S]at h;cases h;refine⟨ac<|g.DT λx D=>?_,z⟩;obtain D|D:=je.1 D;cases j with
    |none=>cases D
    |some c=>simp only[Xl,Option.toList,ju]at D;subst D;exact xdy<|xc4 A.jL S c O
    grind
   |halt x w1=>
    rw[S]at h;cases x with
    |panic y=>cases h;exact⟨ac<|g.iM _,z⟩
    |_=>cases h
  |beginRound=>
   have hb:B P F X<|fr.roundOf.elim (stuck "beginRound: no round") mS:=zag
   refine bc (s:=fr.roundOf.elim (stuck "beginRound: no round") mS>>=λ_=>iu .skip) (Bl.eG<|xq hb λ_=>xr _) (λn x h=>?_) (λn x h=>?_) λp w=>Ô
   exact KO h;let⟨a,w2,_,h2⟩:=jr h;cases h2;trivial
  |inRegion ops todo=>
   cases todo with
   |nil=>exact C hk λp w=>Ô
   |cons i rest=>
    cases hw:((ops[i]?).map (bP · (fN ops fr.tmps))).getD ao with
    |false=>refine AK A (g1:={frame:=fr.finish Z',callers:=cs,status:=bK,dying:=R}) (λw=>?_) ?_ λ_=>⟨ac<|g.jM _,z⟩<;>grind [aI]
    |true=>
     cases ho:ops[i]?with
     |none=>grind
     |some o=>
      have ih:vy P o.op=M/\(fr.roundOf.isNone|| !DG o.op)=M:=by have bb:wk P fr.roundOf.isNone ops=M:=m;unfold wk at bb;rw[jn]at bb;have:=bb o<|Ks ho;rw[jy]at this;exact this
      have ba:fr.oper?=Y o:=zat
      refine bc (Fh hx fr.eval o ih.1) (λn x h=>OD hx ih.1 h) (λn x h=>xdv hx ih.1 A.jL h) λp w=>?_;grind [aI,stepG.oper,DG]
  |code c=>
   cases c with
   |skip=>exact C hk λp w=>by grind [aI]|label l=>exact C hk λp w=>Ô
   |ret=>
    refine v' (Y .ret) (λc e=>by cases e;rfl) λp w=>?_;simp only[aI,hto,Yi,ze];rfl
   |seq a b=>simp only[Vt,q9,jy]at m;exact C (Jq (it:=dE a) m.1<|Jq (it:=dE b) m.2 hk) λp w=>Ô
   |block id c=>exact C (Jq (it:=dE c) m<|Jq (it:= .inBlock id) bD hk) λp w=>Ô
   |loop c=>exact zdv
   |scope c=>exact C (Jq (it:=dE c) m<|Jq (it:= .inScope c) m hk) λp w=>Ô
   |refuse s=>grind [Cj,aI]
   |cond c a b=>
    simp only[Vt,q9,jy]at m;cases hev:fr.eval c with
    |bool t=>
     refine C (k':=dE (if t then a else b)::k) (Jq ?_ hk) λp w=>Ô
     cases t;exact m.2;exact m.1
    |_=>grind [Cj,aI]
   |exit id=>
    cases D:exitTo id k with
    |some k'=>exact C (Ow hk D) λp w=>Ô
    |none=>
     refine v' (Y<|.exit id) (λc e=>by cases e;rfl) λp w=>?_;exact æ
   |goto l=>
    cases D:gotoIn l k with
    |some k'=>exact C (Oy hk D) λp w=>Ô
    |none=>
     refine v' (Y<|.goto l) (λc e=>by cases e;rfl) λp w=>?_;exact æ
   |region id ops draw=>
    cases draw with
    |false=>exact C (Jq (it:=aS ops (iC (V ops))) m hk) λp w=>Ô
    |true=>
     have e:∀p w,aI p M M fr cs R w=bJ (seen p fr.fn<|(choose<|.order fr.fn id).events p w #[]) (match(choose<|.order fr.fn id).run p w with
       | dG t w=>ij {frame:={fr with todo:=aS ops (iZ (p.follows nf) ops t)::k},callers:=cs,status:=bK,dying:=R} w
       | ft _ w=>ic (iP "order" (fr.pos p)) w):=λp w=>by
      grind [zte,xp5,xij,aI]
     refine(Ot (fn:=fr.fn) (Vr<|.order fr.fn id) A (K':=λt w=>ij {frame:={fr with todo:=aS ops (iZ ((wf P F).follows nf) ops t)::k},callers:=cs,status:=bK,dying:=R} w) (E':=λw=>ic (iP "order" (fr.pos<|wf P F)) w) (zq:=λt w=>ij {frame:={fr with todo:=aS ops (iZ (P.follows nf) ops t)::k},callers:=cs,status:=bK,dying:=R} w) (E:=λw=>ic (iP "order" (fr.pos P)) w)
      (λt w1 v1 _ L=>?_) (λw wr w' G h=>È)).cH (e _)<|e _ v
     exact AK L (λ_=>O) O λ_=>⟨ac<|g.DT<|Jq (it:=aS ops _) m hk,z⟩
   |rangeFunc f ps a b=>
    simp only[Vt,q9,jy]at m;let fr' (x:Q×bA nt):Zf:={fr with todo:=pb x.1::k,defers:=x.2++fr.defers};let cl (x:Q×bA nt):Call:={callee:= .value f,args:=#[.const<|.func (.yield x.1) #[] #[]],argTypes:=#[]};let sm (x:Q×bA nt):Sem Next:=o8 (fr' x).eval (cl x) 0>>=λd=>invoke d.target d.args;have e:∀p w,aI p M M fr cs R w=bJ (seen p fr.fn<|(fe fr.fn fr.tmps ps a b fr.roundOf).events p w #[]) (match(fe fr.fn fr.tmps ps a b fr.roundOf).run p w with
      | dG x w=>aO p M (fr' x) cs R (sm x) w| ft _ w=>ic (iP "range over a function: no such loop" (fr.pos p)) w):=λp w=>by
     grind [aI,ze]
    refine(Ot (F:=F) (fn:=fr.fn) (NW fr.fn fr.tmps ps a b fr.roundOf m.1 m.2 g.lL) A (K':=λx w=>aO (wf P F) M (fr' x) cs R (sm x) w) (E':=λw=>ic (iP "range over a function: no such loop" (fr.pos<|wf P F)) w) (zq:=λx w=>aO P M (fr' x) cs R (sm x) w) (E:=λw=>ic (iP "range over a function: no such loop" (fr.pos P)) w)
     (λx w1 v1 D L=>?_) (λw wr w' G h=>È)).cH (λw=>(e (wf P F) w).trans Á)<|(e P v).trans Á
    have hm:=Uw (P:=P) (l:=x.1) (mark:=x.2) D;have e1:Jy P<|fr' x:=⟨Jq (it:=pb x.1) bD hk,λd hd=>by obtain hd|hd:=je.1 hd;grind;exact g.nk d hd,g.eH,g.lL⟩;have I:Fk P (cl x)=M:=O;refine UJ W L e1 z (Kg (GD _ _ _) (λw d w' S=>Vu I S) λd hd=>DF hx _ _ hd) (λn y h=>?_) (λn y h=>?_) λw3 wr w' G h=>?_;let⟨d,w2,h1,h2⟩:=jr h;grind [Ci,Vu];let⟨d,w2,h1,h2⟩:=jr h;obtain rfl:=UA h1;exact OE hx (Vu I h1) L.jL h2;refine hE w3 wr w' (seen (wf P F) fr.fn ((fe fr.fn fr.tmps ps a b fr.roundOf).events (wf P F) w #[])++G) ?_;rw[e,D];dsimp only;rw[h];rfl
def OF[Decidable c]{a b x:y}(h:(if c then a else b)=x):(c/\a=x)\/(¬c/\b=x):=Á
def GZ{P1 P2 d p D r fr cs}
  (e:(invoke d.target d.args).run P1 w1=r)(t:(invoke d.target d.args).run P2 p=hV D r)(i:tR r)(s:∀n x,r=dG n x->Nx n)(q:∀f a x k,r=dG (nN f a) x->bI P1 f a k=bI P2 f a k)
  {g' S j}(h:fo P1 fr cs R d w1=ij g' S j)(C:g'.dying=R):
  qI r/\S=rW r/\fo P2 fr cs R d p=ij g' D (seen P2 fr.fn<|(invoke d.target d.args).events P2 p #[]):=by
 unfold fo at h⊢;obtain⟨g,h⟩|⟨g,h⟩:=OF h;cases h;rw[aL g];cases r with
 |halt L x=>
  cases L with
  |panic y=>
   exact zdg
  |blocked=>exact i.elim|waiting=>exact i.elim
  |goexit=>exact i.elim|fatal m=>grind [ze,J']
  |throw m=>grind [ze,Ka]|exit c=>simp[ze,e]at h;cases h
  |stuck m=>simp[ze,e]at h;cases h
  |unsupported u=>simp[ze,e]at h;cases h
 |ok n x=>
  have o:=s n x O;cases n with
  |value y=>
   exact zdg
  |skip=>
   exact zdg
  |defer y=>
   exact zdg
  |enter f a=>
   simp only[ze,e]at h;cases h;refine⟨bD,O,?_⟩;exact à
  |round l f G a b=>
   exact zdg
  |recover=>
   simp only[ze,e]at h;cases W:fr.mode with
   |returning=>
    cases B:dQ fr cs<;>
    ·simp[W,B]at h;exact zdd
   |run=>
    simp only[W]at h;exact zdd
   |panicking c=>
    simp only[W]at h;exact zdd
  |_=>exact o.elim
def ja4(t:uL P F){d cs}(e:Jy P fr)(g:∀c∈cs,ni P c)(r:tR<|(invoke d.target d.args).run (wf P F) w)(s:∀n x,(invoke d.target d.args).run (wf P F) w=dG n x->Nx n)
  (hk:∀n x,(invoke d.target d.args).run (wf P F) w=dG n x->AJ P n)(v:∀f a x,(invoke d.target d.args).run (wf P F) w=dG (nN f a) x->Vi P F f)
  {g' S m}(h:fo (wf P F) fr cs R d w=ij g' S m)(L:g'.dying=R):uw P g':=by
 have i:∀c∈fr::cs,ni P c:=λc o=>by simp only[jc]at o;obtain rfl|o:=o;exact ac e;grind
 have j:=(GZ (P2:=wf P F) O (Fj _).symm r s (λ_ _ _ _ _=>O) h L).1;obtain⟨k,h⟩|⟨k,h⟩:=OF h;cases h;cases u:(invoke d.target d.args).run _ w with
 |halt B x=>
  rw[u]at j;cases B with
  |panic y=>
   simp only[ze,u]at h;cases h;exact⟨ac<|e.iM _,g⟩
  |_=>exact j.elim
 |ok n x=>
  have q:=s n x u;have p:=hk n x u;cases n with
  |value y=>exact zb0
  |skip=>exact zb0
  |defer y=>exact zb0
  |enter f a=>
   simp only[ze,u]at h;cases h;exact⟨GX t (v f a _ u) a ⟨Â,Â⟩,i⟩
  |round l f C a b=>
   simp only[ze,u]at h;cases h;exact⟨ac<|Ur p ⟨Â,Â⟩,i⟩
  |recover=>
   simp only[ze,u]at h;cases W:fr.mode with
   |returning=>
    cases D:dQ fr cs with
    |none=>
     simp only[W,D]at h;exact ö
    |some y=>
     simp only[W,D]at h;cases h;exact⟨ac e,KG g D⟩
   |run=>simp[W]at h;exact ö
   |panicking c=>simp[W]at h;exact ö
  |_=>exact q.elim
def ja2(u:nz P F X)(G:uL P F)(r:Sm P X w v){cs}(B:Jy P fr)(z:∀c∈cs,ni P c){d}(j:Wn P d.target=M)
  (I:En->wo P F (T cs) (fo (wf P F) fr cs R d w)):G3 En P X w v (fo (wf P F) fr cs R d)<|callDeferred P fr cs R d v:=by
 have D:=DF u d.target d.args j;have o:∀n x,(invoke d.target d.args).run _ w=dG n x->Nx n:=λn x h=>Ci u j h;have b:=D.km w r.jL;by_cases C:∃p s g,fo (wf P F) fr cs R d w=ij p s g;rotate_left;grind [Cj];let⟨g0,w0,es0,q⟩:=C;obtain⟨i,q⟩|⟨i,q⟩:=OF q;cases q;have m:En->∀f a x,(invoke d.target d.args).run (wf P F) w=dG (nN f a) x->Vi P F f:=λl f a x e=>by
  have:∃es,fo (wf P F) fr cs R d w=ij {frame:=bI (wf P F) f a .deferred,callers:=fr::cs,status:=bK,dying:=R} x es:=by unfold fo;rw[aL i];simp only[ze,e];exact⟨_,O⟩
  let⟨es,h⟩:=this;exact I l _ _ _ h O O
 refine⟨λl p s g h L=>?_,λp s g h L=>?_,λl p s g h L=>ja4 G B z b o (λn x e=>OE u j r.jL e) (m l) h L⟩;have y:=(GZ (P2:=wf P F) O (Fj _).symm b o (λ_ _ _ _ _=>O) h L).1;let⟨v',new,hc⟩:=D.nh w v #[] r y λf a w1 e=>(m l f a w1 e).2;let⟨h1,h2⟩:=hc.pT;let⟨_,A,e2⟩:=GZ (P1:=wf P F) (P2:=P) (w1:=w) O h1 b o (λf a x k e=>GC (m l f a x e).1 a k) h L;refine⟨v',_,e2,?_⟩;rw[A,h2];exact hc.af.Gv λe m=>mem_seen m;let⟨y,A,_⟩:=GZ (P2:=wf P F) O (Fj _).symm b o (λ_ _ _ _ _=>O) h L;let⟨l1,l2,l3⟩:=D.oK w r.jL y;rw[A];exact⟨l1,l2,λt E W=>⟨_,(GZ (P2:=wf P F) O (l3 t E W) b o (λ_ _ _ _ _=>O) h L).2.2⟩⟩
def zpt{b p a}(e:Sm P X w w)(h:(fK b).run p w=dG a w1):∀d∈a,Wn P d.target=M:=by
 let⟨o,W,q,j⟩:=jr h;rw[Yg]at q;cases u:w.heap[b]?with
 |none=>grind
 |some m=>
  rw[u]at q;have hk:=(e.rA b).tN;rw[u]at hk;cases m<;>cases q<;>first|(cases j;done)|skip
  rename_i c;cases c with
  |none=>cases j
  |some D=>let⟨_,r,i,k⟩:=jr j;simp_all
def KJ(fn b):B P F X<|results fn b:=by refine xq (Uk _ (λr=>?_) _) λc=>xr _;cases r with|tmp t=>exact xr _|cell a t=>exact xq (pU.1 _) λ_=>oh.c.1 _ _
def UF(W:nz P F X)(A:uL P F)(z:Sm P X w v){cs}(i:Jy P fr)(j:∀c∈cs,ni P c)(w':cs=[]->P.inits.idxOf? fr.fn=R)
  (wr:En->wo P F (T cs) (dT (wf P F) M fr cs R w)):
  G3 En P X w v (dT (wf P F) M fr cs R) (dT P M fr cs R v):=by
 cases hdf:fr.defers with
 |cons d ds=>
  have C:Jy P {fr with defers:=ds}:=⟨i.lk,λx o=>i.nk x Á,i.eH,i.lL⟩;have hd:=i.nk d Á;have v':(∀b,d.target≠ .collected b)->G3 En P X w v (dT (wf P F) M fr cs R) (dT P M fr cs R v):=λS=>by
   have e:∀p w,dT p M fr cs R w=fo p {fr with defers:=ds} cs R d w:=λp w=>by grind [dT]
   exact(ja2 W A z C j hd Á).cH (λw=>e _ w)<|e _ v
  cases htg:d.target with
  |collected b=>
   have e:∀p w,dT p M fr cs R w=bJ (seen p fr.fn<|(fK b).events p w #[]) (match(fK b).run p w with
     | dG f w=>ij {frame:={fr with defers:=f++ds},callers:=cs,status:=bK,dying:=R} w
     | ft _ w=>ic (iP "the deferred calls of a range-over-func loop have been taken" (fr.pos p)) w):=λp w=>by
    unfold dT;rw[hdf];let⟨tg,ar⟩:=d;grind [ze]
   refine(Ot (F:=F) (fn:=fr.fn) (iU.j.j.j.c.1 b) z (K':=λf w=>ij {frame:={fr with defers:=f++ds},callers:=cs,status:=bK,dying:=R} w) (E':=λw=>ic (iP "the deferred calls of a range-over-func loop have been taken" (fr.pos<|wf P F)) w)
    (zq:=λf w=>ij {frame:={fr with defers:=f++ds},callers:=cs,status:=bK,dying:=R} w) (E:=λw=>ic (iP "the deferred calls of a range-over-func loop have been taken" (fr.pos P)) w)
    (λf w1 ba B G=>?_) (λw l n g h=>È)).cH (λw=>(e (wf P F) w).trans Á)<|(e P v).trans Á
   refine AK G (λ_=>O) O λ_=>⟨ac ⟨i.lk,λx o=>?_,i.eH,i.lL⟩,j⟩;obtain o|o:=je.1 o;exact zpt z.jL B x o;exact C.nk x o
  |_=>grind
 |nil=>
  cases hm:fr.mode with
  |run=>grind [Cj,dT]
  |panicking chain=>
   have w2:∀p:Zp,fr.catches p=ao:=λp=>by unfold Frame.catches;cases htd:fr.todo with|nil=>grind|cons it k=>have hx:=i.lk it Á;cases it with|call d b r s=>exact hx.elim|_=>grind
   cases cs with
   |cons c cs=>refine AK z (g1:={frame:=c.raise chain,callers:=cs,status:=bK,dying:=R}) (λw=>?_) ?_ λ_=>⟨(j c<|xu ..).iM _,λx o=>j x<|jw _ o⟩<;>grind [dT]
   |nil=>
    cases hgx:chain.head?.any (·.goexit)with|true=>refine AK z (g1:={frame:=fr,callers:=[],status:= .finished,dying:=R}) (λw=>?_) ?_ λ_=>⟨ac i,j⟩<;>grind [dT]|false=>refine⟨λ_ l n g e hd=>?_,λl n g e hd=>?_,λ_ l n g e hd=>?_⟩<;>grind [dT]
  |returning=>
   have q:=W.Ts fr.fn;cases hf:P.funcs[fr.fn]?with
   |none=>
    have D:(wf P F).funcs[fr.fn]?=R:=by rw[hf]at q;cases B:F[fr.fn]?with|none=>exact B|some y=>grind
    cases cs with
    |nil=>
     refine Cj λl n g e=>?_;simp only[dT,hdf,hm,D]at e;rw[KH (p:=wf P F) i.eH.2<|w' O]at e;cases e
    |cons c cs=>let⟨g1,h1,h2,h3⟩:=KI (cs:=cs) i.eH (j c<|xu ..) (λx o=>j x<|jw _ o)<|fr.tmps.getD 0 Z';refine AK z (g1:=g1) (λw=>?_) ?_ λ_=>h3<;>grind [dT]
   |some fn=>
    obtain⟨t,D,I⟩:∃t,(wf P F).funcs[fr.fn]?=Y t/\t.results=fn.results:=by rw[hf]at q;cases B:F[fr.fn]?with|none=>grind|some y=>rw[B]at q;exact⟨y,B,Á⟩
    have ih:eR t fr.tmps=eR fn fr.tmps:=by unfold eR;rw[I]
    let ct (p:Zp) (r:lu Zv):qB:=match r with
     | dG v w=>gi p M fr cs R v w| ft (jF s) w=>ic (iP s<|fr.pos p) w
     | ft _ w=>ic (iP "return: the result variables cannot be read" (fr.pos p)) w
    have L:∀w,dT (wf P F) M fr cs R w=bJ (seen (wf P F) fr.fn<|(eR fn fr.tmps).events (wf P F) w #[]) (ct (wf P F)<|(eR fn fr.tmps).run (wf P F) w):=λw=>by grind [dT,ze]
    have ho:dT P M fr cs R v=bJ (seen P fr.fn<|(eR fn fr.tmps).events P v #[]) (ct P<|(eR fn fr.tmps).run P v):=by
     simp only[dT,hdf,hm,hf,ze];cases(eR fn fr.tmps).run P v with
     |ok a x=>rfl|halt y x=>grind
    have m:∀r l n g,ct (wf P F) r=ij l n g->qI r/\n=rW r/\g=#[]/\(∀u,ct (wf P F) (hV u r)=ij l u #[]/\ct P (hV u r)=ij l u #[])/\uw P l:=λr l n g h=>by cases r with|halt y x=>grind|ok a x=>cases cs with|nil=>grind [gi,wf]|cons c cs=>let⟨g1,h1,h2,h3⟩:=KI (cs:=cs) i.eH (j c<|xu ..) (λx o=>j x<|jw _ o) a;change gi (wf P F) M fr (c::cs) R a x=_ at h;rw[h1]at h;cases h;exact⟨bD,O,O,λu=>⟨h1 _ _,h1 _ _⟩,h3⟩
    exact(OH (cont':=ct<|wf P F) (cont:=ct P) (KJ fn fr.tmps) z (λr l n g h hd=>⟨(m r l n g h).1,(m r l n g h).2.1,(m r l n g h).2.2.1,(m r l n g h).c.1⟩) λl n g h hd=>(m _ l n g h).d).cH L ho
def Ha(q:nz P F X)(b:uL P F)(d:Sm P X w v)(f:uw P g)(a:Jy P g.frame)(j:g.dying=R)
  (h:En->wo P F (T g.callers) (bW (wf P F) M g w)):G3 En P X w v (bW (wf P F) M g)<|stepG P M g v:=by
 let⟨fr,cs,st,D,o⟩:=g;cases j;cases u:fr.mode with
 |run=>
  have e:∀p w,bW p M {frame:=fr,callers:=cs,status:=st,dying:=R,offers:=o} w=aI p M M fr cs R w:=λp w=>by simp[bW,u]
  exact(xsy q b d a f.2 (λ_=>a.lL) Á).cH (λw=>e _ w)<|e _ v
 |returning=>
  have e:∀p w,bW p M {frame:=fr,callers:=cs,status:=st,dying:=R,offers:=o} w=dT p M fr cs R w:=λp w=>zac
  exact zdw
 |panicking c=>
  have e:∀p w,bW p M {frame:=fr,callers:=cs,status:=st,dying:=R,offers:=o} w=dT p M fr cs R w:=λp w=>zac
  exact zdw
end
section
variable{L:cI}{X I:cR->dN->Prop}
def qK(L:Zp)(g:Zg)(w:Zy)(g':Zg)(S:Zy):Prop:=∃es,bW L M g w=ij g' S es/\g'.dying=R/\g'.status=bK
def qK.DR{a}(h:qK L g w g1 w1)(k:qK L g w g2 a):g1=g2/\w1=a:=by let⟨es,y,_⟩:=h;let⟨e,z,_⟩:=k;grind
def zT(L:Zp)(X:Zg->Zy->Prop):Q->Zg->Zy->Prop
 |0,g,w=>X g w|n+1,g,w=>X g w\/∃g' S,qK L g w g' S/\zT L X n g' S
structure zR(L:Zp)(X I:Zg->Zy->Prop):Prop where
 iD:∀g w t d,X g (re w t d)↔X g w
 tS:∀g w t d,I g (re w t d)↔I g w
 oK:∀g w,I g w->¬X g w->Fd w (bW L M g)
 yj:∀g w g' S,I g w->¬X g w->qK L g w g' S->I g' S
inductive Cm(L:Zp)(X:Zg->Zy->Prop):Zg->Zy->Prop
 |stop {g:Zg} {w:Zy} (h:X g w):Cm L X g w
 |step {g:Zg} {w:Zy} (goes:∀t d,∃g' S,qK L g (re w t d) g' S) (h:∀t d g' S,qK L g (re w t d) g' S->Cm L X g' S):Cm L X g w
def zR.sC(B:zR L X I){g t d}(a:I g w)(c:¬X g w)(h:qK L g (re w t d) g' S):
  d<=S.drawn/\S.tape=t/\∀y D,(∀i q,i<S.drawn-d->y (D+i) q=t (d+i) q)->qK L g (re w y D) g' (re S y<|D+(S.drawn-d)):=by
 let⟨es,j,z,u⟩:=h;let⟨l1,o,m⟩:=B.oK g _ ((B.tS ..).2 a) (λx=>c<|(B.iD ..).1 x) _ _ _ j z;refine⟨l1,o,λy D b=>?_⟩;let⟨e,r⟩:=m y D b;exact⟨e,r,z,u⟩
def zR.Ce(B:zR L X I):∀(n:Q) (g:Zg) (w:Zy) (t y:Q->Question->Q) (d D:Q),I g w->(∀i q,t (d+i) q=y (D+i) q)->zT L X n g (re w t d)->zT L X n g (re w y D)
 |0,g,w,t,y,d,D,z,u,h=>(B.iD ..).2<|(B.iD ..).1 h
 |n+1,g,w,t,y,d,D,z,u,h=>by
  by_cases b:X g w;exact aJ<|(B.iD ..).2 b;obtain h|⟨c,a,f,j⟩:=h;exact dC ((B.iD ..).1 h) b;obtain⟨l1,k,l⟩:=B.sC z b f;have hk:=B.yj g _ c a ((B.tS g w t d).2 z) (λx=>b<|(B.iD ..).1 x) f;refine ac ⟨c,_,l y D λi q m=>(u i q).symm,?_⟩;have e:re a t a.drawn=a:=by rw[<-k];rfl
  rw[<-e]at j;refine B.Ce n c a t y a.drawn (D+(a.drawn-d)) hk (λi q=>?_) j;have:=u (a.drawn-d+i) q;grind
theorem zR.eG(B:zR L X I){g t d}(c:I g w)(b:¬X g w)(k:∀t d,∃n,zT L X n g<|re w t d)(h:qK L g (re w t d) g' S):
  ∀y D,∃n,zT L X n g'<|re S y D:=by
 intro y D;let⟨l1,u,z⟩:=B.sC c b h;have hk:=B.yj g _ g' S ((B.tS g w t d).2 c) (λx=>b<|(B.iD ..).1 x) h;obtain⟨n,a⟩:=k (λi q=>if i<S.drawn-d then t _ q else y _ q) 0;cases n with|zero=>exact dC ((B.iD ..).1 a) b|succ n=>obtain a|⟨e,w1,f,j⟩:=a;exact dC ((B.iD ..).1 a) b;obtain⟨rfl,rfl⟩:=f.DR (z (λi q=>if i<S.drawn-d then t (d+i) q else y (D+(i-(S.drawn-d))) q) 0 λi q l=>by simp[l]);refine⟨n,B.Ce n e S _ y _ D hk (λi q=>?_) j⟩;grind
structure Ck(L:Zp)(X I:Zg->Zy->Prop) where
 g:Zg
 w:Zy
 Cl:I g w
 AL:∀t d,∃n,zT L X n g<|re w t d
 eS:¬Cm L X g w
theorem Ck.kM(B:zR L X I)(s:Ck L X I):¬X s.g s.w/\∃(t:Q->Question->Q) (d:Q) (y:Ck L X I),qK L s.g (re s.w t d) y.g y.w:=by
 have a:¬X s.g s.w:=λh=>s.eS<|.stop h;refine⟨a,?_⟩;apply jg;intro e;refine s.eS<|.step (λt d=>?_) λt d f w1 b=>?_;let⟨n,c⟩:=s.AL t d;cases n with|zero=>exact dC ((B.iD ..).1 c) a|succ n=>obtain c|⟨f,w1,b,j⟩:=c;exact dC ((B.iD ..).1 c) a;grind
 apply jg;intro i;exact e ⟨t,d,⟨f,w1,B.yj _ _ _ _ ((B.tS s.g s.w t d).2 s.Cl) (λx=>a<|(B.iD ..).1 x) b,B.eG s.Cl a s.AL b,i⟩,b⟩
def zR.bar(B:zR L X I){g}(v:I g w)(k:∀t d,∃n,zT L X n g<|re w t d):Cm L X g w:=by
 apply jg;intro z;have ch:∀s:Ck L X I,∃x:(Q->Question->Q)×Q×Ck L X I,qK L s.g (re s.w x.1 x.2.1) x.2.2.g x.2.2.w:=λs=>by let⟨_,t,d,s',h⟩:=s.kM B;exact⟨(t,d,s'),h⟩
 let nx:Ck L X I->(Q->Question->Q)×Q×Ck L X I:=λs=>pf<|ch s;let st:Q->Ck L X I:=λi=>Nat.rec ⟨g,w,v,k,z⟩ (λ_ s=>(nx s).2.2) i;let W:Q->Q:=λi=>(st<|i+1).w.drawn-(nx<|st i).2.1;let D:Q->Q:=λi=>Nat.rec 0 (λj x=>x+W j) i;have o:∀i j,i<=j->D i<=D j:=λi j h=>by
  induction j with
  |zero=>grind
  |succ j ih=>
   obtain e|e:=DO i (j+1);grind;have:i=j+1:=À
   simp_all
 have c:∀i j p,D i<=p->p<D (i+1)->D j<=p->p<D (j+1)->i=j:=λi j p e r E F=>by obtain h|h|h:=Nat.lt_trichotomy i j<;>grind
 classical
 let u:Q->Question->Q:=λp q=>if h:∃i,D i<=p/\p<D (i+1)then(nx<|st<|Classical.choose h).1 ((nx<|st<|Classical.choose h).2.1+(p-D (pf h))) q else 0
 have y:∀i j q,j<W i->u _ q=(nx<|st i).1 ((nx<|st i).2.1+j) q:=λi j q m=>by have b:∃i',D i'<=D i+j/\D i+j<D (i'+1):=⟨i,À,Á⟩;have l:=Oq b;have G:pf b=i:=c _ _ _ l.1 l.2 À Á;show(if h:∃i',D i'<=D i+j/\D i+j<D (i'+1)then _ else _)=_;simp_all
 have f:∀i,qK L (st i).g (re (st i).w u<|D i) (st<|i+1).g<|re (st<|i+1).w u<|D<|i+1:=λi=>by have:=(B.sC (st i).Cl ((st i).kM B).1<|(λs=>Oq<|ch s)<|st i).2.2 u (D i) λj q m=>y i j q m;omega
 have a:∀n i,¬zT L X n (st i).g (re (st i).w u<|D i):=by
  intro n;induction n with
  |zero=>intro i h;exact((st i).kM B).1<|(B.iD ..).1 h
  |succ n ih=>intro i h;obtain h|⟨C,A,e,r⟩:=h;exact((st i).kM B).1<|(B.iD ..).1 h;obtain⟨rfl,rfl⟩:=e.DR<|f i;simp_all
 let⟨n,hn⟩:=k u 0;exact a n 0 hn
end
end
section
open Go.ConcN (sumTo upd sumTo_upd upd_ne upd_same)
variable[pn:Pn]
section
variable{P:cI}{F:bE kL}{X:Q->Prop}{y:Loc->Prop}
theorem Sm.re(h:Sm P X w v)(t:Q->Question->Q)(d:Q):Sm P X (re w t d)<|re v t d:=⟨h.aD,h.out,h.jH,h.rA,O,O,h.os,h.cX,h.rl⟩
end
end
section
variable[pn:Pn]
section
variable{P D:cI}{L:cR->dN->Prop}
def qr{m m1 t a r z}:∀{y:Q},fQ P y m t=(gP m1,a)->fQ P z m1 a=r->fQ P (y+z) m t=r:=by intro y;induction y generalizing m t<;>grind [fQ]
abbrev AI:Q×Q->Q×Q->Prop:=Prod.Lex (·<·) (·<·)
def DV:WellFounded AI:=(Prod.lex Nat.lt_wfRel Nat.lt_wfRel).wf
def Cm.sim(C:Cm D L g w)(W:Q×Q->Zg->Zy->Machine->gA->Prop)
  (b:∀k g w m t,W k g w m t->¬L g w->∃u F G,fQ P u m t=(gP F,G)/\
   ((∃X,AI X k/\W X g w F G)\/∃A d g' S X,qK D g (re w A d) g' S/\W X g' S F G)):
  ∀k m t,W k g w m t->∃u F G g' S X,fQ P u m t=(gP F,G)/\L g' S/\W X g' S F G:=by
 induction C with| @stop g w h=>intro k m t c;exact⟨0,m,t,g,w,k,O,h,c⟩| @step g w goes I ih=>intro k;induction k using DV.induction with|_ k ihk=>intro m t c;by_cases x:L g w;exact⟨0,m,t,g,w,k,O,x,c⟩;obtain⟨u,y,z,v,o⟩:=b k g w m t c x;obtain⟨X,hk,a⟩|⟨A,d,B,w1,X,n,a⟩:=o;obtain⟨e,q,r,f,s,p,i,j,l⟩:=ihk X hk y z a;exact⟨u+e,q,r,f,s,p,qr v i,j,l⟩;obtain⟨e,q,r,f,s,p,i,j,l⟩:=ih A d B w1 n X y z a;exact⟨u+e,q,r,f,s,p,qr v i,j,l⟩
end
section
variable{P:cI}{F:bE kL}{X:Q->Prop}{cs1 cs2:bA fZ}
def Bk:Zf->bA Zf->Prop
 |fr,[]=>fr.kind=dH|_,c::l=>Bk c l
theorem Bk.cH{y}(h:Bk fr l)(hk:y.kind=fr.kind):Bk y l:=by cases l with|nil=>exact hk.trans h|cons c l=>exact h
theorem Wm(fr:Zf)(v):(fr.finish v).kind=fr.kind:=KM
def GW(fr:Zf)(a):(fr.raise a).kind=fr.kind:=by grind [Frame.raise]
def Sw(cs1 cs2:bA Zf)(s y:qB):Prop:=∀g' S e,s=ij g' S e->g'.dying=R->T cs1<=T g'.callers->∃L,g'.callers=L++cs1/\Bk g'.frame L/\y=ij {g' with callers:=L++cs2} S e
theorem tB{s}(h:∀g' S y,s≠ ij g' S y):Sw cs1 cs2 s a:=λg' S y e=>dC e<|h g' S y
theorem KT{s}(h:∀g' S y,s=ij g' S y->g'.dying=R->False):Sw cs1 cs2 s a:=λg' S y e z=>(h g' S y e z).elim
theorem Yw{st a o}(d:Bk fr l):
  Sw cs1 cs2 (ij {frame:=fr,callers:=l++cs1,status:=st,dying:=a,offers:=o} w es) (ij {frame:=fr,callers:=l++cs2,status:=st,dying:=a,offers:=o} w es):=λc g b e h f=>by
 grind
theorem KP{fr a st b o}(c:Bk a l):
  Sw cs1 cs2 (ij {frame:=fr,callers:=a::(l++cs1),status:=st,dying:=b,offers:=o} w es) (ij {frame:=fr,callers:=a::(l++cs2),status:=st,dying:=b,offers:=o} w es):=Yw (l:=a::l) c
theorem Ya{s}(es)(h:Sw cs1 cs2 s a):Sw cs1 cs2 (bJ es s)<|GStep.after es a:=λd f b e y c=>by
 cases s with
 |go g w z=>
  obtain⟨rfl,rfl,rfl⟩:=e;let⟨L,x,q,j⟩:=h _ _ _ O y c;exact⟨L,x,q,by rw[j];rfl⟩
 |_=>simp[bJ]at e
theorem Ou:∀(l:bA Zf) (fr:Zf),Bk fr l->
  (dQ fr (l++cs1)=R/\dQ fr (l++cs2)=R)\/∃v L,dQ fr (l++cs1)=Y (v,L++cs1)/\dQ fr (l++cs2)=Y (v,L++cs2)/\∀y:Zf,y.kind=fr.kind->Bk y L
 |[],fr,h=>by have e:fr.kind=dH:=h;exact ü
 |c::l,fr,h=>by
  cases hk:fr.kind with
  |deferred=>grind [dQ,Bk,Bk.cH]
  |wrapped=>
   rcases(Ou l c h)with⟨a,b⟩|⟨v,L,a,b,d⟩;grind [dQ];right;exact⟨v,c::L,ü,ü,λy _=>d c O⟩
  |_=>exact ü
def UI{p s}(hk:fr.kind≠ eK)(j:Bk fr l)(C:p.follows iz=M)
  (i:tR<|s.run p w)(B:∀n x,s.run p w=dG n x->Nx n):Sw cs1 cs2 (aO p M fr (l++cs1) R s w)<|stepG.apply p M fr (l++cs2) R s w:=by
 have e:(fr.kind==eK)=ao:=by cases G:fr.kind<;>simp_all
 cases W:s.run p w with
 |halt A x=>
  rw[W]at i;cases A with
  |panic y=>simp only[aO,ze,dY,W,e];exact Ya _<|Yw<|j.cH<|GW ..
  |blocked=>exact i.elim|waiting=>exact i.elim
  |goexit=>exact i.elim|fatal m=>grind [aO,ze,KT,J']
  |throw m=>grind [aO,ze,KT,Ka]
  |exit c=>
   exact zdk
  |stuck m=>
   exact zdk
  |unsupported u=>
   cases u with
   |initOrder g=>exact i.elim
   |_=>
    exact zdk
 |ok n x=>
  have o:=B n x W;cases n with
  |value y=>exact zam
  |skip=>exact zam
  |enter f a=>grind [aO,ze,Ya,KP]|round r f I a b=>grind [aO,ze,Ya,KP]
  |defer d=>exact zam
  |recover=>
   have z:Sw cs1 cs2 (match dQ fr (l++cs1)with
     |some (v,callers)=>ij {frame:=fr.finish v,callers,status:=bK,dying:=R} x|none=>ij {frame:=fr.finish .nilIface,callers:=l++cs1,status:=bK,dying:=R} x) (match dQ fr (l++cs2)with
     |some (v,callers)=>ij {frame:=fr.finish v,callers,status:=bK,dying:=R} x|none=>ij {frame:=fr.finish .nilIface,callers:=l++cs2,status:=bK,dying:=R} x):=by
    obtain⟨D,L⟩|⟨v,l',D,L,h3⟩:=Ou (cs1:=cs1) (cs2:=cs2) l fr j;rw[D,L];exact Yw<|j.cH<|Wm ..;grind [Yw,Wm]
   cases G:fr.roundOf<;>grind [aO,ze,Ya]
  |_=>exact o.elim
def OB{p}(hk:fr.kind≠ eK/\fr.kind≠ pR)(a:Bk fr l)(y w)(f:l≠[]\/cs1≠[]):
  Sw cs1 cs2 (gi p M fr (l++cs1) R y w) (gi p M fr (l++cs2) R y w):=by
 cases l with
 |cons c l=>
  cases z:fr.kind with
  |early=>grind|report=>grind
  |normal=>simp[qg,gi,z];exact Yw<|Bk.cH (fr:=c) a<|Wm ..
  |wrapped=>simp[qg,gi,z];exact Yw<|Bk.cH (fr:=c) a<|Wm ..
  |deferred=>simp only[qg,gi,z];refine Yw<|Bk.cH (fr:=c) a ?_;grind
 |nil=>cases x:cs1 with|nil=>grind|cons c cs=>intro e g d h q b;grind [gi]
def Uv[Decidable c]{b b2:qB}(e:Sw cs1 cs2 a d)(f:Sw cs1 cs2 b b2):Sw cs1 cs2 (if c then a else b) (if c then d else b2):=Á
theorem xom(b:Jy P fr)(c:Bk fr l)(d:cs1≠[])(a w):Sw cs1 cs2 (Yi p fr (l++cs1) a w)<|Yi p fr (l++cs2) a w:=by
 unfold Yi;cases fr.roundOf with
 |none=>
  exact Uv (Yw<|c.cH O)<|tB λ_ _ _ e=>Æ
 |some r=>
  apply Ya _;cases(lS r a).run p w with
  |ok v x=>exact OB b.eH c v x<|ac d
  |halt y x=>grind [tB]
def xs0(u:nz P F X)(W:Sm P X w w)(q:Jy P fr)(g:Bk fr l)(E:P.follows iz=M)(h3:cs1≠[]):
  Sw cs1 cs2 (aI (wf P F) M M fr (l++cs1) R w) (aI (wf P F) M M fr (l++cs2) R w):=by
 have L:=q.lk;have G:∀v:dD pB,(∀m,aI (wf P F) M M fr m R w=Yi (wf P F) fr m v w)->
   Sw cs1 cs2 (aI (wf P F) M M fr (l++cs1) R w) (aI (wf P F) M M fr (l++cs2) R w):=λv h=>by
  grind [xom]
 have A:∀{s:Sem Next},BN P F X s->(∀n x,s.run (wf P F) w=dG n x->Nx n)->(∀m,aI (wf P F) M M fr m R w=aO (wf P F) M fr m R s w)->
   Sw cs1 cs2 (aI (wf P F) M M fr (l++cs1) R w) (aI (wf P F) M M fr (l++cs2) R w):=λw' wr h=>by
  rw[h,h];exact UI q.eH.1 g E (w'.km w W) wr
 cases hto:fr.todo with
 |nil=>refine G R λm=>?_;exact æ
 |cons it k=>
  rw[hto]at L;have C:=L it<|xu ..;cases it with
  |call d b r s=>exact C.elim|extern r a=>exact C.elim
  |inBlock id=>exact Û
  |inScope c=>exact Û
  |inLoop c=>exact Û
  |inRangeFunc r=>grind [tB,aI]
  |endRangeFunc r=>
   simp only[aI,hto,ze];refine Ya _ ?_;cases(mw r).run (wf P F) w with
   |ok j w1=>exact Õ
   |halt x w1=>
    cases x with
    |panic y=>exact Yw<|g.cH<|GW ..
    |_=>grind [tB]
  |beginRound=>
   have g:B P F X<|fr.roundOf.elim (stuck "beginRound: no round") mS:=zag
   exact A (Bl.eG<|xq g λ_=>xr _) (λn x h=>KO h) λm=>Ô
  |inRegion ops todo=>
   cases todo with
   |nil=>exact Û
   |cons i rest=>
    cases hw:((ops[i]?).map (bP · (fN ops fr.tmps))).getD ao with
    |false=>simp only[aI,hto,hw];exact Yw<|g.cH<|Wm ..
    |true=>
     cases ho:ops[i]?with
     |none=>grind
     |some o=>
      have D:vy P o.op=M/\(fr.roundOf.isNone|| !DG o.op)=M:=by have z:wk P fr.roundOf.isNone ops=M:=C;unfold wk at z;rw[jn]at z;have:=z o<|Ks ho;rw[jy]at this;exact this
      have ih:fr.oper?=Y o:=zat
      refine A (Fh u fr.eval o D.1) (λn x h=>OD u D.1 h) λm=>?_;grind [aI,stepG.oper,DG]
  |code c=>
   cases c with
   |skip=>exact Û
   |label l=>exact Û
   |ret=>refine G (Y .ret) λm=>?_;grind [aI,Yi,ze]|seq a b=>simp only[aI,hto];exact Õ
   |block id c=>exact Û
   |loop c=>exact Û
   |scope c=>exact Û
   |refuse s=>grind [tB,aI]
   |cond c a b=>
    cases hev:fr.eval c with
    |bool t=>simp only[aI,hto,hev];exact Õ
    |_=>grind [tB,aI]
   |exit id=>
    cases hx:exitTo id k with
    |some k'=>simp only[aI,hto,hx];exact Õ
    |none=>refine G (Y<|.exit id) λm=>?_;exact æ
   |goto r=>
    cases hx:gotoIn r k with
    |some k'=>simp only[aI,hto,hx];exact Õ
    |none=>refine G (Y<|.goto r) λm=>?_;exact æ
   |region id ops draw=>
    cases draw with
    |false=>exact Û
    |true=>
     simp only[aI,hto];cases hq:(choose<|.order fr.fn id).run (wf P F) w with
     |ok t x=>exact Õ
     |halt y x=>grind [tB]
   |rangeFunc f ps a b=>
    simp only[Vt,q9,jy]at C;let fr' (x:Q×bA nt):Zf:={fr with todo:=pb x.1::k,defers:=x.2++fr.defers};let cl (x:Q×bA nt):Call:={callee:= .value f,args:=#[.const<|.func (.yield x.1) #[] #[]],argTypes:=#[]};let sm (x:Q×bA nt):Sem Next:=o8 (fr' x).eval (cl x) 0>>=λd=>invoke d.target d.args;have e:∀m,aI (wf P F) M M fr m R w=bJ (seen (wf P F) fr.fn<|(fe fr.fn fr.tmps ps a b fr.roundOf).events (wf P F) w #[]) (match(fe fr.fn fr.tmps ps a b fr.roundOf).run (wf P F) w with
      | dG x w=>aO (wf P F) M (fr' x) m R (sm x) w| ft _ w=>ic (iP "range over a function: no such loop" (fr.pos<|wf P F)) w):=λm=>by
     grind [aI,ze]
    rw[e,e];refine Ya _ ?_;cases hq:(fe fr.fn fr.tmps ps a b fr.roundOf).run (wf P F) w with
    |halt y x=>grind [tB]
    |ok x w1=>
     have p:Fk P (cl x)=M:=O;let⟨v',new,hcr⟩:=(NW (F:=F) (X:=X) fr.fn fr.tmps ps a b fr.roundOf C.1 C.2 q.lL).nh w w #[] W õ;have I:Sm P X w1 w1:=zcj
     refine UI (fr:=fr' x) q.eH.1 (g.cH O) E ((Kg (GD _ _ _) (λw d S ba=>Vu p ba) λd hd=>DF u _ _ hd).km w1 I) λn y h=>?_;let⟨d,w2,h1,h2⟩:=jr h;exact Ci u (Vu p h1) h2
def ja5(z:nz P F X)(o:Sm P X w w)(p:Bk fr l){d}(j:Wn P d.target=M):
  Sw cs1 cs2 (fo (wf P F) fr (l++cs1) R d w) (fo (wf P F) fr (l++cs2) R d w):=by
 have i:=(DF z d.target d.args j).km w o;apply Uv (tB λ_ _ _ e=>Æ);simp only[ze];cases q:(invoke d.target d.args).run _ w with
 |halt y x=>
  rw[q]at i;cases y with
  |panic y=>exact Ya _<|Yw<|p.cH<|GW ..
  |blocked=>exact i.elim|waiting=>exact i.elim
  |goexit=>exact i.elim|fatal m=>grind [KT,J']
  |throw m=>grind [KT,Ka]|exit c=>exact tB λ_ _ _ e=>Æ
  |stuck m=>exact tB λ_ _ _ e=>Æ
  |unsupported u=>
   cases u with|initOrder g=>exact i.elim|_=>exact tB λ_ _ _ e=>Æ
 |ok n x=>
  have k:=(λn x h=>Ci z j h) n x q;cases n with
  |value y=>grind [Ya,Yw]|skip=>grind [Ya,Yw]
  |enter f a=>grind [Ya,KP]|round r f W a b=>grind [Ya,KP]
  |defer d=>grind [Ya,Yw]|recover=>grind [Ya,Ou,Yw]
  |_=>exact k.elim
def UG(u:nz P F X)(o:Sm P X w w)(f:Jy P fr)(h:Bk fr l)(j:cs1≠[]):
  Sw cs1 cs2 (dT (wf P F) M fr (l++cs1) R w) (dT (wf P F) M fr (l++cs2) R w):=by
 cases W:fr.defers with
 |cons d D=>
  have A:=f.nk d Á;have z:(∀b,d.target≠ .collected b)->Sw cs1 cs2 (dT (wf P F) M fr (l++cs1) R w) (dT (wf P F) M fr (l++cs2) R w):=λq=>by
   have e:∀g,dT (wf P F) M fr g R w=fo (wf P F) {fr with defers:=D} g R d w:=λg=>by grind [dT]
   rw[e,e];exact ja5 u o (fr:={fr with defers:=D}) (h.cH O) A
  cases htg:d.target with
  |collected b=>
   have e:∀g,dT (wf P F) M fr g R w=bJ (seen (wf P F) fr.fn<|(fK b).events (wf P F) w #[]) (match(fK b).run (wf P F) w with
     | dG C w=>ij {frame:={fr with defers:=C++D},callers:=g,status:=bK,dying:=R} w
     | ft _ w=>ic (iP "the deferred calls of a range-over-func loop have been taken" (fr.pos<|wf P F)) w):=λg=>by
    unfold dT;rw[W];let⟨tg,ar⟩:=d;grind [ze]
   rw[e,e];apply Ya _;cases(fK b).run _ w with
   |ok a x=>exact Yw<|h.cH O
   |halt y x=>grind [tB]
  |_=>grind
 |nil=>
  cases L:fr.mode with
  |run=>grind [tB,dT]
  |panicking G=>
   have i:∀p:Zp,fr.catches p=ao:=λp=>by unfold Frame.catches;cases htd:fr.todo with|nil=>grind|cons I k=>have n:=f.lk I Á;cases I with|call d b r s=>exact n.elim|_=>grind
   cases l with
   |cons c l=>simp only[dT,W,L,i,qg];exact Yw<|Bk.cH (fr:=c) h<|GW ..
   |nil=>
    cases h1:cs1 with|nil=>grind|cons c g=>intro t B m e A v;grind [dT]
  |returning=>
   cases hf:(wf P F).funcs[fr.fn]?with
   |none=>simp only[dT,W,L,hf];exact OB f.eH h _ w<|ac j
   |some fn=>
    simp only[dT,W,L,hf,ze];apply Ya _;cases(eR fn fr.tmps).run (wf P F) w with
    |ok a x=>exact OB f.eH h a x<|ac j
    |halt y x=>grind [tB]
def Ut(y:nz P F X)(d:Sm P X w w){g l}(b:Jy P g.frame)(z:g.dying=R)(j:g.callers=l++cs1)(f:Bk g.frame l)(i:P.follows iz=M)(h:cs1≠[]):
  Sw cs1 cs2 (bW (wf P F) M g w) (bW (wf P F) M {g with callers:=l++cs2} w):=by
 let⟨fr,a,st,D,o⟩:=g;cases z;cases j;cases x:fr.mode with
 |run=>
  have e:∀a,bW (wf P F) M {frame:=fr,callers:=a,status:=st,dying:=R,offers:=o} w=aI (wf P F) M M fr a R w:=λa=>by simp[bW,x]
  rw[e,e];exact xs0 y d b f i h
 |returning=>
  have e:∀a,bW (wf P F) M {frame:=fr,callers:=a,status:=st,dying:=R,offers:=o} w=dT (wf P F) M fr a R w:=λa=>zac
  rw[e,e];exact UG y d b f h
 |panicking c=>
  have e:∀a,bW (wf P F) M {frame:=fr,callers:=a,status:=st,dying:=R,offers:=o} w=dT (wf P F) M fr a R w:=λa=>zac
  rw[e,e];exact UG y d b f h
end
section
variable{P:cI}{F:bE kL}{X:Q->Prop}{cs1 cs2:bA fZ}{L:Q×Q->bE cR->dN->gA->Prop}
structure DU(P:Zp)(X:ZP)(L:Q×Q->bE Zg->Zy->gA->Prop):Prop where
 kr:∀k G v t,L k G v t->∀(i:Q) g,0<i->G[i]?=Y g->awake g
 gY:∀k G v t d,L k G v t->L k G (v.at d) t
 dR:∀k G v t (i:Q) g z m,L k G v t->0<i->G[i]?=Y g->g.status=bK->G[0]?=Y z->z.status=bK->z.dying=R->
  ∃q y j o u,runT P (gJ G v m) i=(gP<|crowd q y j,o)/\AI u k/\q[0]?=Y z/\L u q y (t++o)/\∀w,Sm P X (re w v.tape v.drawn) v->Sm P X (re w y.tape y.drawn) y
 cN:∀k G v t z g' y es,L k G v t->G[0]?=Y z->bW P M z v=ij g' y es->z.status=bK->g'.status=bK->(∀x,X x->y.heap[x]?=v.heap[x]?)->(∀e∈es,vx X (V<|Z y) e)->V (Z v)<=V (Z y)->
  L k (aA (G.map<|woken P z g' y) 0 g') y (t++aZ 0 z.frame.fn z.frame.place es)
structure zS(P:Zp)(X:ZP)(cs1 cs2:bA Zf)(g:Zg)(w:Zy)(g2:Zg)(v:Zy):Prop where
 yk:∃l,g.callers=l++cs1/\g2={g with callers:=l++cs2}/\((cs1=[]/\cs2=[])\/(cs1≠[]/\Bk g.frame l))
 pT:g.status=bK
 dy:g.dying=R
 Uo:uw P g
 Fs:uw P g2
 sm:Sm P X (re w v.tape v.drawn) v
def UB(o:DU P X L){k:Q×Q}{D:bE Zg}{sl:dD<|Nat×Q}{t:gA}
  (c:zS P X cs1 cs2 g w g2 v)
  (z:∀d,Sm P X (re w v.tape d) (v.at d)->∃g' S C A es,qK (wf P F) g (re w v.tape d) g' S/\g'.callers=C++cs1/\((cs1=[]/\cs2=[])\/(cs1≠[]/\Bk g'.frame C))/\bW P M g2 (v.at d)=ij {g' with callers:=C++cs2} A es/\Af P X (v.at d) S A es/\uw P g'/\uw P {g' with callers:=C++cs2})
  (y:L k D v t)(q:D[0]?=Y g2):
  ∃G W u t',fQ P 1 (gJ D v sl) t=(gP<|crowd G W u,t')/\
   ((∃k',AI k' k/\L k' G W t'/\G[0]?=Y g2/\zS P X cs1 cs2 g w g2 W)\/
    ∃tp d g' S g2',qK (wf P F) g (re w tp d) g' S/\L k G W t'/\G[0]?=Y g2'/\zS P X cs1 cs2 g' S g2' W/\V (Z v)<=V (Z W)/\∀x,X x->W.heap[x]?=v.heap[x]?):=by
 let⟨l,hl,I,hlow⟩:=c.yk;have a:g2.status=bK:=by rw[I];exact c.pT
 have n:g2.dying=R:=by rw[I];exact c.dy
 have r:∀g∈D,awake g:=by intro e f;obtain⟨i,p,rfl⟩:=Xd.1 f;obtain rfl|b:=jh i;grind [oI];exact o.kr k D v t y i _ b<|xy p
 let⟨i,e,d,u,p,f,hst⟩:=crowd_pick (P:=P) (w:=v) (sl:=sl) r ⟨0,g2,q,a⟩;have j:=o.gY k D v t d y;have m:=c.sm.re v.tape d;obtain rfl|b:=jh i;obtain rfl:e=g2:=Á
 let⟨g',w1,C,A,es,⟨es0,e1,e2,e3⟩,hl',hlow',f1,B,hok1,hok2⟩:=z d m;have s:=qD (P:=P) (sl:=u) (i:=0) p (show bW P (0==0) e (v.at d)=_ from f1);have h:re w1 A.tape A.drawn=w1:=by rw[B.sm.nQ,B.sm.gY];rfl
 refine⟨_,A,u,t++aZ 0 e.frame.fn e.frame.place es,ë,ac ⟨v.tape,d,g',w1,{g' with callers:=C++cs2},⟨es0,e1,e2,e3⟩,
  o.cN k D _ t e _ A es j q f1 a e3 B.iQ B.tz B.io,Á,⟨⟨C,hl',O,hlow'⟩,e3,e2,hok1,hok2,by rw[h];exact B.sm⟩,B.io,B.iQ⟩⟩
 let⟨G,W,sl2,ops,k',r1,r2,r3,r4,r5⟩:=o.dR k D _ t i e g2 u j b p f q a n;exact⟨G,W,sl2,t++ops,ë,aJ ⟨k',r2,r4,r3,⟨⟨l,hl,I,hlow⟩,c.pT,c.dy,c.Uo,c.Fs,r5 w m⟩⟩⟩
def UD(B:DU P X L)(u:nz P F X)(r:uL P F)(p:P.follows iz=M){k gs sl t}
  (f:zS P X cs1 cs2 g w g2 v)(y:Jy P g.frame)(i:∀t d,∃g' S,qK (wf P F) g (re w t d) g' S/\T cs1<=T g'.callers)(s:∀t d,wo P F (T g.callers)<|stepG (wf P F) M g<|re w t d)
  (D:L k gs v t)(C:gs[0]?=Y g2):
  ∃A v' sl' t',fQ P 1 (gJ gs v sl) t=(gP<|crowd A v' sl',t')/\
   ((∃k',AI k' k/\L k' A v' t'/\A[0]?=Y g2/\zS P X cs1 cs2 g w g2 v')\/
    ∃tp d g' S g2',qK (wf P F) g (re w tp d) g' S/\L k A v' t'/\A[0]?=Y g2'/\zS P X cs1 cs2 g' S g2' v'/\V (Z v)<=V (Z v')/\∀x,X x->v'.heap[x]?=v.heap[x]?):=by
 refine UB B f (λd h=>?_) D C;let⟨l,hl,hg2,hlow⟩:=f.yk;have j:g2.dying=R:=by rw[hg2];exact f.dy
 let⟨g',w1,hgo,hlen⟩:=i v.tape d;let⟨es0,e1,e2,e3⟩:=hgo;have q:∃l',g'.callers=l'++cs1/\((cs1=[]/\cs2=[])\/(cs1≠[]/\Bk g'.frame l'))/\bW (wf P F) M g2 (re w v.tape d)=ij {g' with callers:=l'++cs2} w1 es0:=by
  obtain⟨m,n⟩|⟨m,E⟩:=hlow;refine⟨g'.callers,Á,aJ ⟨m,n⟩,?_⟩;have:g2=g:=by rw[hg2,n,Xz];rw[m,Xz]at hl;rw[<-hl]
  rw[this,e1,n,Xz];let⟨l',a1,a2,a3⟩:=Ut (cs2:=cs2) u h.jL y f.dy hl E p m _ _ _ e1 e2 hlen;grind
 let⟨l',hl',hlow',W⟩:=q;have o:wo P F (T g2.callers)<|stepG (wf P F) M g2<|re w v.tape d:=λa b c e I G=>by rw[W]at e;cases e;refine s v.tape d g' w1 es0 e1 ?_ G;grind
 have z:=Ha (En:=True) u r h f.Fs Á j λ_=>o;let⟨v1,es,f1,f2⟩:=z.DQ bD _ _ _ W e2;exact⟨g',w1,l',v1,es,⟨es0,e1,e2,e3⟩,hl',hlow',f1,f2,(Ha (En:=True) u r h.jL f.Uo y f.dy λ_=>s v.tape d).ok bD _ _ _ e1 e2,z.ok bD _ _ _ W e2⟩
end
section
variable{P:cI}{F:bE kL}{X:Q->Prop}{aw:bA fZ}
def Uq(aw:bA Zf)(g':Zg):Prop:=∀c l,aw=c::l->T g'.callers=T l->(∃v,g'.frame=c.finish v)\/∃m,g'.frame={c with mode:=m}
def Up(P:Zp)(aw:bA Zf)(g':Zg):Prop:=(∀c∈aw,Jy P c)->∀c∈g'.callers,Jy P c
def Kd(P p:Zp)(aw:bA Zf)(s:qB):Prop:=(∃g' S es,s=ij g' S es/\g'.dying=R/\g'.status=bK/\g'.offers=R/\(T g'.callers=T aw+1->g'.frame.roundOf=R->∃f a k,(k≠ eK/\k≠ pR)/\g'.frame=bI p f a k)/\Uq aw g'/\T aw<=T g'.callers+1/\Up P aw g')\/∃o S es,s=ic o S es
def KR(h:T g'.callers+1≠T aw):Uq aw g':=λc l e a=>dC Á h
theorem Ww{a fr}:Kd P p a<|ij {frame:=fr,callers:=a,status:=bK,dying:=R} w es:=aJ ⟨_,_,_,O,O,O,O,λe=>dC e Á,KR Á,Á,λh=>h⟩
theorem KQ{c:Zf}(h:(∃v,fr=c.finish v)\/∃m,fr={c with mode:=m}):Kd P p (c::l)<|ij {frame:=fr,callers:=l,status:=bK,dying:=R} w es:=
 aJ ⟨_,_,_,O,O,O,O,λe=>dC e Á,λb l1 e _=>Á,Á,λh c a=>h c<|jw _ a⟩
def Us{a fr b}(d:Jy P b):Up P a {frame:=fr,callers:=b::a,status:=bK,dying:=R}:=λh c e=>Á
theorem UK{b a k c}(d:Jy P c)(hk:k≠ eK/\k≠ pR):Kd P p b<|ij {frame:=bI p f a k,callers:=c::b,status:=bK,dying:=R} w es:=aJ ⟨_,_,_,O,O,O,O,λ_ _=>⟨f,a,k,hk,O⟩,KR Á,Á,Us d⟩
theorem UL{c r h a b k d}(g:Jy P d):Kd P p c<|ij {frame:=Frame.round r f h a b k,callers:=d::c,status:=bK,dying:=R} w es:=aJ ⟨_,_,_,O,O,O,O,λ_ e=>Æ,KR Á,Á,Us g⟩
def Uy:∀{aw C:bA Zf} {fr:Zf} {v:Zv},dQ fr aw=Y (v,C)->T C=T aw
 |[],C,fr,v,e=>by grind [dQ]|c::aw,C,fr,v,e=>by unfold dQ at e;split at e;grind;rename_i y h;cases h;obtain⟨⟨f,a⟩,b,d⟩:=zv.1 e;cases d;simp[Uy b];grind
def Uz{P}:∀{aw C:bA Zf} {fr:Zf} {v:Zv},(∀c∈aw,Jy P c)->dQ fr aw=Y (v,C)->∀c∈C,Jy P c
 |[],C,fr,v,h,e=>ü
 |c::aw,C,fr,v,h,e=>by
  unfold dQ at e;split at e;rename_i q r hk j;cases j;split at e;cases e;intro x a;simp only[jc]at a;obtain rfl|a:=a;exact(h c Â).qJ _;grind;grind;rename_i W r hk j;cases j;cases u:dQ c aw with|none=>grind|some y=>rw[u]at e;cases e;intro x a;simp only[jc]at a;obtain rfl|a:=a;grind;exact Uz (λz b=>h z<|by simp[b]) u x a
  grind
theorem Uu{a aw fr b v}(h:dQ b a=Y (v,aw)):Kd P p a<|ij {frame:=fr,callers:=aw,status:=bK,dying:=R} w es:=by have d:=Uy h;exact aJ ⟨_,_,_,O,O,O,O,λe=>dC e Á,KR Á,Á,λc=>Uz c h⟩
theorem tA{o}:Kd P p n<|ic o w es:=ac ⟨_,_,_,O⟩
theorem Yh{s}(es)(h:Kd P p n s):Kd P p n<|GStep.after es s:=by obtain⟨e,d,a,rfl,b,c⟩|⟨o,d,a,rfl⟩:=h;exact aJ ⟨_,_,_,O,b,c⟩;exact ac ⟨_,_,_,O⟩
def xyk[Decidable c]{b:qB}(d:Kd P p n a)(e:Kd P p n b):Kd P p n (if c then a else b):=Á
def UH{s}(j:Jy P fr)(hk:fr.kind≠ eK)(l:p.follows iz=M)
  (e:tR<|s.run p w)(k:∀n x,s.run p w=dG n x->Nx n):Kd P p aw<|stepG.apply p M fr aw R s w:=by
 have h:(fr.kind==eK)=ao:=by cases o:fr.kind<;>simp_all
 cases z:s.run p w with
 |halt q x=>
  rw[z]at e;cases q with
  |panic y=>grind [aO,ze,Yh,Ww]|blocked=>exact e.elim
  |waiting=>exact e.elim|goexit=>exact e.elim
  |fatal m=>exact e.elim|throw m=>exact e.elim
  |exit c=>simp only[aO,ze,dY,z,h];exact tA|stuck m=>simp only[aO,ze,dY,z,h];exact tA
  |unsupported u=>
   cases u with|initOrder g=>exact e.elim|_=>simp only[aO,ze,dY,z,h];exact tA
 |ok n x=>
  have i:=k n x z;cases n with
  |value y=>grind [aO,ze,Yh,Ww]|skip=>grind [aO,ze,Yh,Ww]
  |enter f a=>grind [aO,ze,Yh,UK]|round r f W a b=>grind [aO,ze,Yh,UL]
  |defer d=>grind [aO,ze,Yh,Ww]|recover=>grind [Ww,Uu,aO,ze,Yh]
  |_=>exact i.elim
def Oz{fr}(hk:fr.kind≠ eK/\fr.kind≠ pR)(y w)(a:aw≠[]):
  Kd P p aw (gi p M fr aw R y w):=by
 cases aw with
 |nil=>grind
 |cons c l=>
  cases h:fr.kind with
  |early=>grind|report=>grind
  |normal=>grind [gi,KQ]|wrapped=>grind [gi,KQ]
  |deferred=>
   simp only[gi,h];refine KQ<|ac ?_;split;split<;>grind
   grind
theorem xol(b:Jy P fr)(c:aw≠[])(a w):Kd P p aw<|Yi p fr aw a w:=by
 unfold Yi;cases fr.roundOf with
 |none=>grind [Ww,tA]
 |some r=>
  apply Yh _;cases(lS r a).run p w with
  |ok v x=>exact Oz b.eH v x c|halt y x=>exact tA
theorem xsz(u:nz P F X)(I:Sm P X w w)(g:Jy P fr)(z:P.follows iz=M)(ba:aw≠[]):
  Kd P (wf P F) aw (aI (wf P F) M M fr aw R w):=by
 have E:=g.lk;have C:∀m:dD pB,(∀aw,aI (wf P F) M M fr aw R w=Yi (wf P F) fr aw m w)->
   Kd P (wf P F) aw (aI (wf P F) M M fr aw R w):=λm h=>by
  grind [xol]
 have G:∀{s:Sem Next},BN P F X s->(∀n x,s.run (wf P F) w=dG n x->Nx n)->(∀aw,aI (wf P F) M M fr aw R w=aO (wf P F) M fr aw R s w)->
   Kd P (wf P F) aw (aI (wf P F) M M fr aw R w):=λW A h=>by
  rw[h];exact UH g g.eH.1 z (W.km w I) A
 cases hto:fr.todo with
 |nil=>refine C R λaw=>?_;exact æ
 |cons it k=>
  rw[hto]at E;have q:=E it<|xu ..;cases it with
  |call d b r s=>exact q.elim|extern r a=>exact q.elim
  |inBlock id=>grind [aI,Ww]|inScope c=>grind [aI,Ww]
  |inLoop c=>grind [aI,Ww]|inRangeFunc r=>grind [aI,tA]
  |endRangeFunc r=>grind [aI,Yh,Ww,tA]
  |beginRound=>
   have w':B P F X<|fr.roundOf.elim (stuck "beginRound: no round") mS:=zag
   exact G (Bl.eG<|xq w' λ_=>xr _) (λn x h=>KO h) λaw=>Ô
  |inRegion ops todo=>
   cases todo with
   |nil=>grind [aI,Ww]
   |cons i rest=>
    cases hw:((ops[i]?).map (bP · (fN ops fr.tmps))).getD ao with
    |false=>grind [aI,Ww]
    |true=>
     cases ho:ops[i]?with
     |none=>grind
     |some o=>
      have v:vy P o.op=M/\(fr.roundOf.isNone|| !DG o.op)=M:=by have p:wk P fr.roundOf.isNone ops=M:=q;unfold wk at p;rw[jn]at p;have:=p o<|Ks ho;rw[jy]at this;exact this
      have L:fr.oper?=Y o:=zat
      refine G (Fh u fr.eval o v.1) (λn x h=>OD u v.1 h) λaw=>?_;grind [aI,stepG.oper,DG]
  |code c=>
   cases c with
   |skip=>grind [aI,Ww]|label l=>grind [aI,Ww]
   |ret=>refine C (Y .ret) λaw=>?_;grind [aI,Yi,ze]|seq a b=>grind [aI,Ww]
   |block id c=>grind [aI,Ww]|loop c=>grind [aI,Ww]
   |scope c=>grind [aI,Ww]|refuse s=>grind [aI,tA]
   |cond c a b=>grind [aI,Ww,tA]
   |exit id=>
    cases hx:exitTo id k with|some k'=>grind [aI,Ww]|none=>refine C (Y<|.exit id) λaw=>?_;exact æ
   |goto r=>
    cases hx:gotoIn r k with|some k'=>grind [aI,Ww]|none=>refine C (Y<|.goto r) λaw=>?_;exact æ
   |region id ops draw=>grind [aI,Ww,tA]
   |rangeFunc f ps a b=>
    simp only[Vt,q9,jy]at q;let fr' (x:Q×bA nt):Zf:={fr with todo:=pb x.1::k,defers:=x.2++fr.defers};let cl (x:Q×bA nt):Call:={callee:= .value f,args:=#[.const<|.func (.yield x.1) #[] #[]],argTypes:=#[]};let sm (x:Q×bA nt):Sem Next:=o8 (fr' x).eval (cl x) 0>>=λd=>invoke d.target d.args;have e:∀aw,aI (wf P F) M M fr aw R w=bJ (seen (wf P F) fr.fn<|(fe fr.fn fr.tmps ps a b fr.roundOf).events (wf P F) w #[]) (match(fe fr.fn fr.tmps ps a b fr.roundOf).run (wf P F) w with
      | dG x w=>aO (wf P F) M (fr' x) aw R (sm x) w| ft _ w=>ic (iP "range over a function: no such loop" (fr.pos<|wf P F)) w):=λaw=>by
     grind [aI,ze]
    rw[e];refine Yh _ ?_;cases hq:(fe fr.fn fr.tmps ps a b fr.roundOf).run (wf P F) w with
    |halt y x=>exact tA
    |ok x w1=>
     have j:Fk P (cl x)=M:=O;let⟨v',new,hcr⟩:=(NW (F:=F) (X:=X) fr.fn fr.tmps ps a b fr.roundOf q.1 q.2 g.lL).nh w w #[] I õ;have D:Sm P X w1 w1:=zcj
     have t:Jy P<|fr' x:=⟨Jq (it:=pb x.1) bD (Ux E),λd hd=>by obtain hd|hd:=je.1 hd;grind [Uw];exact g.nk d hd,g.eH,g.lL⟩;refine UH (fr:=fr' x) t g.eH.1 z ((Kg (GD _ _ _) (λw d h3 wr=>Vu j wr) λd hd=>DF u _ _ hd).km w1 D) λn y h=>?_;let⟨d,w2,h1,h2⟩:=jr h;exact Ci u (Vu j h1) h2
theorem ja3(z:nz P F X)(k:Sm P X w w)(l:Jy P fr){d}(i:Wn P d.target=M):
  Kd P (wf P F) aw (fo (wf P F) fr aw R d w):=by
 have e:=(DF z d.target d.args i).km w k;apply xyk<|tA;simp only[ze];cases q:(invoke d.target d.args).run _ w with
 |halt y x=>
  rw[q]at e;cases y with
  |panic y=>exact Yh _ Ww|blocked=>exact e.elim
  |waiting=>exact e.elim|goexit=>exact e.elim
  |fatal m=>exact e.elim|throw m=>exact e.elim
  |exit c=>exact tA|stuck m=>exact tA
  |unsupported u=>
   cases u with|initOrder g=>exact e.elim|_=>exact tA
 |ok n x=>
  have j:=(λn x h=>Ci z i h) n x q;cases n with
  |value y=>exact Yh _ Ww|skip=>exact Yh _ Ww
  |enter f a=>grind [Yh,UK]|round r f o a b=>grind [Yh,UL]
  |defer d=>exact Yh _ Ww|recover=>grind [Yh,Ww,Uu]
  |_=>exact j.elim
theorem zvh(z:nz P F X)(l:Sm P X w w)(c:Jy P fr)(f:aw≠[]):
  Kd P (wf P F) aw (dT (wf P F) M fr aw R w):=by
 cases q:fr.defers with
 |cons d D=>
  have G:=c.nk d Á;have n:(∀b,d.target≠ .collected b)->Kd P (wf P F) aw (dT (wf P F) M fr aw R w):=λj=>by
   have e:∀aw,dT (wf P F) M fr aw R w=fo (wf P F) {fr with defers:=D} aw R d w:=λaw=>by grind [dT]
   rw[e];have i:Jy P {fr with defers:=D}:=⟨c.lk,λx m=>c.nk x Á,c.eH,c.lL⟩;grind [ja3]
  cases L:d.target with
  |collected b=>
   have e:∀aw,dT (wf P F) M fr aw R w=bJ (seen (wf P F) fr.fn<|(fK b).events (wf P F) w #[]) (match(fK b).run (wf P F) w with
     | dG C w=>ij {frame:={fr with defers:=C++D},callers:=aw,status:=bK,dying:=R} w
     | ft _ w=>ic (iP "the deferred calls of a range-over-func loop have been taken" (fr.pos<|wf P F)) w):=λaw=>by
    unfold dT;rw[q];let⟨A,ar⟩:=d;grind [ze]
   grind [Yh,Ww,tA]
  |_=>grind
 |nil=>
  cases o:fr.mode with
  |run=>grind [dT,tA]
  |panicking u=>
   have h:∀p:Zp,fr.catches p=ao:=λp=>by unfold Frame.catches;cases B:fr.todo with|nil=>grind|cons I k=>have g:=c.lk I Á;cases I with|call d b r s=>exact g.elim|_=>grind
   cases aw<;>grind [dT,KQ,Frame.raise]
  |returning=>
   cases W:(wf P F).funcs[fr.fn]?with
   |none=>simp only[dT,q,o,W];exact Oz c.eH _ w f
   |some fn=>
    simp only[dT,q,o,W,ze];apply Yh _;cases(eR fn fr.tmps).run _ w with
    |ok a x=>exact Oz c.eH a x f|halt y x=>cases y<;>exact tA
def xvf(y:nz P F X)(c:Sm P X w w){g}(a:Jy P g.frame)(h:g.dying=R)(b:P.follows iz=M)(d:g.callers≠[]):Kd P (wf P F) g.callers<|stepG (wf P F) M g w:=by let⟨fr,aw,st,D,o⟩:=g;cases h;cases z:fr.mode<;>grind [bW,xsz,zvh]
end
end
end A
end Go.Proofs.YtjnbhiamaabbgabGreatDoor
