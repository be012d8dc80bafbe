import Derived.Conc.Beside
set_option linter.all false
set_option maxRecDepth 100000
set_option maxHeartbeats 8000000
section
variable{P:Prop}
def À(h:P:=by omega):P:=h
def Â(h:P:=by grind):P:=h
def Ä(h:P:=by simp):P:=h
def Ç(h:P:=by cases e):P:=h
def Ê(h:P:=by cases h):P:=h
def Ë(h:P:=by simp_all):P:=h
def Ò(h:P:=by grind [aD]):P:=h
def Ú(h:P:=by rw[hr];trivial):P:=h
def Ü(h:P:=by grind [ze,ge,aY]):P:=h
def Ý(h:P:=by cases fr.roundOf with|none=>exact xz _|some l=>exact Ky l):P:=h
def Þ(h:P:=by cases hq:fr.kind<;>simp_all):P:=h
def ñ(h:P:=by rw[hq];trivial):P:=h
def ò(h:P:=by grind [eT]):P:=h
def ó(h:P:=by simp[h.J]):P:=h
def Ć(h:P:=by simp[ge]):P:=h
def ć(h:P:=by grind [Frame.finish]):P:=h
def Ď(h:P:=by simp only[Frame.oper?,hto,ho]):P:=h
def Ĝ(h:P:=by show(k<|w.shape? r).run (wf P F) w=_;simp[dD,g]):P:=h
def Ğ(h:P:=by rw[<-hw];exact g.pz r):P:=h
def ģ(h:P:=by grind [ae]):P:=h
def ĩ(h:P:=by obtain⟨a,c,_,b⟩:=jr h;cases b;trivial):P:=h
def ĭ(h:P:=by unfold Frame.raise;split<;>exact h.oZ _):P:=h
def Į(h:P:=by simp at j;subst j;exact⟨λ_=>rfl,i⟩):P:=h
def ı(h:P:=by rw[hr];revert c;cases hh<;>exact id):P:=h
def ĵ(h:P:=by rw[hr];revert c;cases h<;>exact id):P:=h
def Œ(h:P:=by grind [cL]):P:=h
def œ(h:P:=by grind [bF]):P:=h
def Ŕ(h:P:=by rw[d];rfl):P:=h
end
namespace Go.Proofs.YtjnbhiamaabbgaaGreatDoor
open Go renaming Code->nW,Deferred->lY,Event->lh,Frame->fk,Func->jE,GStep->oQ,Goroutine->cA,MapEntry->dP,Oper->fj,Program->bT,Result->kg,Trace->fG,TypeId->nt,Value->dL,World->cY,callDeferred->dV,callFunc->nE,doReturn->ft,execOp->aL,frozen->lf,getObj->lS,invoke->ol,load->mB,loadBytes->kB,markStringish->iK,program->oK,resolve->nD,results->dX,runNT->eT,shape->kz,stepG->bF,stringish->lu,tryRecover->cL,undef->aC,underlying->eu,unwind->cW,variablesAt->kv,yielded->eZ
open Go.Builtin renaming delete_->ie
open Go.CallKind renaming early->dY,normal->cJ,report->oA
open Go.Code renaming region->eU,seq->fO
open Go.Conc renaming awake_of->mW,crowd->fL,runT_crowd_go->oS
open Go.Departure renaming mixedOrders->mV,rangeFuncRecover->gK
open Go.Extern renaming find->mU,findNext->jP
open Go.Frame renaming enter->aT
open Go.FrameMode renaming returning->dN
open Go.GStep renaming after->aY,ended->gq,go->gj
open Go.GoStatus renaming running->aZ
open Go.Halt renaming stuck->ia
open Go.Instr renaming beginRound->iZ,checkKey->gT,endLoop->jD,endRound->kT,enterLoop->ez,findKey->bW,keyThatStays->kY,lookup->fB,mapUpdate->gC,takeDeferred->eB
open Go.IntKind renaming i64->aU,u32->bQ
open Go.Item renaming code->cD,inLoop->mS,inRangeFunc->nH,inRegion->aM
open Go.Loc renaming cell->kF,obj->nG
open Go.MemOp renaming ofEvents->aS
open Go.Mode renaming atomic->fK
open Go.Next renaming enter->mo,value->fA
open Go.Obj renaming cells->aq,isChan->oP
open Go.Outcome renaming stuck->hY
open Go.Region renaming schedule->il,wanted->bC
open Go.Result renaming andThen->bG,halt->eI,ok->cT
open Go.RowKit renaming Hid->aK
open Go.Sem renaming bind->fw,run->fp,runT->eE,runT_bind'->Yf,runT_eq->ey,run_bind'->qe
open Go.Stepped renaming next->fS
open Go.TypeDesc renaming string->lz
open Go.Value renaming agg->bM,func->nV,int->aH,pointer->aR,slice->az,string->aj,tuple->bU
open Go.World renaming cell?->ae,farLoad->lw,farStore->kQ,freeze->gS,frozen?->aQ,noCell->gR,seen->oL,setCell->ai,shape?->dD
open Go.stepG renaming apply->aJ,exec->aD
open _root_.Array renaming setIfInBounds->ay,size->ak
open _root_.Bind renaming bind->lB
open _root_.Bool renaming false->ao,true->aw
open _root_.Classical renaming choose->nO
open _root_.Except renaming bind->lj,error->lA
open _root_.False renaming elim->dI
open _root_.List renaming length->aa,range->gO
open _root_.Option renaming none->ar,some->ac
open _root_.Or renaming inl->aF,inr->aE
open _root_.Pure renaming pure->fX
open Go.Sem renaming runT_eq->ze
def _root_.And.c{a b c d:Prop}(h:a/\b/\c/\d):d:=h.2.2.2
def _root_.And.d{a b c d e:Prop}(h:a/\b/\c/\d/\e):e:=h.2.2.2.2
def _root_.And.e{a b c d e f:Prop}(h:a/\b/\c/\d/\e/\f):f:=h.2.2.2.2.2
def _root_.And.f{a b c d e f g:Prop}(h:a/\b/\c/\d/\e/\f/\g):g:=h.2.2.2.2.2.2
def _root_.And.g{a b c d e f g ph:Prop}(h:a/\b/\c/\d/\e/\f/\g/\ph):ph:=h.2.2.2.2.2.2.2
def _root_.And.j{a b c d e f g ph i:Prop}(h:a/\b/\c/\d/\e/\f/\g/\ph/\i):i:=h.2.2.2.2.2.2.2.2
theorem _root_.Go.RowKit.Hid.o{p:Prop}(h:aK p):p:=h
def za:=@Array.getElem?_eq_some_iff
def zd:=@Nat.le_refl
def zl:=@Array.getElem?_setIfInBounds_ne
def zm:=@Nat.lt_of_lt_of_le
def zv:=@Option.map_eq_some_iff
def zx:=@List.length_append
def xa:=@Nat.le_trans
def xb:=@Go.cell_of_row
def xg:=@List.length_cons
def xj:=@Option.some.injEq
def xo:=@Go.run_underlying
def xt:=@Go.frozen_of_row
def xu:=@List.mem_cons_self
def xy:=@Array.getElem?_eq_getElem
def ja:=@Bool.false_eq_true
def jb:=@Array.getElem?_push
def jc:=@List.mem_cons
def jd:=@List.size_toArray
def je:=@List.mem_append
def jf:=@beq_eq_false_iff_ne
def jg:=@Classical.byContradiction
def jh:=@Nat.eq_zero_or_pos
def ji:=@Go.bodyPost_ret
def jk:=@Go.World.ownsRow_nil
def jl:=@List.length_map
def jm:=@decide_eq_true
def jn:=@Array.all_eq_true_iff_forall_mem
def jo:=@decide_eq_false
def jq:=@List.append_assoc
def js:=@Go.block_lt_of_cell
def jt:=@Array.getElem?_map
def ju:=@List.mem_singleton
def jv:=@List.eq_nil_of_length_eq_zero
def jw:=@List.mem_cons_of_mem
def jx:=@Go.heap_setCell_same
def jy:=@Bool.and_eq_true
def jz:=@List.take_length
def j7:=@Nat.zero_add
def qg:=@List.cons_append
def qh:=@List.getElem?_cons_zero
def qj:=@List.nil_append
def ql:=@Option.some.inj
def qo:=@Int.tmod_eq_emod_of_nonneg
def qt:=@Option.getD_some
def qu:=@Array.replicate_succ
def qw:=@Array.replicate_zero
def qy:=@List.length_nil
def qz:=@List.map_append
def Zh:=@List.append_toArray
def Zj:=@List.setIfInBounds_toArray
def Zn:=@List.length_drop
def Zo:=@Go.wpList_store_row
def Zq:=@List.length_replicate
def Zr:=@List.length_singleton
def Zz:=@Nat.zero_le
def Z6:=@Go.World.cell?_of_block
def Xa:=@List.push_toArray
def Xd:=@Array.mem_iff_getElem
def Xe:=@List.mem_map
def Xi:=@Array.size_push
def Xk:=@List.getElem_mem
def Xl:=@Option.map_some
def Xn:=@Array.append_assoc
def Xo:=@List.mergeSort_perm
def Xp:=@List.getElem?_append_right
def Xt:=@of_decide_eq_true
def Xu:=@Nat.le_succ
def Xy:=@Array.getElem?_setIfInBounds
def Xz:=@List.append_nil
def Ja:=@List.mem_filter
def Jc:=@List.getElem?_eq_getElem
def Jd:=@Nat.mod_eq_of_lt
def Jf:=@Go.results_cell_row
def Jg:=@Array.getElem?_modify
def Jj:=@Array.getD_eq_getD_getElem?
def Jk:=@Nat.ne_of_gt
def Jm:=@List.getElem?_cons_succ
def Js:=@List.map_cons
def Jz:=@List.getElem?_toArray
def J0:=@List.length_filter_le
def J4:=@Array.size_setIfInBounds
def J6:=@Go.wpList_load_row
def J7:=@Nat.pow_le_pow_right
def Yd:=@BitVec.or_comm
def Ye:=@List.ext_getElem?
def Yu:=@List.filter_append
def Yv:=@Array.getElem?_setIfInBounds_self_of_lt
def Yx:=@Int.le_trans
def Yy:=@Nat.add_zero
def Y3:=@List.pairwise_append
def Y4:=@List.take_append_of_le_length
def Y5:=@Nat.mul_le_mul_right
def Y8:=@decide_eq_true_eq
def Va:=@Go.Sem.events_bind
def Vf:=@Nat.two_pow_add_eq_or_of_lt
def Vl:=@List.drop_length
def Vn:=@Array.ext_getElem?
def Vo:=@Bool.and_false
def Vp:=@List.set_cons_succ
def Vy:=@List.set_append_right
def Vz:=@List.singleton_append
def Wa:=@List.getElem?_append_left
def Wb:=@List.getElem?_eq_some_iff
def We:=@beq_false_of_ne
def Wi:=@List.flatMap_cons
def Wj:=@List.map_map
def Wk:=@List.pairwise_map
def Wr:=@Option.isSome_iff_exists
def Wz:=@List.flatMap_append
def CD:=@List.getElem_map
def Gt:=@Nat.add_sub_cancel_left
def DZ:=@BitVec.toNat_ofNat
def D1:=@List.set_cons_zero
def yQ:=@Nat.pow_succ
def CE:=@Nat.min_eq_left
def AJ:=@ByteArray.ext
def Gu:=@Array.mem_of_getElem?
def Gs:=@List.take_append_drop
def DY:=@List.nodup_append
def CI:=@Bool.false_and
def CJ:=@Go.DataW.trod_int
def KQ:=@List.getD_eq_getElem?_getD
def Gv:=@List.mem_of_mem_take
def Gw:=@List.replicate_succ'
def yR:=@Nat.mul_one
def D3:=@List.all_eq_true
def Gx:=@List.range'_succ
def AK:=@Nat.lt_or_ge
def D4:=@Option.bind_some
def AL:=@Go.wpList_plain
def CF:=@Bool.and_true
def KP:=@List.getElem_append_left
def CG:=@Nat.lt_irrefl
def D7:=@List.foldl_cons
def D8:=@List.nodup_cons
def D9:=@UInt8.toNat_inj
def Gz:=@List.getElem?_take
def yS:=@beq_iff_eq
def KX:=@List.pairwise_mergeSort
def KR:=@List.drop_eq_nil_of_le
def KT:=@List.flatMap_replicate
def Gy:=@List.foldl_append
def CK:=@List.map_nil
def KU:=@List.reverse_singleton
def KW:=@Nat.div_div_eq_div_mul
def D6:=@Nat.mul_le_mul
def KZ:=@Classical.choose_spec
def GB:=@Array.mem_append
def GC:=@List.filter_cons
def GD:=@List.mem_toArray
def GA:=@List.not_mem_nil
def D':=@Nat.add_assoc
def Ea:=@Prod.mk.injEq
def GE:=@Nat.sub_self
@[go_sem] abbrev zo(b:Nat):dL:=aR<|some ⟨b,0,ar⟩
@[go_sem] abbrev zk(b k:Nat):dL:=aR<|some ⟨b,k,ar⟩
@[go_sem] abbrev zi(n:Int):dL:=aH aU n
@[go_sem] abbrev zu(n:Int):dL:=aH bQ n
@[go_sem] abbrev zb(n:Int):dL:=aH .u8 n
abbrev Zl:=List UInt8
abbrev Zy:=cY
abbrev Zv:=dL
abbrev Zg:=cA
abbrev Zp:=bT
abbrev Z3:=BitVec 32
abbrev Za:=Array dL
abbrev Ze:=List dL
abbrev Zf:=fk
abbrev Zc:=Array jE
abbrev Zt:=nt
abbrev Zu:=Nat→UInt8
abbrev ZP:=Nat→Prop
abbrev Z8:=UInt8
@[go_sem] abbrev zq(b k:Nat):Go.Addr:=⟨b,k,ar⟩
def Qa:nW→nW
 |fO x _=>x|_=> .skip
def Qb:nW→nW
 |fO _ x=>x|_=> .skip
def Qc:nW→nW
 |.cond _ x _=>x|_=> .skip
def Qd:nW→nW
 |.cond _ _ x=>x|_=> .skip
def Qk:nW→nW
 |.block _ x=>x|_=> .skip
def Ql:nW→nW
 |.loop x=>x|_=> .skip
def Qf:Option nW→nW
 |some x=>x|_=> .skip
def Qn:Nat→nW→nW
 |0,c=>c|n+1,c=>Qb<|Qn n c
namespace A
open Go
section
def re(w:Zy)(t:Nat->Question->Nat)(d:Nat):Zy:={w with tape:=t,drawn:=d}
def rW{α:Type}:kg α->Zy
 | cT _ w=>w| eI _ w=>w
def ge{α:Type}(v:Zy):kg α->kg α
 | cT a _=>cT a v| eI h _=>eI h v
theorem yP(w t a d d'):re (re w t d) a d'=re w a d':=rfl
theorem DW(w):re w w.tape w.drawn=w:=rfl
def Cz{α:Type}(r:kg α):ge (rW r) r=r:=by cases r<;>rfl
def AH(w:Zy)(k:Nat)(t:Nat->Question->Nat)(d:Nat):Prop:=∀i q,i<k->t (d+i) q=w.tape (w.drawn+i) q
def AH.le{w k k' t d}(h:AH w k t d)(hk:k'<=k):AH w k' t d:=λi q a=>h i q À
def rq{α:Type}(w:Zy)(r:kg α)(run:Zy->kg α):Prop:=w.drawn<=(rW r).drawn/\(rW r).tape=w.tape/\
 ∀t d,AH w ((rW r).drawn-w.drawn) t d->run (re w t d)=ge (re (rW r) t<|d+((rW r).drawn-w.drawn)) r
def oY{α:Type}:kg α->Prop
 | cT _ _=>True| eI (.panic _) _=>True
 |_=>False
def Gg:Halt->Prop
 | .blocked| .waiting| .goexit| .fatal _| .throw _| .unsupported (.initOrder _)=>False
 |_=>True
def rs{α:Type}:kg α->Prop
 | cT _ _=>True| eI h _=>Gg h
def AG(P:Zp)(t:Zt):Bool:=match P.underlying t with
 |some (.chan _ _)=>ao|_=>aw
def yM(P:Zp)(b:Builtin)(ts:Array Zt):Bool:=match b with
 | .append| .clear| .copy| .delete| .max| .min| .panic| .recover| .unsafeSliceData| .unsafeString=>aw
 | .len| .cap=>match ts[0]?with
  |some u=>AG P u|none=>aw
 |_=>ao
def Wn(P:Zp):Target->Bool
 | .builtin b ts _ _=>yM P b ts| .coroexit _=>ao
 |_=>aw
def Ks(P:Zp)(src dst:Zt):Bool:=match P.underlying src,P.underlying dst with
 |some (.int _),ac (.int _)=>aw|some (.int _),ac lz=>aw
 |some lz,ac lz=>aw
 |some lz,ac (.slice e)=>match P.underlying e with
  |some (.int .u8)=>aw|_=>ao
 |some (.slice e),ac lz=>match P.underlying e with
  |some (.int .u8)=>aw|_=>ao
 |_,_=>ao
def CA(P:Zp)(c:Call):Bool:=match c.callee with
 | .builtin b=>yM P b c.argTypes|_=>aw
def sW(P:Zp)(o:Op):Bool:=match o with
 | .convert src dst _=>Ks P src dst| .call c| .defer c=>CA P c
 | .go _| .send ..| .recv ..| .select ..| .ready _| .waits _=>ao
 |_=>aw
def AD:Op->Bool
 | .defer _=>aw|_=>ao
def tW(P:Zp)(b:Bool)(ops:Array fj):Bool:=ops.all λo=>sW P o.op&&(b|| !AD o.op)
def q9(P:Zp)(b:Bool):nW->Bool
 | eU _ ops _=>tW P b ops| fO x y=>q9 P b x&&q9 P b y
 | .cond _ x y=>q9 P b x&&q9 P b y| .block _ x=>q9 P b x
 | .loop x=>q9 P b x| .scope x=>q9 P b x
 | .rangeFunc _ _ x y=>q9 P ao x&&q9 P ao y|_=>aw
structure iR(P:Zp)(o:Option Obj):Prop where
 iy:∀c e,o≠ac (.pending c e)
 rn:∀ds,o=ac (.deferred<|some ds)->∀d∈ds,Wn P d.target=aw
 pw:∀l,o=ac (.loop l)->q9 P ao l.assign=aw/\q9 P ao l.body=aw/\(∀c,l.pending=ac c->q9 P ao c=aw)/\P.inits.idxOf? l.fn=ar
theorem iR.kZ{P:Zp}:iR P ar:=⟨λ_ _ h=>Ê,λ_ h=>Ê,λ_ h=>Ê⟩
theorem iR.G{P c}{e:Zt}{f}:iR P<|some<|aq c e f:=⟨λ_ _ h=>Ê,λ_ h=>Ê,λ_ h=>Ê⟩
def DO:Obj->Bool
 | .chan ..| .loop _| .deferred _| .pending ..| .map ..=>aw
 |_=>ao
def Kw(o o':Obj):Prop:=(o.isChan=aw/\DO o'=aw)\/∃c e,o=aq #[] e (0,0)/\o'=aq c e (0,0)
structure ξ where
 N:Nat
 V:Nat->Option Obj
abbrev Pn:=Inhabited ξ
abbrev Pn.N[p:Pn]:Nat:=p.default.N
abbrev Pn.V[p:Pn]:Nat->Option Obj:=p.default.V
variable [pn:Pn]
def ϥ(X:ZP)(w v:Zy):Prop:=Pn.N<=ak w.heap/\∀r,X r->r<Pn.N->v.heap[r]?=Pn.V r\/v.heap[r]?=w.heap[r]?
structure Sm(P:Zp)(X:ZP)(w v:Zy):Prop where
 J:ak v.heap=ak w.heap
 out:∀r,¬X r->v.heap[r]?=w.heap[r]?
 iz:∀r,X r->∃o o',w.heap[r]?=ac o/\v.heap[r]?=ac o'/\Kw o o'
 pz:∀r:Nat,iR P w.heap[r]?
 ms:v.tape=w.tape
 fZ:v.drawn=w.drawn
 os:v.os=w.os
 cM:v.output=w.output
 pf:ϥ X w v
def sV(X:ZP)(n:Nat)(e:lh):Prop:=
 match e.loc with
 | kF a=>¬X a.block/\a.block<n| nG r=>(X r->e.write=ao)/\r<n
 | .mark .noRoom=>True| .mark (.extern _)=>True
 | .output=>True|_=>False
def sV.W{X n m e}(h:sV X n e)(a:n<=m):sV X m e:=by grind [sV]
structure CR{α:Type}(P:Zp)(X:ZP)(v:Zy)(es:Array lh)(r:kg α)(r2:kg α×Array lh)(v':Zy)(new:Array lh):Prop where
 eq:r2=(ge v' r,es++new)
 sm:Sm P X (rW r) v'
 iu:∀x,X x->v'.heap[x]?=v.heap[x]?
 qV:∀e∈new,sV X (ak v'.heap) e
 gE:ak v.heap<=ak v'.heap
structure Bl{α:Type}(P P':Zp)(X:ZP)(s:Sem α):Prop where
 lV:∀w v es,Sm P X w v->oY (s.run P' w)->∃v' new,CR P X v es (s.run P' w) (s.runT P v es) v' new
 mY:∀w,Sm P X w w->oY (s.run P' w)->rq w (s.run P' w) (s.run P')
 iO:∀w,Sm P X w w->rs (s.run P' w)
section
variable {α β:Type} {P P':bT} {X:Nat->Prop}
def Sm.iC{w v}(h:Sm P X w v):Sm P X w w:=⟨rfl,λ_ _=>rfl,λr d=>by obtain⟨o,i,a,f,⟨b,g⟩|⟨c,e,rfl,rfl⟩⟩:=h.iz r d;exact⟨o,o,a,a,aF ⟨b,by cases o<;>cases b;rfl⟩⟩;exact⟨_,_,a,a,aE ⟨_,_,rfl,rfl⟩⟩,h.pz,rfl,rfl,rfl,rfl,⟨h.pf.1,λ_ _ _=>aE rfl⟩⟩
def ϧ{s}{k:α->Sem β}(g:Bl P P' X s)(hk:∀a,Bl P P' X<|k a):Bl P P' X<|s.bind k:=by
 refine⟨λw v o f c=>?_,λw f c=>?_,λw f=>?_⟩;rotate_left 2;rw[qe P' s k w];have C:=g.iO w f;cases hq:s.run P' w with|halt hh w'=>rw[hq]at C;exact C|ok a w'=>obtain⟨n,b,r⟩:=g.lV w w #[] f ñ;rw[hq]at r;exact(hk a).iO w' r.sm.iC
 rw[qe P' s k w]at c⊢;rw[Yf P s k v o];cases hr:s.run P' w with
 |halt hh w'=>
  rw[hr]at c;obtain⟨n,b,h⟩:=g.lV w v o f ı;rw[hr]at h;refine⟨n,b,⟨?_,h.sm,h.iu,h.qV,h.gE⟩⟩;rw[h.eq];rfl
 |ok a w'=>rw[hr]at c;obtain⟨n,b,h⟩:=g.lV w v o f Ú;rw[hr]at h;obtain⟨B,y,j⟩:=(hk a).lV w' n (o++b) h.sm c;refine⟨B,b++y,⟨?_,j.sm,λx D=>(j.iu x D).trans<|h.iu x D, ?_,xa h.gE j.gE⟩⟩;rw[h.eq];show(k a).runT P n (o++b)=_;rw[j.eq,Xn];rfl;intro e F;obtain x|x:=GB.1 F;exact(h.qV e x).W j.gE;exact j.qV e x
 have E:=qe P' s k;unfold rq;simp only[E]at c⊢;cases hr:s.run P' w with
 |halt h w'=>
  rw[hr]at c;obtain⟨p,l,m⟩:=g.mY w f ĵ;rw[hr]at p l m;refine⟨p,l,λt d z=>?_⟩;rw[m t d z];rfl
 |ok a w'=>
  rw[hr]at c;obtain⟨p,l,m⟩:=g.mY w f Ú;rw[hr]at p l m;simp only[rW,ge]at p l m;obtain⟨n,b,r⟩:=g.lV w w #[] f Ú;rw[hr]at r;obtain⟨J,G,H⟩:=(hk a).mY w' r.sm.iC c;show w.drawn<=(rW<|(k a).run P' w').drawn/\(rW<|(k a).run P' w').tape=w.tape/\∀t d,AH w ((rW<|(k a).run P' w').drawn-w.drawn) t d->_=ge (re (rW<|(k a).run P' w') t<|d+((rW<|(k a).run P' w').drawn-w.drawn)) ((k a).run P' w');refine⟨À,G.trans l,λt d z=>?_⟩;rw[m t d<|z.le À];have:=H t (d+(w'.drawn-w.drawn)) (λi q I=>by
   have:=z (w'.drawn-w.drawn+i) q À
   grind)
  rw[show d+(w'.drawn-w.drawn)+((rW _).drawn-w'.drawn)=d+((rW<|(k a).run P' w').drawn-w.drawn) by omega]at this;exact this
theorem xH{s}{k:α->Sem β}(b:Bl P P' X s)(hk:∀a,Bl P P' X<|k a):Bl P P' X<|s>>=k:=ϧ b hk
def yN{s}(r:Zy->kg α)(j:∀w,rW (r w)=w)(i:∀w t d,r (re w t d)=ge (re w t d) (r w))(tm:∀w,rs<|r w)(c:∀w,s.run P' w=r w)
  (a:∀w v es,Sm P X w v->oY (r w)->∃new,s.runT P v es=(ge v<|r w,es++new)/\∀e∈new,sV X (ak v.heap) e):Bl P P' X s:=by
 refine⟨λw v es f b=>?_,λw f b=>?_,λw _=>Â⟩;rw[c]at b⊢;obtain⟨new,g,h⟩:=a w v es f b;exact⟨v,new,⟨g,Â,λ_ _=>rfl,h,zd _⟩⟩;grind [rq]
theorem W7(a):Bl P P' X (fX a:Sem α):=
 yN (λw=>cT a w) (λ_=>rfl) (λ_ _ _=>rfl) (λ_=>trivial) (λ_=>rfl) (λw v b _ _=>⟨#[],by simp[fX,eE,ge,-ey],Ä⟩)
def vX(h)(a:Gg h):Bl P P' X (Sem.halt h:Sem α):=
 yN (λw=>eI h w) (λ_=>rfl) (λ_ _ _=>rfl) (λ_=>a) (λ_=>rfl) (λw v b _ _=>⟨#[],by grind [eE,ge],Ä⟩)
theorem P8(m)(b:m= .noRoom\/∃f,m= .extern f):Bl P P' X<|mark m:=
 yN (λw=>cT () w) (λ_=>rfl) (λ_ _ _=>rfl) (λ_=>trivial) (λ_=>rfl) (λw v c _ _=>⟨#[⟨.mark m,ao,aw⟩],by simp[mark,eE,ge,-ey],λe a=>by simp at a;subst a;obtain rfl|⟨f,rfl⟩:=b<;>exact trivial⟩)
def Sm.ee{w v}(h:Sm P X w v)(a):aQ v a=aQ w a:=by
 unfold aQ;by_cases b:X a.block;obtain⟨o,j,d,f,⟨g,i⟩|⟨c,e,rfl,rfl⟩⟩:=h.iz _ b;rw[d,f];cases o<;>cases g
 cases j<;>cases i<;>rfl
 grind;rw[h.out _ b]
def ϖ(a):Bl P P' X<|Go.frozen a:=
 yN (λw=>cT (aQ w a) w) (λ_=>rfl) (λ_ _ _=>rfl) (λ_=>trivial) (λ_=>rfl) (λw v c b _=>⟨#[],by simp[lf,eE,ge,b.ee a,-ey],Ä⟩)
theorem Xq{k:Zp->Sem α}(h:k P=k P')(hk:Bl P P' X<|k P'):Bl P P' X<|program>>=k:=by
 have d:∀w,(oK>>=k).run P' w=(k P').run P' w:=λw=>rfl;have e:∀w a,(oK>>=k).runT P w a=(k P').runT P w a:=λw a=>Ë
 refine⟨λw v a b c=>?_,λw b c=>?_,λw b=>by rw[d];exact hk.iO w b⟩;rw[d]at c⊢;rw[e];exact hk.lV w v a b c;rw[d]at c;have:=hk.mY w b c;grind [rq]
def ϕ(q):Bl P P' X<|choose q:=by
 have run:∀p w,(choose q).run p w=if q.forced then cT 0 w else cT (q.cut<|w.tape w.drawn q) {w with drawn:=w.drawn+1}:=λp w=>Ä
 refine⟨λw v e a b=>?_,λw a b=>?_,λw _=>by rw[run];split<;>trivial⟩;rw[run];split;exact⟨v,#[],⟨by grind [choose,eE,ge],a,λ_ _=>rfl,Ä,zd _⟩⟩;refine⟨{v with drawn:=v.drawn+1},#[],⟨?_,⟨a.J,a.out,a.iz,a.pz,a.ms,by simp[rW,a.fZ],a.os,a.cM,a.pf⟩,λ_ _=>rfl,Ä,zd _⟩⟩;simp[choose,eE, *,ge,a.ms,a.fZ,-ey];unfold rq;simp only[run];split;grind [rW,ge];refine⟨by simp[rW],rfl,λt d c=>?_⟩;have:=c 0 q<|by simp[rW]
 grind [rW,ge,re]
theorem Sm.sU{w v}(h:Sm P X w v)(r)(a:X r):r<ak w.heap:=by obtain⟨o,d,b,c,_⟩:=h.iz r a;grind
def Sm.iB{w v}(h:Sm P X w v)(o)(ho:iR P<|some o):Sm P X {w with heap:=w.heap.push o} {v with heap:=v.heap.push o}:=by
 refine⟨ó,λr a=>?_,λr a=>?_,λr=>by
  rw[jb];split;exact ho;exact h.pz r,h.ms,h.fZ,h.os,h.cM,⟨by have:=h.pf.1;grind,λr a b=>by
  have:=h.sU r a;simp only[jb,h.J,show r≠ak w.heap by omega,if_false];exact h.pf.2 r a b⟩⟩
 simp[jb,h.J];split;rfl;exact h.out r a;have:=h.sU r a;simp only[jb,h.J,show r≠ak w.heap by omega,if_false];exact h.iz r a
def xxm(o)(ho:iR P<|some o):Bl P P' X<|newObj o:=by have run:∀p w,(newObj o).run p w=cT (ak w.heap) {w with heap:=w.heap.push o}:=λ_ _=>rfl;refine⟨λw v d a b=>?_,λw a b=>?_,λw _=>by rw[run];trivial⟩;rw[run];refine⟨{v with heap:=v.heap.push o},#[],⟨?_,a.iB o ho,λx c=>?_,Ä,Ä⟩⟩;simp[newObj,eE,ge,a.J,-ey];have:=a.sU x c;simp[jb,a.J,show x≠ak w.heap by omega,if_false];grind [rq,rW,ge,re]
def xF{w:Zy}{a x}(hx:ae w a=ac x):a.block<ak w.heap:=ģ
def Sm.i{w v}(h:Sm P X w v){a}(b:¬X a.block):ae v a=ae w a:=by simp[ae,h.out _ b]
def Sm.mZ{w v}(h:Sm P X w v){a}(d:X a.block):ae w a=ar/\(∀s,w.noCell a s=ia s)/\∀at_ u,w.heap[a.block]?≠ac (.view at_ u):=by
 obtain⟨o,j,f,g,⟨b,i⟩|⟨c,e,rfl,rfl⟩⟩:=h.iz _ d;cases o<;>cases b
 grind [ae,gR];grind [ae,gR]
def QJ{p}{w v:Zy}{at_}{u:Zt}{k b}(h:v.heap[at_.block]?=w.heap[at_.block]?):v.seen p at_ u k b=w.seen p at_ u k b:=by unfold oL;rw[h]
def φ{p}:∀(d:Nat) (t:Zt) (o:Nat) (x:Zv),plainCell p d t o=ac x->∃b bs,x.bytes?=ac (b::bs):=by
 intro d;induction d with
 |zero=>intro t o x h;cases h
 |succ d ih=>
  intro t o x h;unfold plainCell at h;split at h;obtain⟨f,a,c⟩:=Array.exists_of_findSome?_eq_some h;grind;grind;split at h<;>cases h;exact⟨_,_,rfl⟩
  split at h<;>cases h
  cases ‹IntKind›<;>exact⟨_,_,rfl⟩
  split at h<;>cases h
  cases ‹FloatKind›<;>exact⟨_,_,rfl⟩
  split at h<;>cases h
  cases ‹FloatKind›<;>exact⟨_,_,rfl⟩
  grind
def zsq{p}{e:Zt}{f x stop}(h:x<stop):∃why,seenCells p #[] e f x stop=lA why:=by cases f with|zero=>exact⟨_,rfl⟩|succ f=>unfold seenCells;rw[if_neg À];dsimp only;split;grind;split;grind;simp
def Sm.rp{w v}(h:Sm P X w v)(p){at_}(hx:X at_.block)(u:Zt)(k b):∃why,w.seen p at_ u k b=lA why:=by
 obtain⟨o,q,d,l,j⟩:=h.iz _ hx;unfold oL;simp only[lB,lj,fX,Except.pure,d];split;exact⟨_,rfl⟩;cases hl:plainCell p p.depth u k.off with
 |none=>exact⟨_,rfl⟩
 |some like=>
  obtain⟨y,a,i⟩:=φ _ _ _ _ hl;simp only[i,Xl];cases byteOfCell p p.depth u k.off with
  |none=>exact⟨_,rfl⟩
  |some β=>
   obtain⟨g,m⟩|⟨c,e,rfl,rfl⟩:=j;cases o<;>cases g
   exact⟨_,rfl⟩;dsimp only;split;exact⟨_,rfl⟩;split;rename_i b0 _;obtain⟨why,n⟩:=zsq (p:=p) (e:=e) (f:=aa (y::a)+1) (x:=at_.off/p.cellsOf e*p.bytesOf e+b0+β) (stop:=at_.off/p.cellsOf e*p.bytesOf e+b0+β+aa (y::a)) Ä;simp_all;exact⟨_,rfl⟩
structure xE(P P':Zp):Prop where
 gc:∀(w:Zy) at_ u k b,w.seen P' at_ u k b=w.seen P at_ u k b
 DL:∀u,tight P' P'.depth u=tight P P.depth u
def ω{p}{w:Zy}{at_}{u:Zt}{k b x l}(h:w.viewLoad p at_ u k b= .ok (x,l)):(∀y∈l,y.block=at_.block)/\at_.block<ak w.heap:=by
 unfold World.viewLoad at h;cases hs:w.seen p at_ u k b with
 |error e=>rw[hs]at h;cases h
 |ok s=>
  obtain⟨c,e,i,first,a,d⟩:=s;rw[hs]at h;simp only[lB,lj]at h;cases hv:Value.ofBytes a (d.flatMap λ(_,s,bs)=>(bs.drop (first-s)).take (first+((a.bytes?.map (aa ·)).getD 0)-max first s))with
  |none=>simp_all
  |some y=>
   simp only[hv]at h;cases h;refine⟨λy j=>?_, ?_⟩;grind
   ·apply jg;intro f;have g:w.heap[at_.block]?=ar:=Array.getElem?_eq_none À;unfold oL at hs;simp only[lB,lj,g]at hs;repeat' split at hs
    all_goals cases hs
end
end
section
variable [pn:Pn]
section
variable {α β:Type} {P P':bT} {X:Nat->Prop}
def xE.uR(K:xE P P'){w v:Zy}{at_}(h:v.heap[at_.block]?=w.heap[at_.block]?)(u:Zt)(k b):v.viewLoad P at_ u k b=w.viewLoad P' at_ u k b:=by unfold World.viewLoad;rw[K.gc,QJ h]
def Gn{p w}(a m):(mB a m).run p w=match ae w a with
  |some v=>cT v w
  |none=>match w.farLoad p a (m==fK)with
   | .ok (v,_)=>cT v w| lA h=>eI h w:=by
 grind [mB,fp]
def ϲ{p w}(a m es):(mB a m).runT p w es=match ae w a with
  |some v=>(cT v w,es.push ⟨kF a,ao,m==fK⟩)
  |none=>match w.farLoad p a (m==fK)with
   | .ok (v,touched)=>(cT v w,es++touched.toArray.map (⟨.cell ·,ao,m== .atomic⟩))| lA h=>(eI h w,es):=by
 grind [mB,eE]
def ϳ(a m p w t d):(mB a m).run p (re w t d)=ge (re w t d) ((mB a m).run p w)/\rW ((mB a m).run p w)=w:=by
 have e:ae (re w t d) a=ae w a:=rfl;have f:(re w t d).farLoad p a _=w.farLoad p a (m==fK):=rfl;unfold mB;simp only[fp,e,f];cases ae w a with
 |some x=>exact⟨rfl,rfl⟩
 |none=>cases w.farLoad p a _ with|ok x=>exact⟨rfl,rfl⟩|error x=>exact⟨rfl,rfl⟩
def ϱ(K:xE P P'){w v}(c:Sm P X w v)(a b){x l}(h:w.farLoad P' a b= .ok (x,l)):
  v.farLoad P a b= .ok (x,l)/\∀y∈l,¬X y.block/\y.block<ak v.heap:=by
 unfold lw at h⊢;by_cases g:X a.block;have m:=(c.mZ g).2.2;grind;rw[c.out _ g];cases ho:w.heap[a.block]?with
 |none=>grind
 |some o=>
  rw[ho]at h;cases o with
  |view at_ u=>
   simp only at h⊢;by_cases d:X at_.block;obtain⟨f,k⟩:=c.rp _ d u a b;have:w.viewLoad P' at_ u a b=lA f:=by unfold World.viewLoad;rw[k];rfl
   grind;rw[K.uR (c.out _ d) u a b];cases hl:w.viewLoad P' at_ u a b with
   |error z=>grind
   |ok z=>
    rw[hl]at h;cases h;obtain⟨i,j⟩:=ω hl;exact⟨rfl,λy e=>by rw[i y e];exact⟨d,by rw[c.J];exact j⟩⟩
  |_=>cases h
def xsb(K:xE P P')(a m):Bl P P' X<|Go.load a m:=by
 refine⟨λw v q d f=>?_,λw d f=>?_,λw d=>?_⟩;rotate_left 2;rw[Gn];have n:=(d.pz a.block).iy;cases hc:ae w a with
 |some x=>trivial
 |none=>
  cases b:w.farLoad P' a _ with
  |ok z=>trivial
  |error h=>
   unfold lw gR at b;cases ho:w.heap[a.block]?with
   |none=>rw[ho]at b;cases b;trivial
   |some o=>
    rw[ho]at b n;cases o with
    |view at_ u=>
     simp only at b;cases hl:w.viewLoad P' at_ u a (m==fK)with|ok z=>grind|error z=>rw[hl]at b;cases b;trivial
    |pending c e=>grind|_=>cases b;trivial
 rw[Gn]at f⊢;rw[ϲ];by_cases k:X a.block;exfalso;obtain⟨i,j,r⟩:=d.mZ k;have b:w.farLoad P' a (m==fK)=lA (ia "load: no such cell"):=by unfold lw;rw[j];split;grind;rfl
 rw[i,b]at f;exact f;rw[d.i k];cases hc:ae w a with
 |some x=>exact⟨v,#[⟨kF a,ao,m==fK⟩],⟨Ć,d,λ_ _=>rfl,λe g=>by simp at g;subst g;exact⟨k,by rw[d.J];exact xF hc⟩,zd _⟩⟩
 |none=>
  rw[hc]at f;cases b:w.farLoad P' a _ with
  |ok z=>
   obtain⟨x,l⟩:=z;obtain⟨i,j⟩:=ϱ K d a _ b;rw[i];refine⟨v,l.toArray.map (⟨.cell ·,ao,m== .atomic⟩),⟨Ć,d,λ_ _=>rfl,λe g=>?_,zd _⟩⟩;simp at g;obtain⟨y,p,rfl⟩:=g;exact j y p
  |error h=>
   rw[b]at f;exfalso;revert f;unfold lw gR at b;cases ho:w.heap[a.block]?with
   |none=>rw[ho]at b;cases b;exact id
   |some o=>
    rw[ho]at b;cases o with
    |view at_ u=>
     simp only at b;cases hl:w.viewLoad P' at_ u a (m==fK)with|ok z=>grind|error z=>rw[hl]at b;cases b;exact id
    |_=>cases b;exact id
 unfold rq;have:=ϳ a m P' w;rw[(this w.tape w.drawn).2];grind
theorem Sm.H{w v}(h:Sm P X w v){a}(d:¬X a.block)(x):Sm P X (ai w a x)<|ai v a x:=by
 refine⟨by simp[ai,h.J],λr c=>?_,λr c=>?_,λr=>?_,h.ms,h.fZ,h.os,h.cM,⟨by simp[ai,Array.size_modify];exact h.pf.1,λr c g=>by have b:a.block≠r:=λe=>d<|e▸c;simp only[ai,Jg,b,if_false];exact h.pf.2 r c g⟩⟩;simp[ai,Jg,h.out r c];have b:a.block≠r:=λe=>d<|e▸c;simp only[ai,Jg,b,if_false];exact h.iz r c;have f:=h.pz r;simp only[ai,Jg];split;cases ho:w.heap[r]?with
 |none=>grind
 |some o=>rw[ho]at f;cases o with|cells=>exact .G|_=>exact f
 omega
def ϴ{w:Zy}{a}(b:¬X a.block)(x r)(c:X r):(ai w a x).heap[r]?=w.heap[r]?:=by grind [ai]
theorem Sm.uS{w v}(h:Sm P X w v){r}(hx:¬X r)(o)(ho:iR P<|some o):Sm P X {w with heap:=ay w.heap r o} {v with heap:=ay v.heap r o}:=by
 refine⟨ó,λs b=>?_,λs b=>?_,λs=>?_,h.ms,h.fZ,h.os,h.cM,⟨by simp[J4];exact h.pf.1,λs b c=>by have a:r≠s:=λe=>hx<|e▸b;simp only[Xy,a,if_false];exact h.pf.2 s b c⟩⟩;simp[Xy,h.J,h.out s b];have a:r≠s:=λe=>hx<|e▸b;simp only[Xy,a,if_false];exact h.iz s b;show iR P (ay w.heap r o)[s]?;rw[Xy];repeat' split
 exact ho;exact .kZ;exact h.pz s
def QB{w:Zy}{r}(a:¬X r)(o s)(b:X s):(ay w.heap r o)[s]?=w.heap[s]?:=Â
def cN:Zv->Bool
 | bM _=>aw| bU _=>aw
 |_=>ao
theorem DV{p w}(a x m):(Go.store a x m).run p w=
  (if cN x then eI (ia "store: not the value of one cell") w else
  match ae w a with
  |some _=>if aQ w a then eI (.unsupported<|.unsafePointer "a write to bytes that a string shares") w else cT () (ai w a x)
  |none=>match w.farStore p a x (m==fK)with
   | .ok (w,_)=>cT () w| lA h=>eI h w:kg Unit):=by
 cases x<;>rfl
def Ϣ{p w}(a x m es):(Go.store a x m).runT p w es=
  (if cN x then(eI (ia "store: not the value of one cell") w,es)else
  match ae w a with
  |some _=>if aQ w a then(eI (.unsupported<|.unsafePointer "a write to bytes that a string shares") w,es)else(cT ()<|ai w a x,es.push ⟨kF a,aw,m==fK⟩)
  |none=>match w.farStore p a x (m==fK)with
   | .ok (w,touched)=>(cT () w,es++touched.toArray.map (⟨.cell ·,aw,m== .atomic⟩))| lA h=>(eI h w,es):kg Unit×Array lh):=by
 cases x<;>rfl
def ϒ{p}{w:Zy}{at_}{u:Zt}{k b c}{e:Zt}{fr first d a}
  (h:w.seen p at_ u k b= .ok (c,e,fr,first,d,a)):w.heap[at_.block]?=ac (aq c e fr):=by
 unfold oL at h;simp only[lB,lj,fX,Except.pure]at h;repeat' split at h
 all_goals cases h
 all_goals omega
def Kz(p)(w v:Zy)(at_)(u:Zt)(k x b)(i:v.heap[at_.block]?=w.heap[at_.block]?):
  (∃e,w.viewStore p at_ u k x b=lA e/\v.viewStore p at_ u k x b=lA e)\/
  (∃o l,w.viewStore p at_ u k x b= .ok ({w with heap:=ay w.heap at_.block o},l)/\v.viewStore p at_ u k x b= .ok ({v with heap:=ay v.heap at_.block o},l)/\(∀y∈l,y.block=at_.block)/\at_.block<ak w.heap/\∃c e f,o=aq c e f):=by
 unfold World.viewStore;rw[QJ i];cases htt:tight p p.depth u with
 |false=>exact aF ⟨_,rfl,rfl⟩
 |true=>
  cases hs:w.seen p at_ u k b with
  |error e=>exact aF ⟨e,rfl,rfl⟩
  |ok s=>
   obtain⟨c,e,j,first,d,cells⟩:=s;have g:=ϒ hs;cases hx:x.bytes? with
   |none=>exact aF ⟨_,rfl,rfl⟩
   |some bytes=>
    by_cases h:ac (aa bytes)=d.bytes?.map (aa ·);simp[Bool.not_true,ja,if_false,lB,lj,fX,Except.pure,ne_eq,h,not_true_eq_false];generalize hfd:List.foldlM (m:=Except String) _ c cells=R;cases R with|error e=>grind|ok c'=>grind
    refine aF ⟨ "memory seen as another type: a value of another size", ?_, ?_⟩<;>
    ·simp[Bool.not_true,ja,if_false,lB,lj,ne_eq,h,not_false_eq_true,if_true];rfl
def xE.tV(K:xE P P')(w:Zy)(at_)(u:Zt)(k x b):w.viewStore P' at_ u k x b=w.viewStore P at_ u k x b:=by unfold World.viewStore;rw[K.gc,K.DL]
def ϡ(K:xE P P'){w v}(d:Sm P X w v)(a x b){w' l}(h:w.farStore P' a x b= .ok (w',l)):
  ∃r o,¬X r/\(∃c e f,o=aq c e f)/\w'={w with heap:=ay w.heap r o}/\v.farStore P a x b= .ok ({v with heap:=ay v.heap r o},l)/\∀y∈l,y.block=r/\r<ak v.heap:=by
 unfold kQ at h⊢;by_cases m:X a.block;have z:=(d.mZ m).2.2;grind;rw[d.out _ m];cases ho:w.heap[a.block]?with
 |none=>grind
 |some o=>
  rw[ho]at h;cases o with
  |view at_ u=>
   simp only at h⊢;by_cases g:X at_.block;obtain⟨t,s⟩:=d.rp _ g u a b;exfalso;have:∃y,w.viewStore P' at_ u a x b=lA y:=by unfold World.viewStore;rw[s];cases tight P' P'.depth u<;>exact⟨_,rfl⟩
   grind;obtain⟨e,j,k⟩|⟨o,B,j,k,n,p,q⟩:=Kz P' w v at_ u a x b (d.out _ g);grind;rw[j]at h;cases h;refine⟨at_.block,o,g,q,rfl, ?_,λy i=>⟨n y i,by rw[d.J];exact p⟩⟩;rw[<-K.tV,k]
  |_=>cases h
theorem Qr{p w a x b h}(c:w.farStore p a x b=lA h):¬oY (eI h w:kg Unit):=by
 unfold kQ gR at c;cases ho:w.heap[a.block]?with
 |none=>rw[ho]at c;cases c;exact id
 |some o=>
  rw[ho]at c;cases o with
  |view at_ u=>
   simp only at c;cases hl:w.viewStore p at_ u a x b with|ok z=>grind|error z=>rw[hl]at c;cases c;exact id
  |_=>cases c;exact id
def Ϩ(K:xE P P')(a x m):Bl P P' X<|Go.store a x m:=by
 refine⟨λw v T g f=>?_,λw g f=>?_,λw g=>?_⟩;rotate_left 2;rw[DV];have N:=(g.pz a.block).iy;split;trivial;cases hc:ae w a with
 |some y=>dsimp only;split<;>trivial
 |none=>
  cases b:w.farStore P' a x _ with
  |ok z=>trivial
  |error h=>
   unfold kQ gR at b;cases ho:w.heap[a.block]?with
   |none=>rw[ho]at b;cases b;trivial
   |some o=>
    rw[ho]at b N;cases o with
    |view at_ u=>
     simp only at b;cases hl:w.viewStore P' at_ u a x (m==fK)with|ok z=>grind|error z=>rw[hl]at b;cases b;trivial
    |pending c e=>grind|_=>cases b;trivial
 rw[DV]at f⊢;rw[Ϣ];by_cases i:cN x=aw;rw[if_pos i]at f;exact f.elim;rw[if_neg i]at f⊢;rw[if_neg i];by_cases k:X a.block;exfalso;obtain⟨L,q,C⟩:=g.mZ k;have b:w.farStore P' a x (m==fK)=lA (ia "store: no such cell"):=by unfold kQ;rw[q];split;grind;rfl
 rw[L,b]at f;exact f;rw[g.i k];cases hc:ae w a with
 |some y=>
  rw[hc]at f;rw[g.ee a];cases hz:aQ w a with|true=>rw[hz]at f;exact f.elim|false=>refine⟨ai v a x,#[⟨kF a,aw,m==fK⟩],⟨Ć,g.H k x,λr p=>ϴ k x r p,λe j=>?_,Ä⟩⟩;simp at j;subst j;exact⟨k,by simp[ai,g.J];exact xF hc⟩
 |none=>rw[hc]at f;cases b:w.farStore P' a x (m==fK)with|error h=>grind [Qr]|ok z=>obtain⟨D,l⟩:=z;obtain⟨r,o,p,⟨E,F,G,rfl⟩,rfl,q,C⟩:=ϡ K g a x (m==fK) b;simp only[q];refine⟨{v with heap:=ay v.heap r<|aq E F G},l.toArray.map (⟨.cell ·,aw,m== .atomic⟩),⟨Ć,g.uS p _ .G,λs O=>QB p _ s O,λe j=>?_,Ä⟩⟩;simp at j;obtain⟨y,Q,rfl⟩:=j;obtain⟨n,B⟩:=C y Q;exact⟨Â,Â⟩
 unfold rq;rw[DV]at f⊢;by_cases i:cN x=aw;rw[if_pos i]at f;exact f.elim;rw[if_neg i]at f⊢;have M:∀t d,ae (re w t d) a=ae w a:=λ_ _=>rfl;have R:∀t d,aQ (re w t d) a=aQ w a:=λ_ _=>rfl;cases hc:ae w a with
 |some y=>grind [DV,rW,ge,re,ai]
 |none=>
  rw[hc]at f;cases b:w.farStore P' a x (m==fK)with
  |error h=>grind [Qr]
  |ok z=>
   obtain⟨D,l⟩:=z;have S:∃r o,D={w with heap:=ay w.heap r o}/\∀t d,(re w t d).farStore P' a x (m==fK)= .ok ({re w t d with heap:=ay w.heap r o},l):=by
    unfold kQ gR at b⊢;cases ho:w.heap[a.block]?with
    |none=>grind
    |some o=>
     rw[ho]at b;cases o with
     |view at_ u=>
      simp only at b;obtain⟨e,n,B⟩|⟨o,l',n,B,e3,e4,_⟩:=Kz P' w w at_ u a x (m==fK) rfl;grind;rw[n]at b;cases b;refine⟨at_.block,o,rfl,λt d=>?_⟩;rw[show(re w t d).heap=w.heap from rfl,ho];simp only;obtain⟨e,f1,f2⟩|⟨o',l'',f1,f2,f3,f4,_⟩:=Kz P' w (re w t d) at_ u a x (m==fK) rfl;grind;rw[f2];rw[n]at f1;have H:=(Prod.mk.inj<|Except.ok.inj f1).1;have I:=(Prod.mk.inj<|Except.ok.inj f1).2;have J:ay w.heap at_.block o=ay w.heap at_.block o':=congrArg World.heap H;rw[I,J];rfl
     |_=>cases b
   grind [DV,rW,ge,re]
def Yg(r p w):(lS r).run p w=match w.heap[r]?with
   |some (aq ..)=>eI (ia "getObj: a row of cells") w|some o=>cT o w
   |none=>eI (ia "getObj: no such block") w:=by
 grind [lS,fp]
def zzq(r p w es):(lS r).runT p w es=match w.heap[r]?with
   |some (aq ..)=>(eI (ia "getObj: a row of cells") w,es)|some o=>(cT o w,es.push ⟨nG r,ao,o.isChan⟩)
   |none=>(eI (ia "getObj: no such block") w,es):=by
 grind [lS,eE]
def xsa{r}{k:Obj->Sem β}(hk:∀o,¬X r->iR P (ac o)->Bl P P' X (k o))(hd:∀o,o.isChan=aw->∀w,¬oY ((k o).run P' w)/\rs ((k o).run P' w)):Bl P P' X<|getObj r>>=k:=by
 have m:∀w,(lS r>>=k).run P' w=((lS r).run P' w).andThen λo J=>(k o).run P' J:=λw=>qe P' _ _ w;have j:∀w,Sm P X w w->oY ((lS r>>=k).run P' w)->∃o,¬X r/\iR P (ac o)/\∀t d,(lS r>>=k).run P' _=(k o).run P' (re w t d):=λw g a=>by
  rw[m,Yg]at a;cases hw:w.heap[r]?with
  |none=>rw[hw]at a;exact a.elim
  |some o=>
   rw[hw]at a;have b:¬X r:=λb=>by
    obtain⟨p,I,i,B,⟨q,C⟩|⟨c,e,rfl,rfl⟩⟩:=g.iz _ b;rw[hw]at i;cases i;cases o<;>cases q
    exact(hd _ rfl _).1 a;rw[hw]at i;cases i;exact a
   refine⟨o,b,Ğ,λt d=>?_⟩;rw[m,Yg,show(re w t d).heap[r]?=w.heap[r]?from rfl,hw];cases o with|cells c e f=>exact a.elim|_=>rfl
 refine⟨λw v n g a=>?_,λw g a=>?_,λw g=>?_⟩;rotate_left 2;rw[m,Yg];cases hw:w.heap[r]?with
 |none=>trivial
 |some o=>
  by_cases D:o.isChan=aw;have:=(hd o D w).2;cases o<;>cases D
  exact this;have b:(∃c e f,o=aq c e f)\/¬X r:=by by_cases b:X r;obtain⟨p,I,i,B,⟨q,C⟩|⟨c,e,rfl,rfl⟩⟩:=g.iz _ b;grind;grind;grind
  obtain⟨c,e,f,rfl⟩|b:=b;trivial;have:=(hk o b Ğ).iO w g;cases o with|cells=>trivial|_=>exact this
 rw[m,Yg]at a⊢;rw[show(lS r>>=k).runT P v n=_ from Yf P _ _ v n,zzq];by_cases b:X r;exfalso;obtain⟨o,M,i,B,⟨q,C⟩|⟨c,e,rfl,rfl⟩⟩:=g.iz _ b;rw[i]at a;cases o<;>cases q
 exact(hd _ rfl _).1 a;rw[i]at a;exact a;rw[g.out r b];cases hw:w.heap[r]?with
 |none=>rw[hw]at a;exact a.elim
 |some o=>
  rw[hw]at a;have y:r<ak v.heap:=by rw[g.J];exact(za.1 hw).1
  have j:oY _->∃z l,CR P X v n _ ((k o).runT P v<|n.push ⟨nG r,ao,o.isChan⟩) z l:=λs=>by obtain⟨z,l,h⟩:=(hk o b Ğ).lV w v _ g s;refine⟨z,#[⟨nG r,ao,o.isChan⟩]++l,⟨by rw[h.eq];simp,h.sm,h.iu,λe F=>?_,h.gE⟩⟩;obtain x|x:=GB.1 F;simp at x;subst x;exact⟨λh=>absurd h b,zm y h.gE⟩;exact h.qV e x
  cases o with|cells _ _ _=>exact a.elim|_=>exact j a
 obtain⟨o,b,G,h⟩:=j w g a;have E:(lS r>>=k).run P' w=(k o).run P' w:=h w.tape w.drawn;rw[E]at a⊢;obtain⟨l1,H,L⟩:=(hk o b G).mY w g a;exact⟨l1,H,λt d K=>Â⟩
def ϗ(r o)(hx:¬X r)(ho:iR P<|some o):Bl P P' X<|setObj r o:=by
 have run:∀p w,(setObj r o).run p w=match w.heap[r]?with
   |some (aq ..)=>eI (ia "setObj: a row of cells") w|some _=>cT () {w with heap:=ay w.heap r o}
   |none=>eI (ia "setObj: no such block") w:=λp w=>by
  grind [setObj,fp]
 have runT:∀p w b,(setObj r o).runT p w b=match w.heap[r]?with
   |some (aq ..)=>(eI (ia "setObj: a row of cells") w,b)|some _=>(cT () {w with heap:=ay w.heap r o},b.push ⟨nG r,aw,o.isChan⟩)
   |none=>(eI (ia "setObj: no such block") w,b):=λp w b=>by
  grind [setObj,eE]
 refine⟨λw v b c f=>?_,λw c f=>?_,λw _=>by rw[run];cases w.heap[r]?with|none=>trivial|some q=>cases q<;>trivial⟩;rw[run]at f⊢;rw[runT];rw[c.out r hx];cases hw:w.heap[r]?with
 |none=>exact⟨v,#[],⟨Ć,c,λ_ _=>rfl,Ä,zd _⟩⟩
 |some q=>
  have i:r<ak v.heap:=by rw[c.J];exact(za.1 hw).1
  have d:∃v' new,CR P X v b (cT () {w with heap:=ay w.heap r o}) (cT () {v with heap:=ay v.heap r o},b.push ⟨nG r,aw,o.isChan⟩) v' new:=by refine⟨{v with heap:=ay v.heap r o},#[⟨nG r,aw,o.isChan⟩],⟨Ć,c.uS hx o ho,λs j=>QB hx o s j,λe g=>?_,Ä⟩⟩;simp at g;subst g;exact⟨λh=>absurd h hx,Â⟩
  cases q with|cells _ _ _=>exact⟨v,#[],⟨Ć,c,λ_ _=>rfl,Ä,zd _⟩⟩|_=>omega
 grind [rq,re,rW,ge]
end
end
section
variable {σ:Type}
def wf(P:Zp)(F:Zc):Zp:={P with funcs:=F}
section
variable {α β:Type} {P:bT} {F:Array jE} {X:Nat->Prop}
theorem AF(P F)(t:Zt):(wf P F).info? t=P.info? t:=rfl
theorem Yj(P F)(t:Zt):(wf P F).underlying t=P.underlying t:=rfl
theorem Vx(P F):(wf P F).depth=P.depth:=rfl
theorem Vw(P F)(t:Zt):(wf P F).cellsOf t=P.cellsOf t:=rfl
theorem uv(P F)(t:Zt):(wf P F).bytesOf t=P.bytesOf t:=rfl
def ϵ(P F):∀d t o,plainCell (wf P F) d t o=plainCell P d t o:=by intro d;induction d with|zero=>intros;rfl|succ d ih=>grind [plainCell,Yj,Vw]
theorem AB(P F):∀d t o,byteOfCell (wf P F) d t o=byteOfCell P d t o:=by intro d;induction d with|zero=>intros;rfl|succ d ih=>grind [byteOfCell,Yj,Vw,uv]
def ϑ(P F):∀d t o,cellHolding (wf P F) d t o=cellHolding P d t o:=by intro d;induction d with|zero=>intros;rfl|succ d ih=>grind [cellHolding,Yj,Vw,uv]
def xq2(P F):∀d t,tight (wf P F) d t=tight P d t:=by intro d;induction d with|zero=>intros;rfl|succ d ih=>grind [tight,Yj,uv]
def zxt(P F c)(e:Zt):∀f x s,seenCells (wf P F) c e f x s=seenCells P c e f x s:=by intro f;induction f with|zero=>intros;rfl|succ f ih=>intro x s;simp only[seenCells,ih,Vw,uv,ϑ,Vx]<;>rfl
def xvw(P F)(w:Zy)(a)(u:Zt)(k b):w.seen (wf P F) a u k b=w.seen P a u k b:=by simp only[oL,Vx,ϵ,AB,Vw,uv,zxt]<;>rfl
def Qi(P F):xE P<|wf P F:=⟨λw a u k b=>xvw P F w a u k b,λu=>xq2 P F _ u⟩
theorem Kv(P F)(t:Zt):(wf P F).underlyingId t=P.underlyingId t:=rfl
theorem Ku(P F):(wf P F).cutTypes=P.cutTypes:=rfl
theorem P5(P F):∀d t u,(wf P F).alikeButTags d t u=P.alikeButTags d t u:=by intro d;induction d with|zero=>intros;rfl|succ d ih=>intro t u;simp only[Program.alikeButTags,ih,AF]
theorem Ϧ(P F c):(wf P F).ownRow c=P.ownRow c:=by unfold Program.ownRow;simp only[AF,Yj,Ku]
theorem Qm(P F)(t:Zt):(wf P F).packed t=P.packed t:=by grind [Program.packed,Program.packedAs,AF,Yj,Ku,Ϧ,P5,Kv,Vx]
theorem xG(P F)(t:Zt):(wf P F).stoodInHeld t=P.stoodInHeld t:=by grind [Program.stoodInHeld,Program.stoodInAs,AF,Yj,Ku,P5,Kv,Vx]
theorem Cw(P F):∀d t,(wf P F).holdsPacked d t=P.holdsPacked d t:=by intro d;induction d with|zero=>intros;rfl|succ d ih=>grind [Program.holdsPacked,Yj,Qm]
theorem Cv(P F):∀d t,(wf P F).eqGuardType d t=P.eqGuardType d t:=by intro d;induction d with|zero=>intros;rfl|succ d ih=>grind [Program.eqGuardType,Yj]
variable [pn:A.Pn]
abbrev B(P:Zp)(F:Zc)(X:ZP)(s:Sem α):Prop:=Bl P (wf P F) X s
theorem xq{s}{k:α->Sem β}(b:B P F X s)(hk:∀a,B P F X<|k a):B P F X<|s>>=k:=xH b hk
theorem xr(a):B P F X (fX a:Sem α):=W7 a
theorem Qj{s}(f:α->β)(b:B P F X s):B P F X<|Functor.map f s:=xH (k:=λa=>fX<|f a) b λa=>W7 _
def oF{c:Prop}[Decidable c]{s t:Sem α}(a:B P F X s)(b:B P F X t):B P F X (if c then s else t):=Â
theorem xz(a):B P F X (stuck a:Sem α):=vX _ trivial
def Yb(u)(h:Gg<|.unsupported u):B P F X (unsupported u:Sem α):=vX _ h
theorem P7(v):B P F X (goPanic v:Sem α):=vX _ trivial
def Ko(a m):B P F X<|Go.load a m:=xsb (Qi P F) a m
def xr5(a v m):B P F X<|Go.store a v m:=Ϩ (Qi P F) a v m
theorem xI(o)(ho:iR P<|some o):B P F X<|newObj o:=xxm o ho
def yO{r}{k:Obj->Sem β}(hk:∀o,¬X r->iR P (ac o)->B P F X (k o))(hd:∀o,o.isChan=aw->∀w,¬oY ((k o).run (wf P F) w)/\rs ((k o).run (wf P F) w)):B P F X<|getObj r>>=k:=xsa hk hd
def AI(r o)(hx:¬X r)(ho:iR P<|some o):B P F X<|setObj r o:=ϗ r o hx ho
theorem Vr(q):B P F X<|choose q:=ϕ q
def ϫ(a):B P F X<|Go.frozen a:=ϖ a
def Kr(n):B P F X<|askRoom n:=by grind [askRoom,P8,W7]
def vY(t:Zt):B P F X<|typeInfo t:=by unfold typeInfo;refine Xq rfl ?_;split;exact W7 _;exact vX _ trivial
theorem Yz(t:Zt):B P F X<|underlying t:=by unfold eu;refine Xq rfl ?_;split;exact W7 _;exact vX _ trivial
theorem KI:LawfulMonad Sem:=LawfulMonad.mk' _ (λx=>Ä)
 (λ_ _=>rfl)
 (λx f g=>Ä)
theorem Qg(l:List α)(f:α->σ->Sem (ForInStep σ))(b:∀a s,B P F X<|f a s):∀init,B P F X<|forIn l init f:=by induction l with|nil=>grind [W7]|cons a l ih=>grind [xH,W7]
def DX(l:Array α)(f)(c:∀a s,B P F X<|f a s)(b:σ):B P F X<|forIn l b f:=by rw[<-Array.forIn_toList];exact Qg _ f c b
def KN(l:Std.Legacy.Range)(f)(c:∀a s,B P F X<|f a s)(b:σ):B P F X<|forIn l b f:=by grind [Std.Legacy.Range.forIn_eq_forIn_range',Qg]
def KO(f)(b:∀a s,B P F X<|f a s):∀(l:List α) (init:σ),B P F X (l.foldlM f init)
 |[],init=>W7 _|a::l,init=>by rw[List.foldlM_cons];exact xH (b _ _) λs=>KO f b l s
theorem P6(f:α->Sem β)(c:∀a,B P F X<|f a):∀l:List α,B P F X (l.mapM f)
 |[]=>by grind [W7]|a::l=>by rw[List.mapM_cons];exact xH (c a) λb=>xH (P6 f c l) λd=>W7 _
def QL(f:α->Sem β)(b:∀a,B P F X<|f a)(l:Array α):B P F X<|l.mapM f:=by grind [Array.mapM_eq_mapM_toList,Qj,P6]
end
end
section
variable [pn:Pn]
section
variable {α β:Type} {P:bT} {F:Array jE} {X:Nat->Prop}
def Qh{γ:Type}(r:Nat){s}(f:Obj->Option γ)(y:∀o,(∀a t,o≠ .view a t)->(∀a t,o≠ .number a t)->f o=ar)
  (n:∀p w,s.run p w=match w.heap[r]?with
   |some o=>cT (f o) w|none=>eI (ia "getObj: no such block") w)
  (k:∀p w es,s.runT p w es=match w.heap[r]?with
   |some (aq c e g)=>(cT (f<|aq c e g) w,es)
   |some o=>(cT (f o) w,es.push ⟨nG r,ao,o.isChan⟩)|none=>(eI (ia "getObj: no such block") w,es)):B P F X s:=by
 refine yN (λw=>match w.heap[r]?with
   |some o=>cT (f o) w|none=>eI (ia "getObj: no such block") w) (λw=>?_) (λw t d=>?_) (λw=>?_) (n _) λw v es m x=>?_
 cases w.heap[r]?<;>rfl
 rw[show(re w t d).heap[r]?=w.heap[r]?from rfl];cases w.heap[r]?<;>rfl
 cases w.heap[r]?<;>trivial
 rw[k];by_cases z:X r;obtain⟨o,E,q,l,⟨C,D⟩|⟨c,e,rfl,rfl⟩⟩:=m.iz _ z;have i:r<ak v.heap:=(za.1 l).1;rw[q,l];cases o<;>cases C
 cases E<;>cases D<;>exact⟨#[⟨nG r,ao,_⟩],by simp[ge,oP,y];rfl,λe j=>Į⟩
 rw[q,l];exact⟨#[],by simp[ge,y],Ä⟩;rw[m.out r z];cases hw:w.heap[r]?with
 |none=>rw[hw]at x;exact x.elim
 |some o=>
  have i:r<ak v.heap:=by rw[m.J];exact(za.1 hw).1
  have h:∀b,∀e∈#[(⟨nG r,ao,b⟩:lh)],sV X (ak v.heap) e:=λb e j=>Į
  cases o with
  |cells c e g=>exact⟨#[],Ć,Ä⟩|chan a b c d e g=>exact⟨#[⟨nG r,ao,aw⟩],by simp[ge,oP],h _⟩
  |_=>exact⟨#[⟨nG r,ao,ao⟩],by simp[ge,oP],h _⟩
def KL(r):B P F X<|viewAt r:=by refine Qh r (λ| .view a t=>ac (a,t)|_=>ar) (λo c d=>Â) (λp w=>?_) (λp w b=>?_)<;>cases h:w.heap[r]?with|none=>simp[viewAt,kz,lS,lB,fw,fp,eE,dD,h,-ey]|some o=>cases o<;>simp[viewAt,kz,lS,lB,fw,fp,eE,dD,h,fX,oP,-ey]
def QF(r):B P F X<|numberAt r:=by refine Qh r (λ| .number a t=>ac (a,t)|_=>ar) (λo c d=>Â) (λp w=>?_) (λp w b=>?_)<;>cases h:w.heap[r]?with|none=>simp[numberAt,kz,lS,lB,fw,fp,eE,dD,h,-ey]|some o=>cases o<;>simp[numberAt,kz,lS,lB,fw,fp,eE,dD,h,fX,oP,-ey]
def eX(w:Zy)(a:Addr):Bool:=aQ w a||(match w.shape? a.block with
 |some (_,n)=>aQ w {block:=a.block,off:=n}|none=>ao)
theorem Sm.eX{w v:Zy}(h:Sm P X w v)(a:Addr):eX v a=eX w a:=by
 unfold A.eX;rw[h.ee a];by_cases b:X a.block;obtain⟨o,j,d,f,⟨g,i⟩|⟨c,e,rfl,rfl⟩⟩:=h.iz _ b;cases o<;>cases g
 cases j<;>cases i<;>simp[dD,aQ,d,f]
 grind [aQ];simp only[dD,aQ,h.out _ b]
theorem KC{w v}(h:Sm P X w v)(a)(hx:X a.block):eX w a=ao:=by
 obtain⟨o,i,d,f,⟨b,g⟩|⟨c,e,rfl,rfl⟩⟩:=h.iz _ hx;cases o<;>cases b
 grind [eX,aQ];grind [eX,aQ]
def ztu(a p w):(lu a).run p w=cT (eX w a) w:=by
 cases h1:aQ w a with
 |true=>simp[lu,lf,lB,fw,fp,eX,h1,fX]
 |false=>cases h2:w.shape? a.block with|none=>simp[lu,lf,kz,lB,fw,fp,eX,h1,h2,fX]|some x=>obtain⟨e,n⟩:=x;simp[lu,lf,kz,lB,fw,fp,eX,h1,h2]
def zs3(a p w es):(lu a).runT p w es=(cT (eX w a) w,es):=by
 cases h1:aQ w a with
 |true=>simp[lu,lf,lB,fw,eE,eX,h1,fX,-ey]
 |false=>cases h2:w.shape? a.block with|none=>simp[lu,lf,kz,lB,fw,eE,eX,h1,h2,fX,-ey]|some x=>obtain⟨e,n⟩:=x;simp[lu,lf,kz,lB,fw,eE,eX,h1,h2,-ey]
def ύ(a b):B P F X<|mayBeOne a b:=by
 have i:∀p w,(mayBeOne a b).run p w=cT ((eX w a&&eX w b)||(eX w a&&(w.shape? a.block matches ac (_,0)))||(eX w b&&(w.shape? b.block matches ac (_,0)))) w:=λp w=>by simp only[mayBeOne,lB,qe,ztu,kz,fp,fX];rfl
 have e:∀p w f,(mayBeOne a b).runT p w f=(cT ((eX w a&&eX w b)||(eX w a&&(w.shape? a.block matches ac (_,0)))||(eX w b&&(w.shape? b.block matches ac (_,0)))) w,f):=λp w f=>by simp only[mayBeOne,lB,Yf,zs3,kz,eE,fX];rfl
 refine yN _ (λw=>rfl) (λw t d=>rfl) (λw=>?_) (i _) λw v f c j=>⟨#[], ?_,Ä⟩;trivial;rw[e,c.eX a,c.eX b];simp only[ge,Array.append_empty,Ea,Result.ok.injEq,and_true];by_cases h:X a.block;rw[KC c a h];by_cases g:X b.block;grind [KC];simp only[dD,c.out _ g,CI];by_cases g:X b.block;rw[KC c b g];simp only[dD,c.out _ h,CI,Vo];simp only[dD,c.out _ h,c.out _ g]
theorem QO{r}{k:Option (Zt×Nat)->Sem β}(hk:∀s,B P F X<|k s)(q:∀e n m,k (ac (e,n))=k (ac (e,m))):B P F X<|shape r>>=k:=by
 have b:∀w v:Zy,Sm P X w v->k (v.shape? r)=k (w.shape? r):=λw v a=>by
  by_cases f:X r;obtain⟨o,p,h,i,⟨j,l⟩|⟨c,e,rfl,rfl⟩⟩:=a.iz _ f;cases o<;>cases j
  cases p<;>cases l<;>simp[dD,h,i]
  grind [dD];simp only[dD,a.out _ f]
 refine⟨λw v g a d=>?_,λw a d=>?_,λw a=>(hk<|w.shape? r).iO w a⟩;have:=(hk<|w.shape? r).lV w v g a d;rw[<-b w v a]at this;have e:(kz r>>=k).run (wf P F) w=(k<|v.shape? r).run (wf P F) w:=by rw[b w v a];rfl
 simp_all;exact(hk<|w.shape? r).mY w a d
def Gp{s:Sem α}(h:∀w,¬oY (s.run (wf P F) w)/\rs (s.run (wf P F) w)):B P F X s:=⟨λw v b _ a=>absurd a (h w).1,λw _ a=>absurd a (h w).1,λw _=>(h w).2⟩
def ϰ{k:α->Sem β}(a):B P F X<|(stuck a:Sem α)>>=k:=Gp λw=>⟨id,trivial⟩
def Qo(t:Zt)(p w):(eu t).run p w=match p.underlying t with
  |some d=>cT d w|none=>eI (ia "no such type") w:=by
 show(match p.underlying t with
  |some d=>(fX d:Sem TypeDesc)|none=>stuck "no such type").run p w=_
 cases p.underlying t<;>rfl
def zpu(t:Zt)(p w es):(eu t).runT p w es=match p.underlying t with
  |some d=>(cT d w,es)|none=>(eI (ia "no such type") w,es):=by
 show(match p.underlying t with
  |some d=>(fX d:Sem TypeDesc)|none=>stuck "no such type").runT p w es=_
 cases p.underlying t<;>rfl
theorem DU{t:Zt}{k:TypeDesc->Sem β}(hk:∀u,P.underlying t=ac u->B P F X (k u)):B P F X<|underlying t>>=k:=by
 cases h:P.underlying t with
 |none=>
  refine Gp λw=>?_;have e:(eu t>>=k).run (wf P F) w=eI (ia "no such type") w:=by rw[show(eu t>>=k).run (wf P F) w=_ from qe _ _ _ w,Qo,show(wf P F).underlying t=ar from h];rfl
  rw[e];exact⟨id,trivial⟩
 |some u=>
  have d:∀w,(eu t>>=k).run (wf P F) w=(k u).run (wf P F) w:=λw=>by rw[show(eu t>>=k).run (wf P F) w=_ from qe _ _ _ w,Qo,show(wf P F).underlying t=ac u from h];rfl
  have f:∀w a,(eu t>>=k).runT P w a=(k u).runT P w a:=λw a=>by rw[show(eu t>>=k).runT P w a=_ from Yf _ _ _ w a,zpu,h]
  refine⟨λw v a b c=>?_,λw b c=>?_,λw b=>by rw[d];exact(hk u h).iO w b⟩;rw[d]at c⊢;rw[f];exact(hk u h).lV w v a b c;rw[d]at c;have:=(hk u h).mY w b c;grind [rq]
end
section
variable {α β:Type} {P:bT} {F:Array jE} {X:Nat->Prop}
attribute [local simp] Cw xG Cv Vx Vw uv AB
def QD(a):∀(n i:Nat) (acc:Za),B P F X (loadCellsFrom a i n acc)
 |0,i,acc=>W7 _|n+1,i,acc=>xH (Ko _ _) λv=>QD a n (i+1) _
def Gj(a):∀(vs:Ze) (i:Nat),B P F X (storeCells a vs i)
 |[],i=>by grind [storeCells,W7]|v::vs,i=>by unfold storeCells;exact xH (xr5 _ _ _) λ_=>Gj a vs<|i+1
def Ϯ(t:Zt)(x):B P F X<|Instr.range t x:=by
 refine DU λd hd=>?_
 haveI:=KI
 simp only[pure_bind];repeat' (first|(with_reducible exact ϰ _)|((with_reducible apply xI _);next=>(refine⟨λc e h=>?_,λb h=>?_,λl h=>?_⟩<;>cases h<;>simp))|((with_reducible refine yO (λ_ _ _=>?_) ?_);rotate_left;next=>(intro o a w;cases o<;>first|(cases a;done)|exact⟨id,trivial⟩))|(with_reducible first|refine xq ?_ (λ_=>?_)|exact xr _)|split)
def KE{l}{k:Loop->Sem β}(hk:∀r,¬X l->iR P (ac<|.loop r)->B P F X (k r)):B P F X<|Instr.getLoop l>>=k:=by
 haveI:=KI
 unfold Instr.getLoop;rw[bind_assoc];refine yO (λo b a=>?_) λo a w=>?_;split;grind;exact Gp λw=>⟨id,trivial⟩;cases o<;>first|(cases a;done)|exact⟨id,trivial⟩
def iR.yL{r}(h:iR P<|some<|.loop r)(s):iR P<|some<|.loop {r with state:=s}:=
 ⟨λc f e=>Ç,λa e=>Ç,λl e=>(by cases e;exact h.pw r rfl)⟩
def ό(l j)(b:∀c,j=ac c->q9 P ao c=aw):B P F X<|Instr.endRound l j:=by refine KE λr d a=>xq (AI _ _ d ⟨λc f e=>Ç,λg e=>Ç,λl e=>(by cases e;exact⟨(a.pw r rfl).1,(a.pw r rfl).2.1,b,(a.pw r rfl).c⟩)⟩) λ_=>xr _
def ig:(∀(t:Zt),B P F X<|sizeOf t)/\(∀(t:Zt),B P F X<|zeroValue t)/\(∀(e:Zt) (c:Za),B P F X<|newRow e c)/\(∀(v:Zv),B P F X<|Instr.sureAddr v)/\(∀(k:IntKind) (x:Int),B P F X<|Conv.intToInt k x)/\(∀(x:Int),B P F X<|Conv.intToString x)/\(∀(a:Addr) (n:Nat),B P F X<|loadCells a n)/\(∀(v:Zv),B P F X<|asIntOf v)/\(∀(v:Zv),B P F X<|asBool v)/\(∀(e:Zt),B P F X<|elemOf e)/\(∀(op:BinOp) (x y:ByteArray),B P F X<|Op.stringOp op x y)/\(∀(a:Addr),B P F X<|behindNumber a)/\(∀(t:Zt),B P F X<|typeStr t)/\(∀(t:Zt),B P F X<|isAgg t)/\(∀(op:BinOp) (k:IntKind) (x y:Int),B P F X<|Op.intArith op k x y)/\(∀(op:BinOp) (k:IntKind) (x y:Int),B P F X<|Op.intBits op k x y)/\(∀(x:Zv),B P F X<|Builtin.lenOf x)/\(∀(a:Addr),B P F X<|noView a)/\(∀(a b:Zv),B P F X<|Instr.keyThatStays a b)/\(∀(l:Nat),B P F X<|Instr.getLoop l)/\(∀(v:Zv),B P F X<|asAgg v)/\(∀(op:BinOp) (x y:Int),B P F X<|Op.intCmp op x y)/\(∀(x:Zv),B P F X<|Instr.entry x)/\(∀(x:Zv) (i:Nat),B P F X<|Instr.extract x i)/\(∀(f:Fn) (a c:Za),B P F X<|Instr.makeFunc f a c)/\(∀(t:Zt) (x:Zv),B P F X<|Instr.makeInterface t x)/\(∀(it:Zv) (s:Bool) (t:Zt),B P F X<|Instr.next it s t)/\(∀(l:Nat),B P F X<|Instr.takeDeferred l)/\(∀(v:Zv),B P F X<|asString v):=by refine⟨?_, ?_, ?_, ?_, ?_, ?_, ?_, ?_, ?_, ?_, ?_, ?_, ?_, ?_, ?_, ?_, ?_, ?_, ?_, ?_, ?_, ?_, ?_, ?_, ?_, ?_, ?_, ?_, ?_⟩<;>intros<;>(first|unfold sizeOf|unfold zeroValue|unfold newRow|unfold Instr.sureAddr|unfold Conv.intToInt|unfold Conv.intToString|unfold loadCells|unfold asIntOf|unfold asBool|unfold elemOf|unfold Op.stringOp|unfold behindNumber|unfold typeStr|unfold isAgg|unfold Op.intArith|unfold Op.intBits|unfold Builtin.lenOf|unfold noView|unfold kY|unfold Instr.getLoop|unfold asAgg|unfold Op.intCmp|unfold Instr.entry|unfold Instr.extract|unfold Instr.makeFunc|unfold Instr.makeInterface|unfold Instr.next|unfold eB|unfold asString)<;>repeat' (first|((with_reducible apply Yb _);next=>(exact trivial))|((with_reducible apply xI _);next=>(refine⟨λc e h=>?_,λd h=>?_,λl h=>?_⟩<;>cases h<;>simp))|((with_reducible refine yO (λ_ _ _=>?_) ?_);rotate_left;next=>(intro o g w;cases o<;>first|(cases g;done)|exact⟨id,trivial⟩))|((with_reducible apply AI _ _ ‹_›);next=>(refine⟨λc e h=>?_,λd h=>?_,λl h=>?_⟩<;>cases h<;>simp))|(with_reducible first|refine xq ?_ (λ_=>?_)|exact xr _|exact vY _|exact xz _|exact QD _ _ _ _|exact Yz _|refine oF ?_ ?_|exact QF _|exact KL _|exact Vr _)|split)
def Gk(a):B P F X<|byteOf a:=by unfold byteOf;split;exact W7 _;refine Xq ?_ ?_;simp;refine xq (ig.j.j.2.1 a) λ_=>?_;grind [QO,xr,xz]
def KB(fn g f a b r)(m:q9 P ao a=aw)(n:q9 P ao b=aw)(j:P.inits.idxOf? fn=ar):B P F X<|Instr.enterLoop fn g f a b r:=by unfold ez;have k:∀d,iR P<|some<|.loop {state:= .ready,pending:=ar,fn:=fn,tmps:=g,params:=f,assign:=a,body:=b,defers:=d}:=λd=>⟨λc e h=>Ê,λi h=>Ê,λl h=>Â⟩;repeat' (first|(exact xI _<|k _)|((with_reducible apply xI _);next=>(refine⟨λc e h=>?_,λi h=>?_,λl h=>?_⟩<;>cases h<;>simp))|(with_reducible first|refine xq ?_ (λ_=>?_)|exact ig.j.j.c.1 _|exact xr _)|split)
def mE:(∀(t:Zt) (cs:Za) (off:Nat),B P F X<|part t cs off)/\(∀(v:Zv),B P F X<|asInt v)/\(∀(x:Zv),B P F X<|Conv.bytesToString x)/\(∀(t:Zt) (a:Addr),B P F X<|loadVar t a)/\(∀(e:Zt) (c:Zv),B P F X<|newVar e c)/\(∀(t:Zt) (a:Addr) (v:Zv),B P F X<|storeVar t a v)/\(∀(s n:Nat) (x:Zv),B P F X<|Builtin.firstCells s n x)/\(∀(a b:Addr),B P F X<|sameAddr a b)/\(∀(op:UnOp) (x:Zv),B P F X<|Op.unary op x)/\(∀(a:Addr) (c b:Nat),B P F X<|partAt a c b)/\(∀(t:Zt) (ps:Array<|Nat×Zv),B P F X<|Instr.build t ps)/\(∀(t:Zt) (n:Nat) (ps:Array<|Nat×Zv),B P F X<|Instr.buildSlice t n ps)/\(∀(l:Nat) (a:Za),B P F X<|Instr.yield l a)/\(∀(ts:Array Zt) (t:Zt) (a:Za),B P F X<|Builtin.clear_ ts t a)/\(∀(x y:Zv),B P F X<|Builtin.max2 x y)/\(∀(x y:Zv),B P F X<|Builtin.min2 x y):=by refine⟨?_, ?_, ?_, ?_, ?_, ?_, ?_, ?_, ?_, ?_, ?_, ?_, ?_, ?_, ?_, ?_⟩<;>intros<;>(first|unfold part|unfold asInt|unfold Conv.bytesToString|unfold loadVar|unfold newVar|unfold storeVar|unfold Builtin.firstCells|unfold sameAddr|unfold Op.unary|unfold partAt|unfold Instr.build|unfold Instr.buildSlice|unfold Instr.yield|unfold Builtin.clear_|unfold Builtin.max2|unfold Builtin.min2)<;>repeat' (first|((with_reducible apply Yb _);next=>(exact trivial))|((with_reducible apply AI _ _ ‹_›);next=>(refine⟨λc e h=>?_,λf h=>?_,λl h=>?_⟩<;>cases h<;>simp))|((with_reducible refine yO (λ_ _ _=>?_) ?_);rotate_left;next=>(intro o d w;cases o<;>first|(cases d;done)|exact⟨id,trivial⟩))|(with_reducible first|refine xq ?_ (λ_=>?_)|refine oF ?_ ?_|exact ig.j.e.1 _|exact ig.1 _|exact xr _|exact xz _|exact ig.g.1 _|exact ig.f.1 _ _|refine DX _ _ (λ_ _=>?_) _|exact Ko _ _|exact ig.2.2.1 _ _|exact Gj _ _ _|exact ig.j.j.2.1 _|exact ύ _ _|exact Vr _|exact ϫ _|exact ig.j.g.1 _ _ _ _|exact ig.j.f.1 _ _ _ _|exact Gk _|exact ig.2.1 _|exact Yz _|refine QL _ (λ_=>?_) _|exact ig.j.j.c.1 _|exact ig.j.2.2.1 _ _ _|exact ig.j.1 _)|split|(dsimp only))
theorem qW(e):B P F X (runtimePanic e:Sem α):=by refine Xq rfl ?_;repeat' (first|(with_reducible first|refine xq ?_ (λ_=>?_)|exact ig.j.2.1 _|exact mE.d.1 _ _|exact P7 _)|split)
def zyp:∀(d:Nat) (t:Zt) (x y:Zv),B P F X<|Op.eqGuardIn d t x y:=by intro d;induction d with|zero=>intro t x y;exact vX _ trivial|succ d ih=>intro t x y;unfold Op.eqGuardIn;repeat' (first|(with_reducible first|refine xq ?_ (λ_=>?_)|refine oF ?_ ?_|exact ih _ _ _|exact mE.1 _ _ _|exact ig.1 _|exact xr _|exact Yz _|refine KN _ _ (λ_ _=>?_) _|refine DX _ _ (λ_ _=>?_) _)|split|(dsimp only))
theorem τ(b)(t:Zt)(a):B P F X<|Builtin.max_ b t a:=by unfold Builtin.max_;split;exact vX _ trivial;exact KO _ (λ_ _=>mE.j.f.1 _ _) _ _
theorem υ(b)(t:Zt)(a):B P F X<|Builtin.min_ b t a:=by unfold Builtin.min_;split;exact vX _ trivial;exact KO _ (λ_ _=>mE.j.g _ _) _ _
def Ϫ(k x y c):B P F X (boundsPanic k x y c:Sem α):=by grind [boundsPanic,xq,qW,Vr,Qj]
def ϊ(e):∀(n:Nat) (t:Zt) (v:Zv),B P F X<|Instr.checkKey e n t v:=by intro n;induction n with|zero=>intro t v;exact vX _ trivial|succ n ih=>intro t v;unfold gT;repeat' (first|(with_reducible first|refine xq ?_ (λ_=>?_)|refine oF ?_ ?_|exact ih _ _|exact qW _|exact mE.1 _ _ _|exact ig.1 _|exact ig.j.d.1 _|exact xr _|exact xz _|exact vY _|exact Yz _|refine KN _ _ (λ_ _=>?_) _|refine DX _ _ (λ_ _=>?_) _)|split)
def Ky(l):B P F X<|Instr.beginRound l:=by refine KE λr b a=>xq (AI _ _ b<|a.yL _) λ_=>?_;grind [qW,xr]
def ϝ(l):B P F X<|Instr.endLoop l:=by refine KE λr b a=>?_;repeat' (first|(exact AI _ _ b<|a.yL _)|(with_reducible first|refine xq ?_ (λ_=>?_)|refine oF ?_ ?_|exact qW _|exact xr _))
def oE:(∀(v:Zv),B P F X<|asAddr v)/\(∀(a:Addr) (f:Field),B P F X<|fieldPlace a f)/\(∀(op:BinOp) (k:IntKind) (x y:Int),B P F X<|Op.intDiv op k x y)/\(∀(op:BinOp) (k:IntKind) (x:Int) (j:IntKind) (y:Int),B P F X<|Op.shift op k x j y)/\(∀(a b:Option Addr),B P F X<|samePointer a b)/\(∀(op:BinOp) (t:Zt) (x y:Operand) (a b:Zv),B P F X<|eqGuard op t x y a b)/\(∀(t:Zt) (a:Zv),B P F X<|Instr.loadAt t a)/\(∀(t:Zt) (a v:Zv),B P F X<|Instr.storeAt t a v)/\(∀(t:Zt) (x i:Zv),B P F X<|Instr.indexAt t x i)/\(∀(x:Zv) (y:Nat) (c:BoundsCode),B P F X<|Instr.sliceBound x y c)/\(∀(t:Zt) (x:Zv),B P F X<|Instr.arrayAt t x)/\(∀(t:Zt) (h:Bool) (x:Zv),B P F X<|Instr.alloc t h x)/\(∀(t:Zt) (x:Zv),B P F X<|Instr.box t x)/\(∀(t:Zt) (x:Zv) (i:Nat),B P F X<|Instr.field t x i)/\(∀(t:Zt) (x i:Zv),B P F X<|Instr.index t x i)/\(∀(t:Zt) (x:Zv),B P F X<|Instr.makeChan t x)/\(∀(t:Zt) (x:Option Zv),B P F X<|Instr.makeMap t x)/\(∀(t:Zt) (l c:Zv),B P F X<|Instr.makeSlice t l c)/\(∀(t:Zt) (m k v:Zv),B P F X<|Instr.entryStore t m k v)/\(∀(x:Zv) (t u:Zt) (ok:Bool),B P F X<|Instr.typeAssert x t u ok)/\(∀(ts:Array Zt) (t:Zt) (a:Za),B P F X<|Builtin.copy_ ts t a):=by refine⟨?_, ?_, ?_, ?_, ?_, ?_, ?_, ?_, ?_, ?_, ?_, ?_, ?_, ?_, ?_, ?_, ?_, ?_, ?_, ?_, ?_⟩<;>intros<;>(first|unfold asAddr|unfold fieldPlace|unfold Op.intDiv|unfold Op.shift|unfold samePointer|unfold eqGuard|unfold Instr.loadAt|unfold Instr.storeAt|unfold Instr.indexAt|unfold Instr.sliceBound|unfold Instr.arrayAt|unfold Instr.alloc|unfold Instr.box|unfold Instr.field|unfold Instr.index|unfold Instr.makeChan|unfold Instr.makeMap|unfold Instr.makeSlice|unfold Instr.entryStore|unfold Instr.typeAssert|unfold Builtin.copy_)<;>repeat' (first|((with_reducible apply Yb _);next=>(exact trivial))|((with_reducible refine Xq ?_ ?_);next=>simp)|((with_reducible apply xI _);next=>(refine⟨λc e h=>?_,λd h=>?_,λl h=>?_⟩<;>cases h<;>simp))|((with_reducible apply AI _ _ ‹_›);next=>(refine⟨λc e h=>?_,λd h=>?_,λl h=>?_⟩<;>cases h<;>simp))|((with_reducible refine yO (λ_ _ _=>?_) ?_);rotate_left;next=>(intro o g w;cases o<;>first|(cases g;done)|exact⟨id,trivial⟩))|(with_reducible first|exact qW _|exact xr _|exact xz _|refine xq ?_ (λ_=>?_)|refine oF ?_ ?_|exact mE.j.2.1 _ _ _|exact ig.1 _|exact mE.g.1 _ _|exact zyp _ _ _ _|exact ig.c.1 _|exact mE.c.1 _ _|exact mE.e.1 _ _ _|exact ig.g.1 _|exact Ϫ _ _ _ _|exact Yz _|exact mE.d.1 _ _|exact ig.2.1 _|exact ig.j.j.d.1 _|exact mE.1 _ _ _|exact mE.2.1 _|exact vY _|exact ig.2.2.1 _ _|exact Vr _|exact Kr _|exact mE.f.1 _ _ _|exact ig.j.j.1 _|exact Gj _ _ _)|split)
def Ϟ:∀(d:Nat) (t:Zt) (x y:Zv),B P F X<|Op.equalIn d t x y:=by intro d;induction d with|zero=>intro t x y;exact vX _ trivial|succ d ih=>intro t x y;unfold Op.equalIn;repeat' (first|((with_reducible apply Yb _);next=>(exact trivial))|((with_reducible refine Xq ?_ ?_);next=>(first|(simp;done)|rfl))|(with_reducible first|refine xq ?_ (λ_=>?_)|refine oF ?_ ?_|exact ih _ _ _|exact Gk _|exact ig.j.c.1 _|exact oE.d.1 _ _|exact mE.g.1 _ _|exact qW _|exact mE.1 _ _ _|exact ig.1 _|exact ig.j.d.1 _|exact xr _|exact xz _|exact Vr _|exact vY _|exact Yz _|refine KN _ _ (λ_ _=>?_) _|refine DX _ _ (λ_ _=>?_) _)|split|(dsimp only))
def DM:(∀(t:Zt) (x y:Zv),B P F X<|Op.equal t x y)/\(∀(s:Bool) (n c:Nat) (lo hi mx:Option Zv),B P F X<|Instr.sliceBounds s n c lo hi mx)/\(∀(t:Zt) (x:Zv) (i:Nat),B P F X<|Instr.fieldAt t x i):=by refine⟨?_, ?_, ?_⟩<;>intros<;>(first|unfold Op.equal|unfold Instr.sliceBounds|unfold Instr.fieldAt)<;>repeat' (first|(with_reducible first|exact Ϟ _ _ _ _|refine xq ?_ (λ_=>?_)|exact oE.j.2.1 _ _ _|exact xr _|exact xz _|exact oE.2.1 _ _|exact ig.c.1 _|exact Yz _)|split)
def Qu(t:Zt)(k):∀(es:List dP) (i:Nat),B P F X (Instr.findAsking t k es i)
 |[],i=>by grind [Instr.findAsking,W7]|e::es,i=>by unfold Instr.findAsking;refine xH (DM.1 _ _ _) λb=>?_;split;exact W7 _;exact Qu t k es<|i+1
def PZ:(∀(t:Zt) (k:Zv) (es:List dP),B P F X<|Instr.findKey t k es)/\(∀(t:Zt) (x:Zv) (lo hi mx:Option Zv),B P F X<|Instr.slice t x lo hi mx):=by refine⟨?_, ?_⟩<;>intros<;>(first|unfold bW|unfold Instr.slice)<;>repeat' (first|(with_reducible first|refine xq ?_ (λ_=>?_)|exact Qu _ _ _ _|exact xr _|exact Yz _|refine oF ?_ ?_|exact DM.2.1 _ _ _ _ _ _|exact oE.1 _|exact ig.1 _|exact xz _)|split)
def DN:(∀(t:Zt) (x:Zv) (lo hi mx:Option Zv),B P F X<|Instr.sliceAt t x lo hi mx)/\(∀(t:Zt) (x i:Zv) (ok:Bool),B P F X<|Instr.lookup t x i ok)/\(∀(t:Zt) (m k v:Zv),B P F X<|Instr.mapUpdate t m k v)/\(∀(t:Zt) (m k:Zv),B P F X<|Instr.mapEntry t m k)/\(∀(ts:Array Zt) (t:Zt) (a:Za),B P F X<|Builtin.delete_ ts t a):=by refine⟨?_, ?_, ?_, ?_, ?_⟩<;>intros<;>(first|unfold Instr.sliceAt|unfold fB|unfold gC|unfold Instr.mapEntry|unfold ie)<;>repeat' (first|((with_reducible refine yO (λ_ _ _=>?_) ?_);rotate_left;next=>(intro o b w;cases o<;>first|(cases b;done)|exact⟨id,trivial⟩))|((with_reducible apply AI _ _ ‹_›);next=>(refine⟨λc e h=>?_,λd h=>?_,λl h=>?_⟩<;>cases h<;>simp))|(with_reducible first|refine xq ?_ (λ_=>?_)|exact PZ.2 _ _ _ _ _|exact DM.2.1 _ _ _ _ _ _|exact ig.c.1 _|exact ig.1 _|exact xr _|exact Yz _|exact PZ.1 _ _ _|exact ϊ _ _ _ _|exact ig.2.1 _|exact xz _|exact ig.j.j.2.2.1 _ _|exact qW _)|split)
end
section
variable {α β:Type} {P:bT} {F:Array jE} {X:Nat->Prop}
attribute [local simp] Cw xG Cv Vx Vw uv AB
def Ϥ(d e n base x p w):∃b,(Builtin.mayShare d e n base x).run p w=cT b w:=by
 have f:∀(a:Addr) (c:Nat),∃b,(Builtin.holdsCells a c).run p w=cT b w:=λa c=>by unfold Builtin.holdsCells;simp only[kz,lB,fw,fp];cases w.shape? a.block with|none=>simp|some y=>simp
 unfold Builtin.mayShare;cases base with
 |none=>
  simp only[lB,fw,fX];cases x with
  |slice a l c=>
   cases a with
   |none=>simp
   |some a=>
    obtain⟨b,g⟩:=f a<|n*d;grind [qe,bG,fp]
  |_=>simp
 |some a=>
  obtain⟨b,g⟩:=f a<|e*d;simp only[lB,fX,qe,g,bG,lf,fp];cases hbb:(b&& !aQ w _)with
  |false=>simp
  |true=>
   cases x with
   |slice y l c=>
    cases y with
    |none=>simp
    |some y=>
     obtain⟨i,h⟩:=f y<|n*d;grind [qe,bG,fp]
   |_=>simp
def xr4{c a n base x}{k:Bool->Sem β}(hk:∀b w,¬oY ((k b).run (wf P F) w)/\rs ((k b).run (wf P F) w)):B P F X<|Builtin.mayShare c a n base x>>=k:=
 Gp λw=>by obtain⟨b,d⟩:=Ϥ c a n base x _ w;rw[show(Builtin.mayShare c a n base x>>=k).run _ w=_ from qe _ _ _ w,d];exact hk b w
theorem ϩ(c)(t:Zt)(a):B P F X<|Builtin.append_ c t a:=by unfold Builtin.append_;repeat' (first|((with_reducible apply xr4);next=>(intro b w;cases b<;>exact⟨id,trivial⟩))|(with_reducible first|refine xq ?_ (λ_=>?_)|refine oF ?_ ?_|exact mE.f.1 _ _ _|exact ig.j.j.1 _|exact mE.2.1 _|exact qW _|exact ig.2.2.1 _ _|exact Gj _ _ _|exact ig.1 _|exact ig.2.1 _|exact xr _|exact xz _|exact Vr _|exact Kr _|exact vY _|exact Yz _)|split)
theorem Ϭ(e:Zt)(c):B P F X<|newRow e c>>=λa=>iK a>>=λ_=>(fX a:Sem Addr):=by
 have f:∀w:Zy,(({w with heap:=w.heap.push<|aq c e}:Zy).freeze {block:=ak w.heap,off:=ak c} 1)={w with heap:=w.heap.push<|aq c e (ak c,ak c+1)}:=λw=>by grind [gS,World.mk.injEq]
 have run:∀p w,(newRow e c>>=λa=>iK a>>=λ_=>(fX a:Sem Addr)).run p w=cT (zq (ak w.heap) 0) {w with heap:=w.heap.push _}:=λp w=>by rw[<-f w];simp[newRow,newObj,iK,kz,freeze,lB,fw,fp,fX,dD]
 have runT:∀p w d,(newRow e c>>=λa=>iK a>>=λ_=>(fX a:Sem Addr)).runT p w d=(cT (zq (ak w.heap) 0) {w with heap:=w.heap.push _},d):=λp w d=>by rw[<-f w];simp[newRow,newObj,iK,kz,freeze,lB,fw,eE,fX,dD,-ey]
 refine⟨λw v d b g=>?_,λw b g=>?_,λw _=>by rw[run];trivial⟩;rw[run,runT];refine⟨{v with heap:=v.heap.push _},#[],⟨by simp[ge,b.J],b.iB _ .G,λx h=>?_,Ä,Ä⟩⟩;have:=b.sU x h;simp[jb,b.J,show x≠ak w.heap by omega,if_false];grind [rq,rW,ge,re]
def zpo(e:Zt)(s):B P F X<|Conv.stringToBytes e s:=by
 haveI:=KI
 refine xq (Vr _) λb=>?_;have:∀(c:Za),(newRow e c>>=λa=>iK a>>=λ_=>(fX (az (ac a) s.size b):Sem Zv))=(newRow e c>>=λa=>iK a>>=λ_=>(fX a:Sem Addr))>>=λa=>fX<|az (ac a) s.size b:=λc=>Ä
 grind [xq,Ϭ,xr]
end
section
variable {α β:Type} {P:bT} {F:Array jE} {X:Nat->Prop}
attribute [local simp] Cw xG Cv Vx Vw uv AB
theorem Qv(op k x y):B P F X<|Op.floatArith op k x y:=by unfold Op.floatArith;grind [xq,xr,xz,Vr]
def QC(op k x y):B P F X<|Op.floatCmp op k x y:=by unfold Op.floatCmp;grind [xr,xz]
def zvy(s b k):B P F X<|Conv.floatToInt s b k:=by grind [Conv.floatToInt,xq,xr,Vr]
def zv0(k n):B P F X<|Conv.intToFloat k n:=by grind [Conv.intToFloat,xr]
theorem Kx(s b k):B P F X<|Conv.floatToFloat s b k:=by grind [Conv.floatToFloat,xq,xr,Vr]
def zyn(s a b k):B P F X<|Conv.complexToComplex s a b k:=by grind [Conv.complexToComplex,xq,Kx,xr,xz]
def DT(op k x y):B P F X<|Op.Complex.arith op k x y:=by grind [Op.Complex.arith,xq,Qv,xr,xz]
def Qe(op k x y):B P F X<|Op.Complex.cmp op k x y:=by unfold Op.Complex.cmp;repeat' (first|(with_reducible first|refine xq ?_ (λ_=>?_)|exact QC _ _ _ _|exact ig.j.1 _))
def xr2(s x k):B P F X<|Op.Complex.conv s x k:=by grind [Op.Complex.conv,xq,Kx,xr,xz]
theorem Kj(x y):B P F X<|Op.Complex.add x y:=DT _ _ _ _
theorem Km(x y):B P F X<|Op.Complex.sub x y:=DT _ _ _ _
theorem Kl(x y):B P F X<|Op.Complex.mul x y:=DT _ _ _ _
def xxc(x y):B P F X<|Op.Complex.quo x y:=DT _ _ _ _
def ϋ(a b c d):B P F X<|Op.Complex.product a b c d:=by grind [Op.Complex.product,xq,Kl,Km,Kj,xr]
def zvw(s a b c d):B P F X<|Op.Complex.corrected s a b c d:=by unfold Op.Complex.corrected;repeat' (first|(with_reducible first|refine xq ?_ (λ_=>?_)|exact Kl _ _|exact Km _ _|exact Kj _ _|exact xr _))
def zyo(a b c d):B P F X<|Op.Complex.quotient a b c d:=by unfold Op.Complex.quotient;repeat' (first|(with_reducible first|refine xq ?_ (λ_=>?_)|refine oF ?_ ?_|exact zvw _ _ _ _ _|exact xxc _ _|exact Kl _ _|exact Km _ _|exact Kj _ _|exact Qe _ _ _ _|exact xr _))
def zym(op k a b c d):B P F X<|Op.complexOp op k a b c d:=by unfold Op.complexOp;repeat' (first|(with_reducible first|refine xq ?_ (λ_=>?_)|refine oF ?_ ?_|exact zyo _ _ _ _|exact ϋ _ _ _ _|exact xr2 _ _ _|exact Qe _ _ _ _|exact DT _ _ _ _|exact xr _|exact xz _)|split)
def π:B P F X<|sys .env:=
 yN (λw=>cT (.strings w.os.env) w) (λ_=>rfl) (λ_ _ _=>rfl) (λ_=>trivial) (λw=>by
  have e:w.sys .env=(.strings w.os.env,w):=rfl;simp[sys,fp,e]) (λw v c b _=>⟨#[⟨.output,aw,ao⟩],by
  have e:v.sys .env=(.strings v.os.env,v):=rfl;simp[sys,eE,e,ge,b.os,-ey],λe a=>by simp at a;subst a;exact trivial⟩)
theorem ώ:B P F X<|Instr.panicnil:=by unfold Instr.panicnil;repeat' (first|((with_reducible refine Xq ?_ ?_);next=>(first|(simp;done)|rfl))|(with_reducible first|refine xq ?_ (λ_=>?_)|exact π|exact xr _|exact xz _)|split)
theorem QN(x):B P F X<|Instr.panic x:=by unfold Instr.panic;grind [xq,ώ,qW,xz,P7]
theorem xvv(P F):∀d t u,sameLayout (wf P F) d t u=sameLayout P d t u:=by intro d;induction d with|zero=>intros;rfl|succ d ih=>grind [sameLayout,Yj,Kv,xG]
theorem xz4(P F)(f:Zt->Bool):∀d e c o n,rowAt (wf P F) f d e c o n=rowAt P f d e c o n:=by intro d;induction d with|zero=>intros;rfl|succ d ih=>grind [rowAt,Yj,Vw,xG]
theorem Gr(P F):∀d e c o u n,liesAt (wf P F) d e c o u n=liesAt P d e c o u n:=by intro d;induction d with|zero=>intros;rfl|succ d ih=>grind [liesAt,Yj,xz4,xvv,Vx]
theorem ztv(P F):∀d t b,cellOfByte (wf P F) d t b=cellOfByte P d t b:=by intro d;induction d with|zero=>intros;rfl|succ d ih=>grind [cellOfByte,Yj,Vw,uv]
def QK(P F d)(e:Zt)(c o b):cellAtBytes (wf P F) d e c o b=cellAtBytes P d e c o b:=by grind [cellAtBytes,Vw,uv,AB,ztv]
def Qp(a)(u:Zt)(n p w):(kv a u n).run p w=cT (match w.shape? a.block with
  |some (e,c)=>liesAt p p.depth e (c/p.cellsOf e) a.off u n|none=>ao) w:=by
 cases h:w.shape? a.block with|none=>simp[kv,oK,kz,lB,fw,fp,h,fX]|some y=>obtain⟨e,c⟩:=y;simp[kv,oK,kz,lB,fw,fp,h,fX]
def ϭ{s:Sem α}(h:∀w,Sm P X w w->¬oY (s.run (wf P F) w)/\rs (s.run (wf P F) w)):B P F X s:=⟨λw v c a b=>absurd b (h w a.iC).1,λw a b=>absurd b (h w a).1,λw a=>(h w a).2⟩
theorem Gl{r}(hx:¬X r):B P F X<|shape r:=
 yN (λw=>cT (w.shape? r) w) (λ_=>rfl) (λ_ _ _=>rfl) (λ_=>trivial) (λ_=>rfl) (λw v b a _=>⟨#[],by simp[kz,eE,ge,dD,a.out r hx,-ey],Ä⟩)
def ϟ{a n}(hx:¬X a.block):B P F X<|freeze a n:=by
 have out:∀w v:Zy,Sm P X w v->Sm P X (w.freeze a n) (v.freeze a n):=by
  intro w v h;unfold gS;split;exact h;refine⟨ó,λr b=>?_,λr b=>?_,λr=>by
   have i:=h.pz r;simp only[Jg];split;cases ho:w.heap[r]?with
   |none=>grind
   |some o=>rw[ho]at i;cases o with|cells=>exact .G|_=>exact i
   omega,h.ms,h.fZ,h.os,h.cM,⟨by simp only[Array.size_modify];exact h.pf.1,λr b k=>by have c:a.block≠r:=λe=>hx<|e▸b;simp only[Jg,c,if_false];exact h.pf.2 r b k⟩⟩
  simp only[Jg,h.out r b];have c:a.block≠r:=λe=>hx<|e▸b;simp only[Jg,c,if_false];exact h.iz r b
 have f:∀(w:Zy) (r:Nat),X r->(w.freeze a n).heap[r]?=w.heap[r]?:=by intro w r b;unfold gS;split;rfl;grind
 refine⟨λw v l g j=>⟨v.freeze a n,#[],⟨?_,out w v g,λr b=>f v r b,Ä, ?_⟩⟩,λw g j=>⟨?_, ?_,λt d _=>?_⟩,λw _=>trivial⟩;grind [freeze,eE,fp,ge];grind [gS];show w.drawn<=(w.freeze a n).drawn;grind [gS];show(w.freeze a n).tape=w.tape;grind [gS];have e:(w.freeze a n).drawn=w.drawn:=by unfold gS;split<;>rfl
 show cT () ((re w t d).freeze a n)=cT () (re (w.freeze a n) t<|d+((w.freeze a n).drawn-w.drawn));rw[e];grind [gS,re]
def Qy(a:Addr):∀(n:Nat) (b:Addr) (acc:ByteArray),B P F X (kB b acc n)
 |0,b,acc=>by grind [kB,W7]|n+1,b,acc=>by unfold kB;refine xq (Ko _ _) λx=>?_;split;exact Qy a n _ _;exact xz _
theorem Ϗ(a)(u:Zt)(n)(l:n≠0):B P F X<|variablesAt a u n>>=λb=>if b then(kB a .empty n>>=λs=>freeze a n>>=λ_=>(fX (aj s):Sem Zv))else unsupported (.unsafePointer "String: not so many bytes at ptr"):=by
 by_cases f:X a.block;refine ϭ λw i=>?_;rw[show(kv a u n>>=_).run (wf P F) w=_ from qe _ _ _ w];obtain⟨o,r,d,p,⟨g,q⟩|⟨c,e,rfl,rfl⟩⟩:=i.iz _ f;have e:(kv a u n).run (wf P F) w=cT ao w:=by
  cases o<;>cases g
  rw[Qp];simp[dD,d]
 rw[e];exact⟨id,trivial⟩;have e:∃b,(kv a u n).run (wf P F) w=cT b w:=⟨_,Qp a u n _ w⟩;obtain⟨b,j⟩:=e;rw[j];cases b with
 |false=>exact⟨id,trivial⟩
 |true=>
  have k:(kB a .empty n).run (wf P F) w=eI (ia "load: no such cell") w:=by
   obtain⟨m,rfl⟩:=Nat.exists_eq_succ_of_ne_zero l;have h:(mB a .plain).run (wf P F) w=eI (ia "load: no such cell") w:=by rw[Gn];simp[ae,lw,gR,d]
   unfold kB;rw[show(mB a .plain>>=_).run (wf P F) w=_ from qe _ _ _ w,h];rfl
  show¬oY ((kB a .empty n>>=λs=>freeze a n>>=λ_=>(fX (aj s):Sem Zv)).run (wf P F) w)/\rs ((kB a .empty n>>=λs=>freeze a n>>=λ_=>(fX (aj s):Sem Zv)).run (wf P F) w);rw[show(kB a .empty n>>=_).run (wf P F) w=_ from qe _ _ _ w,k];exact⟨id,trivial⟩
 refine xq ?_ λb=>?_;grind [kv,Xq,Gr,Vx,Vw,xq,Gl,xr];split;exact xq (Qy a _ _ _) λs=>xq (ϟ f) λ_=>xr _;exact Yb _ trivial
theorem zyu(d)(t:Zt)(a):B P F X<|Builtin.unsafeSliceData_ d t a:=by
 unfold Builtin.unsafeSliceData_;obtain⟨l⟩:=a;obtain _|⟨x,_|⟨y,l⟩⟩:=l;exact xz _;cases x with
 |slice b n c=>
  cases b with|none=>exact xr _|some b=>exact oF (xr _)<|xq (KL _) λ_=>oF (xr _)<|xq (ig.j.2.1 _) λ_=>xq (xI _ ⟨λc e h=>Ê,λf h=>Ê,λl h=>Ê⟩) λ_=>xr _
 |_=>exact xz _
 cases x<;>first|exact xz _|(rename_i b _ _;cases b<;>exact xz _)
def Cu(s:Sem α):Prop:=∀p w a w',s.run p w≠ cT a w'
theorem ϣ{s}{k:α->Sem β}(h:∀a,Cu<|k a):Cu<|s>>=k:=λp w b c e=>by rw[show(s>>=k).run p w=_ from qe p s k w]at e;cases hs:s.run p w with|ok a w1=>rw[hs]at e;exact h a p w1 b c e|halt x w1=>simp_all
theorem ϐ(v):Cu (goPanic v:Sem α):=λp w a b e=>Ç
theorem Vg(e):Cu (runtimePanic e:Sem α):=by grind [runtimePanic,ϣ,ϐ]
theorem Cy{s}{k:α->Sem β}(i:B P F X s)(g:Cu s):B P F X<|s>>=k:=by
 refine⟨λw v f c b=>?_,λw c b=>?_,λw c=>?_⟩;rotate_left 2;have e:(s>>=k).run (wf P F) w=_:=qe (wf P F) s k w;rw[e];have l:=i.iO w c;cases hr:s.run (wf P F) w with
 |ok a w'=>exact absurd hr<|g _ _ _ _
 |halt hh w'=>rw[hr]at l;exact l
 have e:(s>>=k).run (wf P F) w=_:=qe (wf P F) s k w;have p:(s>>=k).runT P v f=_:=Yf P s k v f;rw[e]at b⊢;rw[p];cases hr:s.run (wf P F) w with
 |ok a w'=>exact absurd hr<|g _ _ _ _
 |halt hh w'=>rw[hr]at b;obtain⟨x,j,h⟩:=i.lV w v f c (by rw[hr];revert b;cases hh<;>exact id);rw[hr]at h;refine⟨x,j,⟨?_,h.sm,h.iu,h.qV,h.gE⟩⟩;rw[h.eq];rfl
 have r:∀w,(s>>=k).run (wf P F) w=_:=qe (wf P F) s k;unfold rq;simp only[r]at b⊢;cases hr:s.run (wf P F) w with
 |ok a w'=>exact absurd hr<|g _ _ _ _
 |halt h w'=>rw[hr]at b;obtain⟨m,n,o⟩:=i.mY w c (by rw[hr];revert b;cases h<;>exact id);rw[hr]at m n o;refine⟨m,n,λt d q=>?_⟩;rw[o t d q];rfl
def QG(u):Cu (unsupported u:Sem α):=λp w a b e=>Ç
theorem zqy(c)(t:Zt)(a):B P F X<|Builtin.unsafeString_ c t a:=by
 unfold Builtin.unsafeString_;obtain⟨l⟩:=a;obtain _|⟨x,_|⟨y,_|⟨z,l⟩⟩⟩:=l;exact xz _;cases x<;>exact xz _
 cases x with
 |pointer b=>
  dsimp only;refine xq (mE.2.1 _) λn=>?_;split;split;grind [Cy,qW,Vg];split;exact Cy (Yb _ trivial)<|QG _;cases b with|none=>grind [qW,xr]|some b=>dsimp only;split;exact xr _;refine xq (ig.j.2.1 _) λu=>?_;grind [Ϗ]
  exact xz _
 |_=>exact xz _
 cases x<;>exact xz _
theorem ς(c)(t:Zt)(a)(h:∀u,c[0]?=ac u->AG P u=aw):B P F X<|Builtin.len_ c t a:=by
 unfold Builtin.len_;split
 ·rename_i u x he;refine DU λd hd=>?_;have b:=h u Â;unfold AG at b;rw[hd]at b;repeat' (first|((with_reducible refine yO (λ_ _ _=>?_) ?_);rotate_left;next=>(intro o e w;cases o<;>first|(cases e;done)|exact⟨id,trivial⟩))|(with_reducible first|refine xq ?_ (λ_=>?_)|exact xr _|exact xz _|exact Yz _)|split)
  grind
 exact xz _
theorem ο(b)(t:Zt)(a)(h:∀u,b[0]?=ac u->AG P u=aw):B P F X<|Builtin.cap_ b t a:=by unfold Builtin.cap_;split;grind [DU,AG,xr,xz];exact xz _
end
section
variable {α β:Type} {P:bT} {F:Array jE} {X:Nat->Prop}
attribute [local simp] Cw xG Cv Vx Vw uv AB QK Gr
def ϓ(e:Zt)(s):B P F X<|Conv.stringToRunes e s:=by unfold Conv.stringToRunes;repeat' (first|(with_reducible first|refine xq ?_ (λ_=>?_)|exact ig.2.2.1 _ _|exact xr _|exact Vr _))
def zyq(x):B P F X<|Conv.runesToString x:=by unfold Conv.runesToString;repeat' (first|(with_reducible first|refine xq ?_ (λ_=>?_)|exact ig.f.1 _ _|exact xr _|exact xz _|refine DX _ _ (λ_ _=>?_) _)|split)
theorem Ϝ(c dst:Zt)(x)(h:Ks P c dst=aw):B P F X<|convert c dst x:=by unfold convert;refine DU λa d=>DU λb e=>?_;unfold Ks at h;rw[d,e]at h;split at h<;>first|(cases h;done)|(rename_i e1 e2;cases e1;cases e2;(repeat' (first|((with_reducible refine Yb _ ?_);next=>(exact trivial))|(with_reducible first|refine xq ?_ (λ_=>?_)|exact zyq _|exact ϓ _ _|exact zyn _ _ _ _|exact Kx _ _ _|exact zv0 _ _|exact zvy _ _ _|exact zpo _ _|exact mE.2.2.1 _|exact ig.e.1 _|exact ig.d.1 _ _|exact xr _|exact xz _|exact Yz _)|split));all_goals grind)
def zyx(p d)(e:Zt)(o b):cellAtBytes p d e 0 o b=ar:=by unfold cellAtBytes;simp only[lB,Option.bind];grind
def ϯ{r}{k:Option (Zt×Nat)->Sem β}(hk:∀s,B P F X<|k s)(p:∀e w,¬oY ((k<|some (e,0)).run (wf P F) w)/\rs ((k<|some (e,0)).run (wf P F) w)):B P F X<|shape r>>=k:=by
 by_cases m:X r;refine⟨λw v b a d=>?_,λw a d=>(hk<|w.shape? r).mY w a d,λw a=>(hk<|w.shape? r).iO w a⟩;obtain⟨o,n,g,i,⟨j,l⟩|⟨c,e,rfl,rfl⟩⟩:=a.iz _ m;cases o<;>cases j
 have f:(kz r>>=k).run (wf P F) w=(k ar).run (wf P F) w:=Ĝ
 have h:(kz r>>=k).runT P v b=(k ar).runT P v b:=by show(k<|v.shape? r).runT P v b=_;cases n<;>cases l<;>simp[dD,i]
 rw[f]at d⊢;rw[h];exact(hk ar).lV w v b a d;exfalso;have f:(kz r>>=k).run (wf P F) w=(k<|some (e,0)).run (wf P F) w:=Ĝ
 grind;grind [xq,Gl]
def QA(a)(t:Zt)(x y):B P F X<|Builtin.unsafeAdd_ a t #[x,y]:=by
 unfold Builtin.unsafeAdd_;cases x with
 |pointer b=>
  refine xq (mE.2.1 _) λn=>?_;repeat' (first|((with_reducible refine ϯ (λ_=>?_) ?_);rotate_left;next=>(intro e w;simp[oK,lB,fw,fp,zyx,unsupported,oY,rs,Gg]))|(exact Cy (Yb _ trivial)<|QG _)|((with_reducible refine Yb _ ?_);next=>(exact trivial))|((with_reducible refine Xq ?_ ?_);next=>simp)|(with_reducible first|refine xq ?_ (λ_=>?_)|refine oF ?_ ?_|exact KL _|exact xr _)|split)
 |_=>exact xz _
def ψ(a l):B P F X<|asNumber a l:=by unfold asNumber;repeat' (first|((with_reducible refine xI _ ?_);next=>(refine⟨λc e h=>?_,λb h=>?_,λl h=>?_⟩<;>cases h<;>simp))|(with_reducible first|refine xq ?_ (λ_=>?_)|exact xr _))
def ztc(t:Zt)(x y):B P F X<|movedNumber t x y:=by unfold movedNumber;repeat' (first|((with_reducible refine Yb _ ?_);next=>(exact trivial))|(with_reducible first|refine xq ?_ (λ_=>?_)|refine oF ?_ ?_|exact ψ _ _|exact QA _ _ _ _|exact ig.j.c.1 _|exact xr _|exact Yz _)|split)
def zqu(t:Zt)(x y):B P F X<|movedPointer t x y:=by unfold movedPointer;repeat' (first|((with_reducible refine Yb _ ?_);next=>(exact trivial))|(with_reducible first|refine xq ?_ (λ_=>?_)|refine oF ?_ ?_|exact QA _ _ _ _|exact QF _)|split)
theorem Qz(a b):B P F X<|Op.twoPlaces a b:=by unfold Op.twoPlaces;repeat' (first|((with_reducible refine Yb _ ?_);next=>(exact trivial))|((with_reducible refine Xq ?_ ?_);next=>(first|(simp;done)|rfl))|(with_reducible first|refine xq ?_ (λ_=>?_)|refine oF ?_ ?_|exact Gk _|exact xr _))
def Ϛ(k a b):B P F X<|Op.addrSub k a b:=by grind [Op.addrSub,xq,Qz,xr]
def Ϙ(op a b):B P F X<|Op.addrCmp op a b:=by unfold Op.addrCmp;repeat' (first|((with_reducible refine Yb _ ?_);next=>(exact trivial))|(with_reducible first|refine xq ?_ (λ_=>?_)|exact Qz _ _|exact xr _)|split)
def ϙ(k a n):B P F X<|Op.addrMod k a n:=by unfold Op.addrMod;repeat' (first|((with_reducible refine QO (λ_=>?_) ?_);rotate_left;next=>grind)|((with_reducible refine Yb _ ?_);next=>(exact trivial))|(with_reducible first|refine xq ?_ (λ_=>?_)|refine oF ?_ ?_|exact Gk _|exact xr _|exact vY _)|split)
def xr1(op)(t:Zt)(x y):B P F X<|binOp op t x y:=by unfold binOp;repeat' (first|((with_reducible refine Yb _ ?_);next=>(exact trivial))|(with_reducible first|refine xq ?_ (λ_=>?_)|refine oF ?_ ?_|exact ϙ _ _ _|exact Ϙ _ _ _|exact Ϛ _ _ _|exact zqu _ _ _|exact ztc _ _ _|exact zym _ _ _ _ _ _|exact QC _ _ _ _|exact Qv _ _ _ _|exact DM.1 _ _ _|exact ig.j.c.1 _|exact ig.j.2.2.1 _ _ _|exact ig.j.j.e.1 _ _ _|exact oE.c.1 _ _ _ _ _|exact ig.j.g.1 _ _ _ _|exact oE.2.2.1 _ _ _ _|exact ig.j.f.1 _ _ _ _|exact xr _|exact xz _|exact Yz _)|split)
end
section
variable {α β:Type} {P:bT} {F:Array jE} {X:Nat->Prop}
attribute [local simp] Cw xG Cv Vx Vw uv AB QK Gr
def KG(t:Zt)(x):B P F X<|Place.get t x:=by unfold Place.get;repeat' (first|(with_reducible first|exact mE.c.1 _ _|exact xr _)|split)
theorem KJ:∀(l:List FieldStep) (t:Zt) (x:Place),B P F X (follow l t x)
 |[],t,x=>by grind [follow,xr]|s::l,t,x=>by unfold follow;repeat' (first|(with_reducible first|refine xq ?_ (λ_=>?_)|refine oF ?_ ?_|exact KJ l _ _|exact KG _ _|exact oE.2.1 _ _|exact oE.1 _|exact mE.1 _ _ _|exact xz _|exact Yz _)|split)
def ϔ(d)(t:Zt)(p a b):B P F X<|Builtin.ssaWrapNilChk_ d t #[p,aj a,aj b]:=by
 unfold Builtin.ssaWrapNilChk_;cases p with
 |pointer q=>
  cases q with
  |some q=>exact xr _
  |none=>
   refine xq (Vr _) λc=>?_;repeat' (first|(exact Cy (qW _)<|Vg _)|((with_reducible refine Yb _ ?_);next=>(exact trivial))|(with_reducible first|refine xq ?_ (λ_=>?_)|refine oF ?_ ?_|exact qW _|exact xz _|exact vY _|exact Yz _)|split|(dsimp only))
 |_=>exact xz _
theorem Qx(t:Zt)(x b w):B P F X<|receiverAt t x b w:=by unfold receiverAt;repeat' (first|(exact ϔ _ _ _ _ _)|(with_reducible first|refine xq ?_ (λ_=>?_)|exact KG _ _|exact oE.1 _|exact mE.c.1 _ _|exact xr _|exact xz _|exact Yz _)|split)
theorem ztd(t:Zt)(v p b):B P F X<|receiverVia t v p b:=by grind [receiverVia,xq,Qx,KJ]
theorem QM:∀(n:Nat) (t:Zt) (v:Zv) (name:String),B P F X (method n t v name)
 |0,t,v,name=>by unfold method;exact Yb _ trivial|n+1,t,v,name=>by unfold method;repeat' (first|(with_reducible first|refine xq ?_ (λ_=>?_)|exact QM n _ _ _|exact Qx _ _ _ _|exact KJ _ _ _|exact KG _ _|exact qW _|exact xr _|exact xz _|exact vY _)|split)
def Qq:∀(l:List FieldStep) (t:Zt) (x:Option Zv),B P F X (followBlind l t x)
 |[],t,x=>by grind [followBlind,xr]|s::l,t,x=>by unfold followBlind;repeat' (first|(with_reducible first|refine xq ?_ (λ_=>?_)|exact Qq l _ _|exact mE.1 _ _ _|exact xr _|exact xz _|exact Yz _)|split)
def QE:∀(n:Nat) (t:Zt) (v:Zv) (name:String),B P F X (nilAhead n t v name)
 |0,t,v,name=>by grind [nilAhead,xr]|n+1,t,v,name=>by unfold nilAhead;repeat' (first|(with_reducible first|refine xq ?_ (λ_=>?_)|exact QE n _ _ _|exact Qq _ _ _|exact xr _|exact xz _|exact vY _|exact Yz _)|split)
theorem Ϡ(f a):B P F X<|Deferred.ofValue f a:=by unfold Deferred.ofValue;grind [xr,xz]
def DR(r c)(t:Zt):B P F X<|resolve r c t:=by grind [nD,Ϡ,xr]
def sT(F:Zc)(f:FuncId):Prop:=∃fn s,F[f]?=ac fn/\fn.body=ac (.refuse s)/\(fn.name== "runtime.NumGoroutine")=ao
structure BN(P:Zp)(F:Zc)(X:ZP)(s:Sem Next):Prop where
 lV:∀w v es,Sm P X w v->oY (s.run (wf P F) w)->(∀f a w',s.run (wf P F) w=cT (mo f a) w'->¬sT F f)->∃v' new,CR P X v es (s.run (wf P F) w) (s.runT P v es) v' new
 mY:∀w,Sm P X w w->oY (s.run (wf P F) w)->rq w (s.run (wf P F) w) (s.run<|wf P F)
 iO:∀w,Sm P X w w->rs (s.run (wf P F) w)
theorem Bl.dQ{s}(h:B P F X s):BN P F X s:=⟨λw v a b c _=>h.lV w v a b c,h.mY,h.iO⟩
theorem Gq{s}{k:α->Sem Next}(g:B P F X s)(hk:∀a,BN P F X<|k a):BN P F X<|s>>=k:=by
 have z:∀w,(s>>=k).run (wf P F) w=_:=λw=>qe (wf P F) s k w;refine⟨λw v j f c D=>?_,λw f c=>?_,λw f=>?_⟩;rotate_left 2;rw[z];have G:=g.iO w f;cases hq:s.run (wf P F) w with|halt hh w'=>rw[hq]at G;exact G|ok a w'=>obtain⟨o,b,r⟩:=g.lV w w #[] f ñ;rw[hq]at r;exact(hk a).iO w' r.sm.iC
 have I:(s>>=k).runT P v j=_:=Yf P s k v j;rw[z]at c⊢;rw[I];simp only[z]at D;cases hr:s.run (wf P F) w with
 |halt hh w'=>
  rw[hr]at c;obtain⟨o,b,h⟩:=g.lV w v j f ı;rw[hr]at h;refine⟨o,b,⟨?_,h.sm,h.iu,h.qV,h.gE⟩⟩;rw[h.eq];rfl
 |ok a w'=>rw[hr]at c D;obtain⟨o,b,h⟩:=g.lV w v j f Ú;rw[hr]at h;obtain⟨E,y,l⟩:=(hk a).lV w' o (j++b) h.sm c D;refine⟨E,b++y,⟨?_,l.sm,λx H=>(l.iu x H).trans<|h.iu x H, ?_,xa h.gE l.gE⟩⟩;rw[h.eq];show(k a).runT P o (j++b)=_;rw[l.eq,Xn];rfl;intro e J;obtain x|x:=GB.1 J;exact(h.qV e x).W l.gE;exact l.qV e x
 unfold rq;simp only[z]at c⊢;cases hr:s.run (wf P F) w with
 |halt h w'=>
  rw[hr]at c;obtain⟨p,m,n⟩:=g.mY w f ĵ;rw[hr]at p m n;refine⟨p,m,λt d C=>?_⟩;rw[n t d C];rfl
 |ok a w'=>
  rw[hr]at c;obtain⟨p,m,n⟩:=g.mY w f Ú;rw[hr]at p m n;simp only[rW,ge]at p m n;obtain⟨o,b,r⟩:=g.lV w w #[] f Ú;rw[hr]at r;obtain⟨N,K,L⟩:=(hk a).mY w' r.sm.iC c;show w.drawn<=(rW<|(k a).run (wf P F) w').drawn/\(rW<|(k a).run (wf P F) w').tape=w.tape/\∀t d,AH w ((rW<|(k a).run (wf P F) w').drawn-w.drawn) t d->_=ge (re (rW<|(k a).run (wf P F) w') t<|d+((rW<|(k a).run (wf P F) w').drawn-w.drawn)) ((k a).run (wf P F) w');refine⟨À,K.trans m,λt d C=>?_⟩;rw[n t d<|C.le À];have:=L t (d+(w'.drawn-w.drawn)) (λi q M=>by
   have:=C (w'.drawn-w.drawn+i) q À
   grind)
  rw[show d+(w'.drawn-w.drawn)+((rW<|(k a).run (wf P F) w').drawn-w'.drawn)=d+((rW<|(k a).run (wf P F) w').drawn-w.drawn) by omega]at this;exact this
structure ma(P:Zp)(F:Zc)(X:ZP):Prop where
 fV:∀f:Nat,F[f]?=P.funcs[f]?\/sT F f\/∃fn fn',P.funcs[f]?=ac fn/\F[f]?=ac fn'/\fn.name=fn'.name/\fn.body.isNone=ao/\fn'.body.isNone=ao
 PY:∀f:Nat,(F[f]?).map (·.results)=(P.funcs[f]?).map (·.results)
 DK:∀(f:Nat) fn,F[f]?=ac fn->(fn.name== "runtime.NumGoroutine")=ao
 dQ:∀(f:Nat) fn,F[f]?=ac fn->fn.body.isNone=aw->jP fn=ar
 PW:∀(f:Nat) fn,F[f]?=ac fn->fn.body.isNone=aw->∀e,mU fn=ac e->∀a,B P F X<|e a
def KH{k}(h:k P=k (wf P F))(hk:BN P F X<|k<|wf P F):BN P F X<|program>>=k:=by
 have d:∀w,(oK>>=k).run (wf P F) w=(k<|wf P F).run (wf P F) w:=λw=>rfl;have e:∀w a,(oK>>=k).runT P w a=(k<|wf P F).runT P w a:=λw a=>Ë
 refine⟨λw v a b c f=>?_,λw b c=>?_,λw b=>by rw[d];exact hk.iO w b⟩;rw[d]at c⊢;rw[e];exact hk.lV w v a b c f;rw[d]at c;have:=hk.mY w b c;grind [rq]
theorem KD(H:ma P F X)(f args):BN P F X<|callFunc f args:=by
 unfold nE;obtain h|⟨a,s,b,c,d⟩|⟨a,g,b,c,d,o,p⟩:=H.fV f
 ·refine KH ?_ ?_;rw[<-h];rfl;refine Bl.dQ ?_;show B P F X (match F[f]?with|none=>_|some a=>_);cases hf:F[f]?with
  |none=>exact xz _
  |some a=>
   dsimp only;split;exact xr _;split
   ·rename_i hb;refine xq (P8 _<|aE ⟨f,rfl⟩) λ_=>?_;have m:=H.dQ f a hf hb;rw[m];have l:=H.PW f a hf hb;dsimp only;repeat' (first|(exact l _ ‹_› _)|((with_reducible refine Yb _ ?_);next=>(exact trivial))|(with_reducible first|refine xq ?_ (λ_=>?_)|refine oF ?_ ?_|exact xr _)|split)
   exact xr _
 have e:∀w,(nE f args).run (wf P F) w=cT (mo f args) w:=λw=>by show(match F[f]?with|none=>_|some a=>_:Sem Next).run (wf P F) w=_;simp_all
 refine⟨λw v n j k i=>absurd ⟨a,s,b,c,d⟩<|i f args w<|e w,λw j k=>?_,λw _=>by unfold nE at e;rw[e];trivial⟩;grind [nE,rq,ge,rW];refine KH ?_ ?_;show(match P.funcs[f]?with|none=>_|some a=>_)=(match F[f]?with|none=>_|some a=>_);grind;refine Bl.dQ ?_;show B P F X (match F[f]?with|none=>_|some a=>_);grind [xr]
theorem Qs(H:ma P F X)(r a args):BN P F X<|callMethod r a args:=by
 unfold callMethod;split;refine KH rfl ?_;grind [Gq,QM,KD]
 ·exact Bl.dQ<|qW _
 grind [Bl.dQ,xz]
def ϛ(b d)(t:Zt)(c a)(h:yM P b d=aw):B P F X<|builtin b d t c a:=by
 have f:∀u,d[0]?=ac u->(match d[0]?with|some u=>AG P u|none=>aw)=aw->AG P u=aw:=λu e h=>Â
 unfold builtin;cases b<;>simp only[yM,ja]at h<;>dsimp only
 case append=>grind [xq,ϩ,xr]
 case cap=>grind [xq,ο,xr]
 case clear=>exact xq (mE.j.e.1 _ _ _) λ_=>xr _
 case copy=>exact xq (oE.j.j.d _ _ _) λ_=>xr _
 case delete=>exact xq (DN.d _ _ _) λ_=>xr _
 case len=>grind [xq,ς,xr]
 case max=>grind [xq,τ,xr]
 case min=>grind [xq,υ,xr]
 case panic=>grind [xq,QN,xr]
 case recover=>exact xr _
 case unsafeSliceData=>grind [xq,zyu,xr]
 grind [xq,zqy,xr]
def AC(H:ma P F X)(t args)(h:Wn P t=aw):BN P F X<|invoke t args:=by
 unfold ol;cases t with
 |nil=>exact Bl.dQ<|qW _
 |builtin b ts u c=>exact Bl.dQ<|ϛ _ _ _ _ _ h
 |collected r=>exact Bl.dQ<|xz _
 |coroexit c=>cases h
 |fn f c=>
  cases f with
  |func f=>exact KD H _ _|method n=>grind [Qs,Bl.dQ,xz]
  |methodOf t n=>grind [Gq,Yz,Qs,Bl.dQ,xz]|via t p f b=>grind [Gq,ztd,KD,Bl.dQ,xz]
  |yield l=>exact Bl.dQ<|mE.j.d.1 _ _
theorem Vu{ρ c}{t:Zt}(h:CA P c=aw){p w w' d}(a:(nD ρ c t).run p w=cT d w'):Wn P d.target=aw:=by
 unfold nD at a;unfold CA at h;cases hc:c.callee with
 |builtin b=>
  rw[hc]at a h;cases a;exact h
 |invoke r n=>
  rw[hc]at a;cases a;rfl
 |value f=>rw[hc]at a;unfold Deferred.ofValue at a;dsimp only at a;split at a<;>cases a<;>rfl
def Gm{s k}{q:α->Prop}(o:B P F X s)(z:∀w a w',s.run (wf P F) w=cT a w'->q a)(hk:∀a,q a->BN P F X (k a)):BN P F X<|s>>=k:=by
 classical
 have m:∀p w,(∀a w',s.run p w=cT a w'->q a)->(s>>=k).run p w=(s>>=λa=>if q a then k a else stuck "").run p w:=λp w h=>by rw[show(s>>=k).run p w=_ from qe p s k w,show(s>>=λa=>if q a then k a else stuck "").run p w=_ from qe p s _ w];cases hr:s.run p w with|ok a w'=>simp_all|halt x w'=>rfl
 have l:=Gq (k:=λa=>if q a then k a else stuck "") o (λa=>by grind [Bl.dQ,xz]);have i:∀w,(s>>=k).run (wf P F) w=_:=λw=>m (wf P F) w λa w'=>z w a w';refine⟨λw v c d g y=>?_,λw d g=>?_,λw d=>by rw[i];exact l.iO w d⟩;have b:=g;rw[i]at b;obtain⟨C,n,h⟩:=l.lV w v c d b (λf a w' e=>y f a w' Â);refine⟨C,n, ?_⟩;rw[i];have D:(s>>=k).runT P v c=(s>>=λa=>if q a then k a else stuck "").runT P v c:=by
  rw[show(s>>=k).runT P v c=_ from Yf P s k v c,show(s>>=λa=>if q a then k a else stuck "").runT P v c=_ from Yf P s _ v c];have j:oY<|s.run (wf P F) w:=by rw[show(s>>=k).run (wf P F) w=_ from qe (wf P F) s k w]at g;cases hr:s.run (wf P F) w with|ok a w'=>trivial|halt x w'=>rw[hr]at g;revert g;cases x<;>exact id
  obtain⟨E,r,t⟩:=o.lV w v c d j;rw[t.eq];cases hr:s.run (wf P F) w with|ok a w'=>grind [ge]|halt x w'=>rfl
 grind;have b:=g;rw[i]at b;have:=l.mY w d b;grind [rq]
def Cx(H:ma P F X)(ρ o)(h:sW P o.op=aw):BN P F X<|execOp ρ o:=by
 unfold aL;cases ho:o.op<;>rw[ho]at h<;>simp only[sW,ja]at h<;>dsimp only
 case call c=>exact Gm (DR _ _ _) (λw d b a=>Vu h a) λd hd=>AC H _ _ hd
 case convert src dst x=>grind [Bl.dQ,xq,Ϝ,xr]
 all_goals refine Bl.dQ ?_
 all_goals (repeat' (first|((with_reducible refine Yb _ ?_);next=>(exact trivial))|((with_reducible refine Xq ?_ ?_);next=>(first|(simp;done)|rfl))|(with_reducible first|refine xq ?_ (λ_=>?_)|refine oF ?_ ?_|exact DR _ _ _|exact QE _ _ _ _|exact xr1 _ _ _ _|exact QN _|exact oE.j.j.c.1 _ _ _ _|exact ig.j.j.j.2.2.1 _ _ _|exact Ϯ _ _|exact oE.j.j.2.2.1 _ _ _ _|exact DN.c.1 _ _ _|exact DN.2.2.1 _ _ _ _|exact oE.j.j.2.1 _ _ _|exact oE.j.j.1 _ _|exact ig.j.j.j.2.1 _ _|exact ig.j.j.j.1 _ _ _|exact oE.j.g.1 _ _|exact DN.2.1 _ _ _ _|exact oE.j.f.1 _ _ _|exact oE.j.e.1 _ _ _|exact ig.j.j.g.1 _ _|exact ig.j.j.f.1 _|exact mE.j.c.1 _ _ _|exact mE.j.2.2.1 _ _|exact oE.j.d.1 _ _|exact oE.j.c.1 _ _ _|exact oE.j.2.2.1 _ _|exact DN.1 _ _ _ _ _|exact oE.j.1 _ _ _|exact oE.g.1 _ _ _|exact oE.f.1 _ _|exact DM.2.2 _ _ _|exact oE.e.1 _ _ _ _ _ _|exact mE.j.1 _ _|exact ig.j.1 _|exact qW _|exact xr _)|split))
end
end
section
open Go.Conc
variable [pn:Pn]
section
variable {α β:Type} {P:bT} {F:Array jE} {X:Nat->Prop}
structure Af(P:Zp)(X:ZP)(v w' v':Zy)(es:Array lh):Prop where
 sm:Sm P X w' v'
 iu:∀x,X x->v'.heap[x]?=v.heap[x]?
 qV:∀e∈es,sV X (ak v'.heap) e
 gE:ak v.heap<=ak v'.heap
def P4(P:Zp)(X:ZP)(v:Zy)(s' s:oQ):Prop:=
 ∀g' w' es',s'=gj g' w' es'->g'.dying=ar->∃v' es,s=gj g' v' es/\Af P X v w' v' es
def Nx:Next->Prop
 | fA _| .skip| mo _ _| .round ..| .defer _| .recover=>True
 |_=>False
def Vi(P:Zp)(F:Zc)(f:FuncId):Prop:=F[f]?=P.funcs[f]?/\¬sT F f
def Af.DJ{v w' v' es a}(h:Af P X v w' v' es)(c:∀e∈a,e∈es):Af P X v w' v' a:=
 ⟨h.sm,h.iu,λe b=>h.qV e<|c e b,h.gE⟩
def CR.af{r}{b:kg α×Array lh}{v v' a}(h:CR P X v #[] r b v' a):Af P X v (rW r) v' a:=⟨h.sm,h.iu,h.qV,h.gE⟩
theorem CR.oC{s:Sem α}{r v v' a}(h:CR P X v #[] r (s.runT P v #[]) v' a):s.run P v=ge v' r/\s.events P v #[]=a:=by have:=h.eq;simp_all
def DQ{f}(h:F[f]?=P.funcs[f]?)(args k):aT (wf P F) f args k=aT P f args k:=by grind [aT,wf]
def QH{fr c m b w w' g' es a}(h:aY es (dieOf fr c m b w)=gj g' w' a):g'.dying≠ar:=by unfold dieOf at h;cases h;simp
theorem Gi{fr m w w' g' es a}(h:aY es (endThrow fr m w)=gj g' w' a)(hd:g'.dying=ar):False:=QH h hd
theorem Gh{p fr cs m w w' g' es a}(h:aY es (endFatal p fr cs ar m w)=gj g' w' a)(hd:g'.dying=ar):False:=by unfold endFatal at h;dsimp only at h;split at h;exact QH h hd;cases h;cases h
def DP{P1 P2 s w1 t v2 r fr cs}(hk:fr.kind≠ dY)(j:P1.follows=P2.follows)
  (i:s.run P1 w1=r)(z:s.run P2 t=ge v2 r)(o:rs r)(w:∀n x,r=cT n x->Nx n)(v:∀f a x k,r=cT (mo f a) x->aT P1 f a k=aT P2 f a k)
  {g' w' p}(h:aJ P1 aw fr cs ar s w1=gj g' w' p)(hd:g'.dying=ar):
  oY r/\w'=rW r/\aJ P2 aw fr cs ar s t=gj g' v2 (seen P2 fr.fn<|s.events P2 t #[]):=by
 have e:(fr.kind==dY)=ao:=Þ
 cases r with
 |halt hh x=>
  cases hh with
  |panic y=>
   simp only[aJ,ze,if_true,i,e]at h;cases h;refine⟨trivial,rfl, ?_⟩;grind [aJ,ze,ge,aY]
  |blocked=>exact o.elim|waiting=>exact o.elim
  |goexit=>exact o.elim|fatal m=>grind [aJ,ze,Gh]
  |throw m=>grind [aJ,ze,Gi]
  |exit c=>
   exfalso;simp only[aJ,ze,if_true,i,e]at h;cases h
  |stuck m=>
   exfalso;simp only[aJ,ze,if_true,i,e]at h;cases h
  |unsupported u=>
   exfalso;cases u with
   |initOrder g=>exact o.elim
   |_=>
    simp only[aJ,ze,if_true,i,e]at h;cases h
 |ok n x=>
  have q:=w n x rfl;cases n with
  |value y=>
   simp only[aJ,ze,if_true,i,e]at h;cases h;refine⟨trivial,rfl, ?_⟩;grind [aJ,ze,ge,aY]
  |skip=>
   simp only[aJ,ze,if_true,i,e]at h;cases h;refine⟨trivial,rfl, ?_⟩;grind [aJ,ze,ge,aY]
  |enter f a=>
   simp only[aJ,ze,if_true,i,e]at h;cases h;refine⟨trivial,rfl, ?_⟩;grind [aJ,ze,ge,aY]
  |round l f ts a b=>
   simp only[aJ,ze,if_true,i,e]at h;cases h;refine⟨trivial,rfl, ?_⟩;grind [aJ,ze,ge,aY]
  |defer d=>
   simp only[aJ,ze,if_true,i,e]at h;cases h;refine⟨trivial,rfl, ?_⟩;grind [aJ,ze,ge,aY]
  |recover=>
   simp only[aJ,ze,if_true,i,e,j]at h;cases hro:fr.roundOf with
   |none=>
    cases htr:cL fr cs<;>
    ·simp only[hro,htr]at h;cases h;refine⟨trivial,rfl, ?_⟩;grind [aJ,ze,ge,aY]
   |some l=>
    cases j:P2.follows gK with
    |true=>
     cases htr:cL fr cs<;>
     ·simp only[hro,j,htr,if_true]at h;cases h;refine⟨trivial,rfl, ?_⟩;grind [aJ,ze,ge,aY]
    |false=>
     cases htr:tryRecoverLoop l cs<;>
     ·simp only[hro,j,htr,ja,if_false]at h;cases h;refine⟨trivial,rfl, ?_⟩;grind [aJ,ze,ge,aY]
  |_=>exact q.elim
def χ{s}(j:BN P F X s){w v}(d:Sm P X w v){fr cs}(hk:fr.kind≠ dY)
  (i:∀n w1,s.run (wf P F) w=cT n w1->Nx n)(c:∀f a w1,s.run (wf P F) w=cT (mo f a) w1->Vi P F f):
  P4 P X v (aJ (wf P F) aw fr cs ar s w) (aJ P aw fr cs ar s v):=by
 intro z B o h hd;have b:=j.iO w d.iC;have r:=(DP (P2:=wf P F) hk rfl rfl (Cz _).symm b i (λ_ _ _ _ _=>rfl) h hd).1;obtain⟨y,t,g⟩:=j.lV w v #[] d r λf a w1 e=>(c f a w1 e).2;obtain⟨p,q⟩:=g.oC;obtain⟨_,l,m⟩:=DP (P1:=wf P F) (P2:=P) (s:=s) (w1:=w) hk rfl rfl p b i (λf a x k e=>DQ (c f a x e).1 a k) h hd;refine⟨y,_,m, ?_⟩;rw[l,q];exact g.af.DJ λe c=>mem_seen c
def Cs(w:Zy)(st:Zy->oQ):Prop:=∀g' w' es',st w=gj g' w' es'->g'.dying=ar->w.drawn<=w'.drawn/\w'.tape=w.tape/\
 ∀t d,AH w (w'.drawn-w.drawn) t d->∃es,st (re w t d)=gj g' (re w' t<|d+(w'.drawn-w.drawn)) es
def QI{s}(e:BN P F X s){w}(b:Sm P X w w){fr cs}(hk:fr.kind≠ dY)
  (c:∀n w1,s.run (wf P F) w=cT n w1->Nx n):Cs w<|stepG.apply (wf P F) aw fr cs ar s:=by
 intro m o g h hd;have a:=e.iO w b;obtain⟨i,f,_⟩:=DP (P2:=wf P F) hk rfl rfl (Cz _).symm a c (λ_ _ _ _ _=>rfl) h hd;obtain⟨l1,k,l⟩:=e.mY w b i;rw[f];refine⟨l1,k,λt d j=>⟨_,(DP (P2:=wf P F) hk rfl rfl (l t d j) a c (λ_ _ _ _ _=>rfl) h hd).2.2⟩⟩
end
end
end A
namespace A
open Go Go.Conc
section
variable [pn:Pn]
section
variable {α β:Type} {P:bT} {F:Array jE} {X:Nat->Prop}
def jr{s}{k:α->Sem β}{p w w1 b}(h:(s>>=k).run p w=cT b w1):∃a w2,s.run p w=cT a w2/\(k a).run p w2=cT b w1:=by rw[show(s>>=k).run p w=_ from qe p s k w]at h;cases hs:s.run p w with|ok a w2=>rw[hs]at h;exact⟨a,w2,rfl,h⟩|halt x w2=>simp_all
theorem GL{s p w w1 n}(h:(s>>=λx=>(fX (fA x):Sem Next)).run p w=cT n w1):Nx n:=ĩ
def GO{s:Sem Unit}{p w w1 n}(h:(s>>=λ_=>(fX .skip:Sem Next)).run p w=cT n w1):Nx n:=ĩ
def Ld(H:ma P F X){f args w w1 n}(h:(nE f args).run (wf P F) w=cT n w1):Nx n:=by
 unfold nE at h;obtain⟨p,d,c,a⟩:=jr h;cases c;change(match F[f]?with|none=>_|some fn=>_:Sem Next).run (wf P F) w=_ at a;cases hf:F[f]?with
 |none=>simp_all
 |some fn=>
  rw[hf]at a;simp only[H.DK f fn hf]at a;cases hb:fn.body.isNone with
  |false=>
   simp only[hb]at a;cases a;trivial
  |true=>simp only[hb,if_true,H.dQ f fn hf hb]at a;obtain⟨_,g,_,b⟩:=jr a;cases he:mU fn with|some e=>grind [GL]|none=>rw[he]at b;dsimp only at b;split at b;cases b;trivial;cases b
def Q'(H:ma P F X){r a args w w1 n}(h:(callMethod r a args).run (wf P F) w=cT n w1):Nx n:=by unfold callMethod at h;split at h;obtain⟨p,f,d,b⟩:=jr h;obtain⟨y,g,e,c⟩:=jr b;exact Ld H c;exact absurd h<|Vg _ _ _ _ _;cases h
def xdx{b d}{t:Zt}{c a}(e:yM P b d=aw){p w w1 n}(h:(builtin b d t c a).run p w=cT n w1):Nx n:=by unfold builtin at h;cases b<;>simp only[yM,ja]at e<;>first|exact GL h|(cases h;trivial)
def xpb{l a p w w1 n}(h:(Instr.yield l a).run p w=cT n w1):Nx n:=by unfold Instr.yield at h;obtain⟨r,d,c,b⟩:=jr h;split at b;simp_all;cases b;trivial
theorem yV(H:ma P F X){t args}(d:Wn P t=aw){w w1 n}(h:(ol t args).run (wf P F) w=cT n w1):Nx n:=by
 unfold ol at h;cases t with
 |nil=>exact absurd h<|Vg _ _ _ _ _
 |builtin b ts u c=>exact xdx d h|collected r=>cases h
 |coroexit c=>cases d
 |fn f c=>
  cases f with
  |func f=>exact Ld H h
  |method m=>
   dsimp only at h;split at h;exact Q' H h;cases h
  |methodOf t m=>
   dsimp only at h;split at h;obtain⟨p,g,e,a⟩:=jr h;exact Q' H a;cases h
  |via t p f b=>
   dsimp only at h;split at h;obtain⟨p,g,e,a⟩:=jr h;exact Ld H a;cases h
  |yield l=>exact xpb h
def GK(H:ma P F X){ρ o}(ho:sW P o.op=aw){w w1 n}(h:(aL ρ o).run (wf P F) w=cT n w1):Nx n:=by
 unfold aL at h;cases hop:o.op<;>rw[hop]at ho h<;>simp only[sW,ja]at ho
 case call c=>obtain⟨d,e,b,a⟩:=jr h;exact yV H (Vu ho b) a
 case defer c=>obtain⟨d,e,b,a⟩:=jr h;cases a;trivial
 case move=>cases h;trivial
 case assign=>cases h;trivial
 case pick=>obtain⟨d,e,b,a⟩:=jr h;cases a;trivial
 case panic=>exact GL h
 case nilCheck x=>dsimp only at h;split at h;exact absurd h<|Vg _ _ _ _ _;exact absurd h<|Vg _ _ _ _ _;exact absurd h<|Vg _ _ _ _ _;split at h;exact absurd h<|Vg _ _ _ _ _;obtain⟨p,e,b,a⟩:=jr h;obtain⟨y,i,g,f⟩:=jr a;split at f;simp_all;cases f;trivial;cases h;trivial;cases h;trivial
 all_goals first|exact GL h|exact GO h
end
section
variable {α β:Type} {P:bT} {F:Array jE} {X:Nat->Prop}
def xd0{ops}(h:tW P ao ops=aw):tW P aw ops=aw:=by grind [tW]
def yU:∀{c:nW},q9 P ao c=aw->q9 P aw c=aw
 | eU _ ops _,h=>xd0 h| fO a b,h=>by simp only[q9,jy]at*;exact⟨yU h.1,yU h.2⟩
 | .cond _ a b,h=>by simp only[q9,jy]at*;exact⟨yU h.1,yU h.2⟩| .block _ a,h=>yU (c:=a) h
 | .loop a,h=>yU (c:=a) h| .scope a,h=>yU (c:=a) h
 | .rangeFunc _ _ a b,h=>h| .skip,_| .exit _,_| .label _,_| .goto _,_| .ret,_| .refuse _,_=>rfl
def xdy{b c}(h:q9 P ao c=aw):q9 P b c=aw:=by cases b with|false=>exact h|true=>exact yU h
def Vt(P:Zp)(b:Bool):Item->Prop
 | cD c=>q9 P b c=aw| mS c=>q9 P b c=aw
 | .inScope c=>q9 P b c=aw| aM ops _=>tW P b ops=aw
 | .call ..=>False| .extern ..=>False
 |_=>True
structure Jy(P:Zp)(fr:Zf):Prop where
 jY:∀it∈fr.todo,Vt P fr.roundOf.isNone it
 lW:∀d∈fr.defers,Wn P d.target=aw
 dW:fr.kind≠ dY/\fr.kind≠ oA
 kG:P.inits.idxOf? fr.fn=ar
def Mc(P:Zp)(f:FuncId):Prop:=∃fn c,P.funcs[f]?=ac fn/\fn.body=ac c/\q9 P aw c=ao
def lL(P:Zp)(fr:Zf):Prop:=Mc P fr.fn\/Jy P fr
def ry(P:Zp)(g:Zg):Prop:=lL P g.frame/\∀c∈g.callers,lL P c
def Jy.AO{fr}(h:Jy P fr){k}(hk:∀it∈k,Vt P fr.roundOf.isNone it):Jy P {fr with todo:=k}:=⟨hk,h.lW,h.dW,h.kG⟩
def Jy.oZ{fr}(h:Jy P fr)(m):Jy P {fr with mode:=m}:=⟨h.jY,h.lW,h.dW,h.kG⟩
theorem Jy.gV{fr}(h:Jy P fr)(a):Jy P<|fr.raise a:=ĭ
theorem Jy.iD{fr}(h:Jy P fr)(v):Jy P<|fr.finish v:=by
 unfold Frame.finish;have b:=h.jY;split;rename_i ops i rest k e;rw[e]at b;refine⟨λc a=>?_,h.lW,h.dW,h.kG⟩;simp only[jc]at a;obtain rfl|a:=a;exact b (aM ops (i::rest)) Ä
 grind;rename_i l k e;rw[e]at b;refine⟨λc a=>?_,h.lW,h.dW,h.kG⟩;simp only[jc]at a;obtain rfl|a:=a;trivial;grind;rename_i k e;rw[e]at b;exact⟨λc a=>b c Â,h.lW,h.dW,h.kG⟩;rename_i e;rw[e]at b;exact dI<|b _<|xu ..;rename_i e;rw[e]at b;exact dI<|b _<|xu ..;omega
def lL.oZ{fr}(h:lL P fr)(m):lL P {fr with mode:=m}:=h.imp id λh=>h.oZ m
theorem lL.gV{fr}(h:lL P fr)(a):lL P<|fr.raise a:=ĭ
def xjn(fr:Zf)(v):(fr.finish v).fn=fr.fn:=ć
theorem lL.iD{fr}(h:lL P fr)(v):lL P<|fr.finish v:=h.imp (λh=>by rw[xjn];exact h) λh=>h.iD v
def K7{b id}:∀{k k':List Item},(∀it∈k,Vt P b it)->exitTo id k=ac k'->∀it∈k',Vt P b it
 |[],k',h,e=>Ç
 |x::k,k',h,e=>by have hk:∀it∈k,Vt P b it:=λit a=>h it Â;unfold exitTo at e;split at e;rename_i id' k1 e1;cases e1;split at e;grind;exact K7 hk e;rename_i x1 k1 _ e1;cases e1;exact K7 hk e;grind
def K6{b l}:∀{c r:nW},q9 P b c=aw->findLabel c l=ac r->q9 P b r=aw
 | fO x y,r,h,e=>by
  simp only[q9,jy]at h;unfold findLabel at e;cases hx:findLabel x l with
  |some r1=>
   rw[hx]at e;cases e;simp only[q9,jy];exact⟨K6 h.1 hx,h.2⟩
  |none=>rw[hx]at e;exact K6 h.2 e
 | .label l',r,h,e=>by
  unfold findLabel at e;split at e<;>cases e
  rfl
 | .skip,r,_,e| eU ..,r,_,e| .cond ..,r,_,e| .block ..,r,_,e| .loop _,r,_,e| .rangeFunc ..,r,_,e| .exit _,r,_,e| .scope _,r,_,e| .goto _,r,_,e| .ret,r,_,e| .refuse _,r,_,e=>Ç
def K8{b l}:∀{k k':List Item},(∀it∈k,Vt P b it)->gotoIn l k=ac k'->∀it∈k',Vt P b it
 |[],k',h,e=>Ç
 |x::k,k',h,e=>by have hk:∀it∈k,Vt P b it:=λit a=>h it Â;unfold gotoIn at e;split at e;rename_i body k1 e1;cases e1;have c:q9 P b body=aw:=h (.inScope body) Ä;split at e;rename_i r hr;cases e;intro it a;simp only[jc]at a;obtain rfl|rfl|a:=a;exact K6 c hr;exact c;grind;exact K8 hk e;rename_i x1 k1 _ e1;cases e1;exact K8 hk e;grind
theorem GG:∀{cs cs':List Zf} {fr:Zf} {v:Zv},(∀c∈cs,lL P c)->cL fr cs=ac (v,cs')->∀c∈cs',lL P c
 |[],cs',fr,v,h,e=>Œ
 |c::cs,cs',fr,v,h,e=>by
  unfold cL at e;split at e;rename_i caller rest hk e1;cases e1;split at e;cases e;intro x a;simp only[jc]at a;obtain rfl|a:=a;exact(h c Ä).oZ _;grind;grind;rename_i wrapper rest hk e1;cases e1;cases ht:cL c cs with|none=>grind|some y=>rw[ht]at e;cases e;intro x a;simp only[jc]at a;obtain rfl|a:=a;grind;exact GG (λz b=>h z<|by simp[b]) ht x a
  grind
theorem GF:∀{cs cs':List Zf} {l:Nat} {v:Zv},(∀c∈cs,lL P c)->tryRecoverLoop l cs=ac (v,cs')->∀c∈cs',lL P c
 |[],cs',l,v,h,e=>Ç
 |c::cs,cs',l,v,h,e=>by have hk:∀x∈cs,lL P x:=λx a=>h x (by simp[a]);unfold tryRecoverLoop at e;obtain⟨y,b,d⟩:=zv.1 e;cases d;intro x a;simp only[jc]at a;obtain rfl|a:=a;grind;split at b;exact GF hk b x a;split at b;grind [GG];exact GF hk b x a;exact GF hk b x a
end
section
variable {α β:Type} {P:bT} {F:Array jE} {X:Nat->Prop}
def xL(P:Zp):Next->Prop
 | .round _ f _ a b=>q9 P ao a=aw/\q9 P ao b=aw/\P.inits.idxOf? f=ar| .defer d=>Wn P d.target=aw
 |_=>True
def Q2{ρ c}{t:Zt}{p w w' d}(a:(nD ρ c t).run p w=cT d w'):w'=w:=by
 unfold nD at a;cases hc:c.callee with
 |builtin b=>simp_all|invoke r n=>simp_all
 |value f=>rw[hc]at a;unfold Deferred.ofValue at a;dsimp only at a;split at a<;>cases a<;>rfl
def Rb{l p w w' r}(h:(Instr.getLoop l).run p w=cT r w'):w.heap[l]?=ac (.loop r)/\w'=w:=by
 unfold Instr.getLoop at h;obtain⟨o,c,a,b⟩:=jr h;rw[Yg]at a;cases ho:w.heap[l]?with
 |none=>grind
 |some o'=>
  rw[ho]at a;cases o'<;>cases a<;>cases b
  grind
def zw7{f args p w w1 n}(i:Nx n)(h:(nE f args).run p w=cT n w1)(g:∀fn,p.funcs[f]?=ac fn->fn.body.isNone=aw->jP fn=ar):xL P n:=by unfold nE at h;obtain⟨j,k,d,b⟩:=jr h;cases d;cases hq:p.funcs[f]?with|none=>simp_all|some fn=>rw[hq]at b;dsimp only at b;split at b;cases b;trivial;split at b;rename_i hb;rw[g fn hq hb]at b;obtain⟨_,l,_,c⟩:=jr b;dsimp only at c;split at c;obtain⟨a,m,_,e⟩:=jr c;cases e;trivial;split at c;cases c;trivial;cases c;cases b;trivial
def Lf(H:ma P F X){t args}(j:Wn P t=aw){w w1}(o:Sm P X w w){n}(h:(ol t args).run (wf P F) w=cT n w1):xL P n:=by
 have x:=yV H j h;have s:∀{f:FuncId} {args:Za} {g:Zy},(nE f args).run (wf P F) g=cT n w1->xL P n:=λh=>zw7 x h λfn e b=>H.dQ _ fn e b;have v:∀{r:Zv} {name:String} {args:Za} {g:Zy},(callMethod r name args).run (wf P F) g=cT n w1->xL P n:=λh=>by unfold callMethod at h;split at h;obtain⟨p,g,i,d⟩:=jr h;obtain⟨y,C,z,B⟩:=jr d;grind;exact absurd h<|Vg _ _ _ _ _;cases h
 unfold ol at h;cases t with
 |nil=>exact absurd h<|Vg _ _ _ _ _
 |builtin b ts u c=>
  unfold builtin at h;have q:yM P b ts=aw:=j;cases b<;>simp only[yM,ja]at q<;>first|(obtain⟨a,g,_,d⟩:=jr h;cases d;trivial)|(cases h;trivial)
 |collected r=>cases h
 |coroexit c=>cases j
 |fn f c=>
  cases f with
  |func f=>grind
  |method m=>
   dsimp only at h;split at h;grind;cases h
  |methodOf t m=>
   dsimp only at h;split at h;obtain⟨p,g,i,d⟩:=jr h;grind;cases h
  |via t p f b=>
   dsimp only at h;split at h;obtain⟨p,g,i,d⟩:=jr h;grind;cases h
  |yield l=>unfold Instr.yield at h;obtain⟨r,g,i,d⟩:=jr h;obtain⟨k,rfl⟩:=Rb i;split at d;simp_all;cases d;have:=(o.pz l).pw r k;exact⟨this.1,this.2.1,this.c⟩
def xdv(H:ma P F X){ρ o}(ho:sW P o.op=aw){w w1}(i:Sm P X w w){n}(h:(aL ρ o).run (wf P F) w=cT n w1):xL P n:=by
 have k:=GK H ho h;unfold aL at h;cases hop:o.op<;>rw[hop]at ho h<;>simp only[sW,ja]at ho
 case call c=>obtain⟨d,f,e,b⟩:=jr h;obtain rfl:=Q2 e;exact Lf H (Vu ho e) i b
 case defer c=>obtain⟨d,f,e,b⟩:=jr h;cases b;exact Vu ho e
 case move=>cases h;trivial
 case assign=>cases h;trivial
 case nilCheck x=>dsimp only at h;split at h;exact absurd h<|Vg _ _ _ _ _;exact absurd h<|Vg _ _ _ _ _;exact absurd h<|Vg _ _ _ _ _;split at h;exact absurd h<|Vg _ _ _ _ _;obtain⟨p,f,e,b⟩:=jr h;obtain⟨y,l,j,g⟩:=jr b;split at g;simp_all;cases g;trivial;cases h;trivial;cases h;trivial
 all_goals (obtain⟨a,f,_,b⟩:=jr h;cases b;trivial)
def sx(P:Zp)(F:Zc):Prop:=∀f,Vi P F f->P.inits.idxOf? f=ar/\(Mc P f\/∀fn c,F[f]?=ac fn->fn.body=ac c->q9 P aw c=aw)
def Lj(e:sx P F){f}(g:Vi P F f)(h:¬Mc P f)(a){k}(hk:k≠ dY/\k≠ oA):Jy P<|Frame.enter (wf P F) f a k:=by
 refine⟨λi b=>?_,λd hd=>(by cases hd),hk,(e f g).1⟩;unfold aT at b;simp only[ju]at b;subst b;show q9 P aw _=aw;rw[show(wf P F).funcs[f]?=F[f]?from rfl];cases hf:F[f]?with
 |none=>rfl
 |some fn=>cases hb:fn.body with|none=>simp[hb];rfl|some c=>simp[hb];exact(e f g).2.resolve_left h fn c hf hb
def Ec(b:sx P F){f}(d:Vi P F f)(a){k}(hk:k≠ dY/\k≠ oA):lL P<|Frame.enter (wf P F) f a k:=
 (Classical.em<|Mc P f).imp id λc=>Lj b d c a hk
def QS{l f e a b}(h:q9 P ao a=aw/\q9 P ao b=aw/\P.inits.idxOf? f=ar){k}(hk:k≠ dY/\k≠ oA):Jy P<|Frame.round l f e a b k:=by refine⟨λg c=>?_,λd hd=>(by cases hd),hk,h.2.2⟩;unfold Frame.round at c;simp only[jc,GA,or_false]at c;obtain rfl|rfl|rfl:=c;exact h.1;trivial;exact h.2.1
def GM(G:sx P F){s w fr cs}(g:Jy P fr)(j:∀c∈cs,lL P c)(D:rs<|s.run (wf P F) w)(E:∀n x,s.run (wf P F) w=cT n x->Nx n)
  (hk:∀n x,s.run (wf P F) w=cT n x->xL P n)(q:∀f a x,s.run (wf P F) w=cT (mo f a) x->Vi P F f)
  {g' w' r}(h:aJ (wf P F) aw fr cs ar s w=gj g' w' r)(hd:g'.dying=ar):ry P g':=by
 have i:(fr.kind==dY)=ao:=by have:=g.dW.1;cases hq:fr.kind<;>simp_all
 have m:∀c∈fr::cs,lL P c:=λc z=>by simp only[jc]at z;obtain rfl|z:=z;exact aE g;grind
 have B:∀k:CallKind,(k=match fr.todo with| .call _ aw _ _::_=>CallKind.wrapped|_=>cJ)->k≠ dY/\k≠ oA:=λk e=>Â
 have o:=(DP (P2:=wf P F) g.dW.1 rfl rfl (Cz _).symm D E (λ_ _ _ _ _=>rfl) h hd).1;cases hr:s.run (wf P F) w with
 |halt hh x=>
  rw[hr]at o;cases hh with
  |panic y=>
   simp only[aJ,ze,if_true,hr,i]at h;cases h;exact⟨aE<|g.gV _,j⟩
  |_=>exact o.elim
 |ok n x=>
  have C:=E n x hr;have t:=hk n x hr;cases n with
  |value y=>
   simp only[aJ,ze,if_true,hr,i]at h;cases h;exact⟨aE<|g.iD _,j⟩
  |skip=>
   simp only[aJ,ze,if_true,hr,i]at h;cases h;exact⟨aE<|g.iD _,j⟩
  |enter f a=>
   simp only[aJ,ze,if_true,hr,i]at h;cases h;exact⟨Ec G (q f a _ hr) a<|B _ rfl,m⟩
  |round l f ts a b=>
   simp only[aJ,ze,if_true,hr,i]at h;cases h;exact⟨aE<|QS t ⟨Ä,Ä⟩,m⟩
  |defer d=>
   simp only[aJ,ze,if_true,hr,i]at h;cases h;have:Jy P {fr with defers:=d::fr.defers}:=⟨g.jY,λe q=>by simp only[jc]at q;obtain rfl|q:=q;exact t;exact g.lW e q,g.dW,g.kG⟩;exact⟨aE<|this.iD _,j⟩
  |recover=>
   simp only[aJ,ze,if_true,hr,i]at h;have fin:∀y:Option<|Zv×List Zf,(∀v p,y=ac (v,p)->∀c∈p,lL P c)->aY (seen (wf P F) fr.fn (if ao=aw then#[]else s.events (wf P F) w #[])) (match y with
     |some (v,callers)=>gj {frame:=fr.finish v,callers,status:=aZ,dying:=ar} x|none=>gj {frame:=fr.finish .nilIface,callers:=cs,status:=aZ,dying:=ar} x)=gj g' w' r->ry P g':=λy H h=>by
    cases y with
    |none=>cases h;exact⟨aE<|g.iD _,j⟩
    |some y=>cases h;exact⟨aE<|g.iD _,H _ _ rfl⟩
   refine fin _ (λv p e=>?_) h;grind [GG,GF]
  |_=>exact C.elim
end
section
variable {α β γ:Type} {P:bT} {F:Array jE} {X:Nat->Prop}
structure G3(En:Prop)(P:Zp)(X:ZP)(w v:Zy)(st':Zy->oQ)(st:oQ):Prop where
 AM:En->P4 P X v (st' w) st
 mY:Cs w st'
 ok:En->∀g' w' es',st' w=gj g' w' es'->g'.dying=ar->ry P g'
section
variable {En:Prop}
def Af.uT{w v}(a:Sm P X w v):Af P X v w v #[]:=⟨a,λ_ _=>rfl,Ä,zd _⟩
def xM{w v}(f:Sm P X w v){st' st g1}(d:∀w,st' w=gj g1 w #[])(h:st=gj g1 v #[])(ok:g1.dying=ar->ry P g1):G3 En P X w v st' st:=by refine⟨λ_ b c a e hd=>?_,λb c a e hd=>?_,λ_ b c a e hd=>?_⟩;rw[d]at e;cases e;exact⟨v,#[],h,.uT f⟩;simp_all;grind
theorem yW{w v st' st}(a:∀g' w' es',st' w≠ gj g' w' es'):G3 En P X w v st' st:=
 ⟨λ_ g' w' es' e _=>absurd e<|a _ _ _,λg' w' es' e _=>absurd e<|a _ _ _,λ_ g' w' es' e _=>absurd e<|a _ _ _⟩
def Ll{s}(j:B P F X s){w v}(h:Sm P X w v){fn}{cont' cont:kg γ->oQ}
  (g:∀r g' w' es',cont' r=gj g' w' es'->g'.dying=ar->oY r/\w'=rW r/\es'=#[]/\∀u,cont' (ge u r)=gj g' u #[]/\cont (ge u r)=gj g' u #[])
  (m:∀g' w' es',cont' (s.run (wf P F) w)=gj g' w' es'->g'.dying=ar->ry P g'):
  G3 En P X w v (λw=>aY (seen (wf P F) fn<|s.events (wf P F) w #[])<|cont'<|s.run (wf P F) w) (aY (seen P fn<|s.events P v #[])<|cont<|s.run P v):=by
 have inv:∀{f es':Array lh} {st:oQ} {g':Zg} {w':Zy},aY f st=gj g' w' es'->∃a,st=gj g' w' a:=λ{f es' st g' w'} e=>by
  cases st<;>cases e
  grind
 refine⟨λ_ g' w' es' e hd=>?_,λg' w' es' e hd=>?_,λ_ g' w' es' e hd=>?_⟩;obtain⟨a,b⟩:=inv e;obtain⟨c,rfl,_,k⟩:=g _ _ _ _ b hd;obtain⟨n,d,i⟩:=j.lV w v #[] h c;obtain⟨o,p⟩:=i.oC;refine⟨n,seen P fn d, ?_,i.af.DJ λe l=>mem_seen l⟩;grind [aY];obtain⟨a,b⟩:=inv e;obtain⟨c,rfl,_,k⟩:=g _ _ _ _ b hd;obtain⟨l1,q,t⟩:=j.mY w h.iC c;grind [aY];grind
def zyf{p s w x f a}(c:s.run p w=cT (mo f a) x){fr cs}(hk:fr.kind≠ dY):
  ∃k es,aJ p aw fr cs ar s w=gj {frame:=aT p f a k,callers:=fr::cs,status:=aZ,dying:=ar} x es:=by
 have b:(fr.kind==dY)=ao:=Þ
 exact⟨_,_,by simp only[aJ,ze,if_true,c,b];rfl⟩
def tX(P:Zp)(F:Zc)(n:Nat)(s:oQ):Prop:=∀g' w' es',s=gj g' w' es'->aa g'.callers=n+1->g'.frame.roundOf=ar->Vi P F g'.frame.fn
def Ri(p:sx P F){s w v}(g:Sm P X w v){fr cs}(b:Jy P fr)(i:∀c∈cs,lL P c)(l:BN P F X s)
  (j:∀n x,s.run (wf P F) w=cT n x->Nx n)(hk:∀n x,s.run (wf P F) w=cT n x->xL P n)(q:En->tX P F (aa cs) (aJ (wf P F) aw fr cs ar s w)):
  G3 En P X w v (aJ (wf P F) aw fr cs ar s) (aJ P aw fr cs ar s v):=by
 have m:En->∀f a x,s.run (wf P F) w=cT (mo f a) x->Vi P F f:=λd f a x e=>by obtain⟨k,r,h⟩:=zyf (cs:=cs) e b.dW.1;exact q d _ _ _ h rfl rfl
 exact⟨λd=>χ l g b.dW.1 j<|m d,QI l g.iC b.dW.1 j,λd t y o e hd=>GM p b i (l.iO w g.iC) j hk (m d) e hd⟩
def GI{fr c cs}(hk:fr.kind≠ dY/\fr.kind≠ oA)(b:lL P c)(a:∀x∈cs,lL P x)(val):
  ∃g1,(∀p w,ft p aw fr (c::cs) ar val w=gj g1 w #[])/\g1.dying=ar/\ry P g1:=by
 cases hq:fr.kind with
 |normal=>exact⟨_,λp w=>by simp[ft,hq];rfl,rfl,b.iD _,a⟩|wrapped=>exact⟨_,λp w=>by simp[ft,hq];rfl,rfl,b.iD _,a⟩
 |early=>grind|report=>grind
 |deferred=>refine⟨_,λp w=>by simp only[ft,hq];rfl,rfl, ?_,a⟩;dsimp only;split;split;exact b.oZ _;exact b.oZ _;omega
def GH{p fr}(hk:fr.kind≠ oA)(a:p.inits.idxOf? fr.fn=ar)(val w):ft p aw fr [] ar val w=gq (.done val) w:=by grind [ft]
end
end
section
variable {En:Prop} {α β γ:Type} {P:bT} {F:Array jE} {X:Nat->Prop}
def Yi(p:Zp)(fr:Zf)(cs:List Zf)(jump:Option nW)(w:Zy):oQ:=
 match fr.roundOf with
 |none=>if jump matches ar|some .ret then gj {frame:={fr with mode:=dN},callers:=cs,status:=aZ,dying:=ar} w else gq (hY "exit, goto: no such block or label" (fr.pos p)) w
 |some l=>aY (seen p fr.fn<|(kT l jump).events p w #[]) (match(kT l jump).run p w with
  | cT v w=>ft p aw fr cs ar v w| eI _ w=>gq (hY "range over a function: no such loop" (fr.pos p)) w)
def xok{fr cs w v}(i:Sm P X w v)(f:Jy P fr)(d:∀c∈cs,lL P c)(k:cs=[]->P.inits.idxOf? fr.fn=ar)(b)(t:∀c,b=ac c->q9 P ao c=aw):
  G3 En P X w v (Yi (wf P F) fr cs b) (Yi P fr cs b v):=by
 unfold Yi;cases hro:fr.roundOf with
 |none=>
  have m:Jy P {fr with mode:=dN,roundOf:=ar}:=by have:=f.oZ dN;rw[hro]at this;exact this
  cases b with
  |none=>exact xM i (λ_=>rfl) rfl λ_=>⟨aE m,d⟩
  |some c=>
   cases c with|ret=>exact xM i (λ_=>rfl) rfl λ_=>⟨aE m,d⟩|_=>grind [yW]
 |some l=>
  dsimp only;refine Ll (cont':=λr=>match r with
   | cT v w=>ft (wf P F) aw fr cs ar v w| eI _ w=>gq (hY "range over a function: no such loop" (fr.pos<|wf P F)) w) (cont:=λr=>match r with
   | cT v w=>ft P aw fr cs ar v w| eI _ w=>gq (hY "range over a function: no such loop" (fr.pos P)) w) (ό l b t) i (λr n y h e hd=>?_) λn y h e hd=>?_
  cases r with
  |halt x w1=>cases e
  |ok a w1=>
   dsimp only at e;cases cs with
   |nil=>rw[GH (p:=wf P F) f.dW.2<|k rfl]at e;cases e
   |cons c cs=>obtain⟨o,g,q,s⟩:=GI (cs:=cs) f.dW (d c Ä) (λx j=>d x<|jw _ j) a;rw[g]at e;cases e;exact⟨trivial,rfl,rfl,λu=>⟨g _ _,g _ _⟩⟩
  cases hr:(kT l b).run (wf P F) w with
  |halt x w1=>grind
  |ok a w1=>
   rw[hr]at e;dsimp only at e;cases cs with
   |nil=>rw[GH (p:=wf P F) f.dW.2<|k rfl]at e;cases e
   |cons c cs=>obtain⟨o,g,q,s⟩:=GI (cs:=cs) f.dW (d c Ä) (λx j=>d x<|jw _ j) a;grind
def K3{s}(D:B P F X s){w v}(r:Sm P X w v){fn}{K' K:γ->Zy->oQ}{E' E:Zy->oQ}
  (hk:∀a w1 v1,s.run (wf P F) w=cT a w1->Sm P X w1 v1->G3 En P X w1 v1 (K' a) (K a v1))(O:∀w g' w' es',E' w≠ gj g' w' es'):
  G3 En P X w v (λw=>aY (seen (wf P F) fn<|s.events (wf P F) w #[]) (match s.run (wf P F) w with| cT a w=>K' a w| eI _ w=>E' w))
   (aY (seen P fn<|s.events P v #[]) (match s.run P v with| cT a w=>K a w| eI _ w=>E w)):=by
 have inv:∀{h es':Array lh} {st:oQ} {g':Zg} {w':Zy},aY h st=gj g' w' es'->∃b,st=gj g' w' b:=λ{h es' st g' w'} e=>by
  cases st<;>cases e
  grind
 cases hr:s.run (wf P F) w with
 |halt x w1=>grind [yW]
 |ok a w1=>
  obtain⟨v1,n,g⟩:=D.lV w v #[] r Ú;obtain⟨l1,l,m⟩:=D.mY w r.iC Ú;rw[hr]at g l1 l m;simp only[rW,ge]at l1 l m;obtain⟨o,H⟩:=g.oC;simp only[ge]at o;have k:=hk a w1 v1 hr g.sm;refine⟨λj g' w' es' e hd=>?_,λg' w' es' e hd=>?_,λj g' w' es' e hd=>?_⟩;obtain⟨b,c⟩:=inv e;rw[hr]at c;obtain⟨N,h,p,f⟩:=k.AM j _ _ _ c hd;rw[o,H];dsimp only;rw[p];refine⟨N,seen P fn n++h,rfl,f.sm,λx G=>(f.iu x G).trans<|g.iu x G,λy J=>?_,xa g.gE f.gE⟩;obtain z|z:=GB.1 J;exact(g.qV y<|mem_seen z).W f.gE;exact f.qV y z;obtain⟨b,c⟩:=inv e;rw[hr]at c;obtain⟨R,L,M⟩:=k.mY _ _ _ c hd;refine⟨À,L.trans l,λt d C=>?_⟩;have p:=m t d (C.le À);obtain⟨I,f⟩:=M t (d+(w1.drawn-w.drawn)) (λi q Q=>by
   have:=C (w1.drawn-w.drawn+i) q À
   grind)
  grind [aY];obtain⟨b,c⟩:=inv e;rw[hr]at c;exact k.ok j _ _ _ c hd
def Le{b it k}(h:∀x∈it::k,Vt P b x):∀x∈k,Vt P b x:=λx a=>h x<|by simp[a]
def Jq{b it k}(h:Vt P b it)(hk:∀x∈k,Vt P b x):∀x∈it::k,Vt P b x:=λx a=>Â
end
section
variable {En:Prop} {α β γ:Type} {P:bT} {F:Array jE} {X:Nat->Prop}
theorem xij(s):aY #[] s=s:=by cases s<;>simp[aY]
theorem G3.bR{w v a b c d}(h:G3 En P X w v b d)(e:∀w,a w=b w)(f:c=d):G3 En P X w v a c:=by rw[show a=b from funext e,f];exact h
theorem zte(q p w):(choose q).events p w #[]=#[]:=Ä
theorem xp5(p fn):seen p fn #[]=#[]:=by simp[seen]
def xc4{l p w w1 j}(f:Sm P X w w)(h:(jD l).run p w=cT j w1):∀c,j=ac c->q9 P ao c=aw:=by unfold jD at h;obtain⟨r,m,e,a⟩:=jr h;obtain⟨d,rfl⟩:=Rb e;have k:=(f.pz l).pw r d;split at a;obtain⟨_,g,b,_⟩:=jr a;exact absurd b<|Vg _ _ _ _ _;obtain⟨_,g,b,i⟩:=jr a;simp_all
theorem QX{fn k j a b r p w w1 l mark}(h:(ez fn k j a b r).run p w=cT (l,mark) w1):∀d∈mark,Wn P d.target=aw:=by
 unfold ez at h;cases r with
 |some l0=>
  dsimp only at h;obtain⟨x,m,e,c⟩:=jr h;simp_all
 |none=>dsimp only at h;obtain⟨x,m,e,c⟩:=jr h;obtain⟨y,o,f,g⟩:=jr c;obtain⟨z,q,n,i⟩:=jr g;cases f;cases i;intro d hd;simp only[ju]at hd;subst hd;rfl
def xsy(H:ma P F X)(hC:sx P F){w v}(J:Sm P X w v){fr cs}(g:Jy P fr)(z:∀c∈cs,lL P c)(hB:cs=[]->P.inits.idxOf? fr.fn=ar)
  (hE:En->tX P F (aa cs) (aD (wf P F) aw aw fr cs ar w)):
  G3 En P X w v (aD (wf P F) aw aw fr cs ar) (aD P aw aw fr cs ar v):=by
 have Y:=g.jY;have C:∀{k':List Item},(∀it∈k',Vt P fr.roundOf.isNone it)->(∀p w,aD p aw aw fr cs ar w=gj {frame:={fr with todo:=k'},callers:=cs,status:=aZ,dying:=ar} w #[])->
   G3 En P X w v (aD (wf P F) aw aw fr cs ar) (aD P aw aw fr cs ar v):=λhk h=>
  xM J (λw=>h _ w) (h _ v) λ_=>⟨aE<|g.AO hk,z⟩
 have V:∀q:Option nW,(∀c,q=ac c->q9 P ao c=aw)->(∀p w,aD p aw aw fr cs ar w=Yi p fr cs q w)->
   G3 En P X w v (aD (wf P F) aw aw fr cs ar) (aD P aw aw fr cs ar v):=λq hj h=>
  (xok (F:=F) J g z hB q hj).bR (λw=>h _ w) (h _ v)
 have ap:∀{s:Sem Next},BN P F X s->(∀n x,s.run (wf P F) w=cT n x->Nx n)->(∀n x,s.run (wf P F) w=cT n x->xL P n)->(∀p w,aD p aw aw fr cs ar w=aJ p aw fr cs ar s w)->
   G3 En P X w v (aD (wf P F) aw aw fr cs ar) (aD P aw aw fr cs ar v):=λhs hn hk h=>
  (Ri hC J g z hs hn hk Â).bR (λw=>h _ w) (h _ v)
 cases hto:fr.todo with
 |nil=>
  refine V ar (λc e=>Ç) λp w=>?_;grind [aD,Yi,ze]
 |cons it k=>
  rw[hto]at Y;have hk:=Le Y;have m:=Y it<|xu ..;cases it with
  |call d b r s=>exact m.elim|extern r a=>exact m.elim
  |inBlock id=>exact C hk λp w=>by grind [aD]|inScope c=>exact C hk λp w=>Ò
  |inLoop c=>exact C (Jq (it:=cD c) m<|Jq (it:=mS c) m hk) λp w=>Ò
  |inRangeFunc l=>grind [yW,aD]
  |endRangeFunc l=>
   let ct (p:Zp) (r:kg<|Option nW):oQ:=match r with
    | cT q w=>gj {frame:={fr with todo:=(q.map cD).toList++k},callers:=cs,status:=aZ,dying:=ar} w
    | eI (.panic v) w=>gj {frame:=fr.raise [{v,recovered:=ao}],callers:=cs,status:=aZ,dying:=ar} w| eI _ w=>gq (hY "range over a function: no such loop" (fr.pos p)) w
   have e:∀p w,aD p aw aw fr cs ar w=aY (seen p fr.fn<|(jD l).events p w #[]) (ct p<|(jD l).run p w):=λp w=>by grind [aD,ze]
   refine(Ll (cont':=ct<|wf P F) (cont:=ct P) (fn:=fr.fn) (ϝ l) J (λr Q O G h hd=>?_) λQ O G h hd=>?_).bR (e _)<|e _ v;cases r with
   |ok j w1=>cases h;exact⟨trivial,rfl,rfl,λu=>⟨rfl,rfl⟩⟩
   |halt x w1=>
    cases x with
    |panic y=>cases h;exact⟨trivial,rfl,rfl,λu=>⟨rfl,rfl⟩⟩
    |_=>cases h
   cases T:(jD l).run (wf P F) w with
   |ok j w1=>
    rw[T]at h;cases h;refine⟨aE<|g.AO λx D=>?_,z⟩;obtain D|D:=je.1 D;cases j with
    |none=>cases D
    |some c=>simp only[Xl,Option.toList,ju]at D;subst D;exact xdy<|xc4 J.iC T c rfl
    grind
   |halt x w1=>
    rw[T]at h;cases x with
    |panic y=>cases h;exact⟨aE<|g.gV _,z⟩
    |_=>cases h
  |beginRound=>
   have hb:B P F X<|fr.roundOf.elim (stuck "beginRound: no round") iZ:=Ý
   refine ap (s:=fr.roundOf.elim (stuck "beginRound: no round") iZ>>=λ_=>fX .skip) (Bl.dQ<|xq hb λ_=>xr _) (λn x h=>?_) (λn x h=>?_) λp w=>Ò
   exact GO h;obtain⟨a,w2,_,U⟩:=jr h;cases U;trivial
  |inRegion ops todo=>
   cases todo with
   |nil=>exact C hk λp w=>Ò
   |cons i rest=>
    cases hw:((ops[i]?).map (bC · (eZ ops fr.tmps))).getD ao with
    |false=>refine xM J (g1:={frame:=fr.finish aC,callers:=cs,status:=aZ,dying:=ar}) (λw=>?_) ?_ λ_=>⟨aE<|g.iD _,z⟩;grind [aD];grind [aD]
    |true=>
     cases ho:ops[i]?with
     |none=>grind
     |some o=>
      have S:=Gu ho;have N:sW P o.op=aw/\(fr.roundOf.isNone|| !AD o.op)=aw:=by have M:tW P fr.roundOf.isNone ops=aw:=m;unfold tW at M;rw[jn]at M;have:=M o S;rw[jy]at this;exact this
      have Z:fr.oper?=ac o:=Ď
      refine ap (Cx H fr.eval o N.1) (λn x h=>GK H N.1 h) (λn x h=>xdv H N.1 J.iC h) λp w=>?_;simp only[aD,hto,hw,if_true,stepG.oper,Z];grind [AD]
  |code c=>
   cases c with
   |skip=>exact C hk λp w=>by grind [aD]|label l=>exact C hk λp w=>Ò
   |ret=>
    refine V (ac .ret) (λc e=>by cases e;rfl) λp w=>?_;simp only[aD,hto,Yi,ze];rfl
   |seq a b=>simp only[Vt,q9,jy]at m;exact C (Jq (it:=cD a) m.1<|Jq (it:=cD b) m.2 hk) λp w=>Ò
   |block id c=>exact C (Jq (it:=cD c) m<|Jq (it:= .inBlock id) trivial hk) λp w=>Ò
   |loop c=>exact C (Jq (it:=cD c) m<|Jq (it:=mS c) m hk) λp w=>Ò
   |scope c=>exact C (Jq (it:=cD c) m<|Jq (it:= .inScope c) m hk) λp w=>Ò
   |refuse s=>grind [yW,aD]
   |cond c a b=>
    simp only[Vt,q9,jy]at m;cases hev:fr.eval c with
    |bool t=>
     refine C (k':=cD (if t then a else b)::k) (Jq ?_ hk) λp w=>Ò
     cases t;exact m.2;exact m.1
    |_=>grind [yW,aD]
   |exit id=>
    cases D:exitTo id k with
    |some k'=>exact C (K7 hk D) λp w=>Ò
    |none=>
     refine V (ac<|.exit id) (λc e=>by cases e;rfl) λp w=>?_;grind [aD,Yi,ze]
   |goto l=>
    cases D:gotoIn l k with
    |some k'=>exact C (K8 hk D) λp w=>Ò
    |none=>
     refine V (ac<|.goto l) (λc e=>by cases e;rfl) λp w=>?_;grind [aD,Yi,ze]
   |region id ops draw=>
    cases draw with
    |false=>exact C (Jq (it:=aM ops (gO (ak ops))) m hk) λp w=>Ò
    |true=>
     have e:∀p w,aD p aw aw fr cs ar w=aY (seen p fr.fn<|(choose<|.order fr.fn id).events p w #[]) (match(choose<|.order fr.fn id).run p w with
       | cT t w=>gj {frame:={fr with todo:=aM ops (il (p.follows mV) ops t)::k},callers:=cs,status:=aZ,dying:=ar} w
       | eI _ w=>gq (hY "order" (fr.pos p)) w):=λp w=>by
      grind [zte,xp5,xij,aD]
     refine(K3 (fn:=fr.fn) (Vr<|.order fr.fn id) J (K':=λt w=>gj {frame:={fr with todo:=aM ops (il ((wf P F).follows mV) ops t)::k},callers:=cs,status:=aZ,dying:=ar} w) (E':=λw=>gq (hY "order" (fr.pos<|wf P F)) w) (K:=λt w=>gj {frame:={fr with todo:=aM ops (il (P.follows mV) ops t)::k},callers:=cs,status:=aZ,dying:=ar} w) (E:=λw=>gq (hY "order" (fr.pos P)) w)
      (λt w1 v1 _ L=>?_) (λw Q O G h=>Ê)).bR (e _)<|e _ v
     exact xM L (λ_=>rfl) rfl λ_=>⟨aE<|g.AO<|Jq (it:=aM ops _) m hk,z⟩
   |rangeFunc f ps a b=>
    simp only[Vt,q9,jy]at m;let fr' (x:Nat×List lY):Zf:={fr with todo:=nH x.1::k,defers:=x.2++fr.defers};let cl (x:Nat×List lY):Call:={callee:= .value f,args:=#[.const<|nV (.yield x.1) #[] #[]],argTypes:=#[]};let sm (x:Nat×List lY):Sem Next:=nD (fr' x).eval (cl x) 0>>=λd=>ol d.target d.args;have e:∀p w,aD p aw aw fr cs ar w=aY (seen p fr.fn<|(ez fr.fn fr.tmps ps a b fr.roundOf).events p w #[]) (match(ez fr.fn fr.tmps ps a b fr.roundOf).run p w with
      | cT x w=>aJ p aw (fr' x) cs ar (sm x) w| eI _ w=>gq (hY "range over a function: no such loop" (fr.pos p)) w):=λp w=>by
     grind [aD,ze]
    refine(K3 (F:=F) (fn:=fr.fn) (KB fr.fn fr.tmps ps a b fr.roundOf m.1 m.2 g.kG) J (K':=λx w=>aJ (wf P F) aw (fr' x) cs ar (sm x) w) (E':=λw=>gq (hY "range over a function: no such loop" (fr.pos<|wf P F)) w) (K:=λx w=>aJ P aw (fr' x) cs ar (sm x) w) (E:=λw=>gq (hY "range over a function: no such loop" (fr.pos P)) w)
     (λx w1 v1 D L=>?_) (λw Q O G h=>Ê)).bR (λw=>(e (wf P F) w).trans Â)<|(e P v).trans Â
    have hm:=QX (P:=P) (l:=x.1) (mark:=x.2) D;have R:Jy P<|fr' x:=⟨Jq (it:=nH x.1) trivial hk,λd hd=>by obtain hd|hd:=je.1 hd;grind;exact g.lW d hd,g.dW,g.kG⟩;have I:CA P (cl x)=aw:=rfl;refine Ri hC L R z (Gm (DR _ _ _) (λw d O T=>Vu I T) λd hd=>AC H _ _ hd) (λn y h=>?_) (λn y h=>?_) λen Q O G h=>?_;obtain⟨d,w2,W,U⟩:=jr h;grind [yV,Vu];obtain⟨d,w2,W,U⟩:=jr h;obtain rfl:=Q2 W;exact Lf H (Vu I W) L.iC U;refine hE en Q O (seen (wf P F) fr.fn ((ez fr.fn fr.tmps ps a b fr.roundOf).events (wf P F) w #[])++G) ?_;rw[e,D];dsimp only;rw[h];rfl
end
section
variable {En:Prop} {α β γ:Type} {P:bT} {F:Array jE} {X:Nat->Prop}
def Lh{c:Prop}[Decidable c]{a b x:α}(h:(if c then a else b)=x):(c/\a=x)\/(¬c/\b=x):=Â
def Ed{P1 P2 d w1 p v2 r fr cs}
  (e:(ol d.target d.args).run P1 w1=r)(t:(ol d.target d.args).run P2 p=ge v2 r)(i:rs r)(s:∀n x,r=cT n x->Nx n)(q:∀f a x k,r=cT (mo f a) x->aT P1 f a k=aT P2 f a k)
  {g' w' j}(h:dV P1 fr cs ar d w1=gj g' w' j)(hd:g'.dying=ar):
  oY r/\w'=rW r/\dV P2 fr cs ar d p=gj g' v2 (seen P2 fr.fn<|(ol d.target d.args).events P2 p #[]):=by
 unfold dV at h⊢;obtain⟨g,h⟩|⟨g,h⟩:=Lh h;cases h;rw[if_neg g];cases r with
 |halt hh x=>
  cases hh with
  |panic y=>
   simp only[ze,e]at h;cases h;exact⟨trivial,rfl,Ü⟩
  |blocked=>exact i.elim|waiting=>exact i.elim
  |goexit=>exact i.elim|fatal m=>grind [ze,Gh]
  |throw m=>grind [ze,Gi]|exit c=>simp only[ze,e]at h;cases h
  |stuck m=>simp only[ze,e]at h;cases h
  |unsupported u=>simp only[ze,e]at h;cases h
 |ok n x=>
  have o:=s n x rfl;cases n with
  |value y=>
   simp only[ze,e]at h;cases h;exact⟨trivial,rfl,Ü⟩
  |skip=>
   simp only[ze,e]at h;cases h;exact⟨trivial,rfl,Ü⟩
  |defer y=>
   simp only[ze,e]at h;cases h;exact⟨trivial,rfl,Ü⟩
  |enter f a=>
   simp only[ze,e]at h;cases h;refine⟨trivial,rfl, ?_⟩;grind [ze,ge,aY]
  |round l f ts a b=>
   simp only[ze,e]at h;cases h;exact⟨trivial,rfl,Ü⟩
  |recover=>
   simp only[ze,e]at h;cases hm:fr.mode with
   |returning=>
    cases ht:cL fr cs<;>
    ·simp only[hm,ht]at h;cases h;exact⟨trivial,rfl,Ü⟩
   |run=>
    simp only[hm]at h;cases h;exact⟨trivial,rfl,Ü⟩
   |panicking c=>
    simp only[hm]at h;cases h;exact⟨trivial,rfl,Ü⟩
  |_=>exact o.elim
def ja4(t:sx P F){d w fr cs}(e:Jy P fr)(g:∀c∈cs,lL P c)(r:rs<|(ol d.target d.args).run (wf P F) w)(s:∀n x,(ol d.target d.args).run (wf P F) w=cT n x->Nx n)
  (hk:∀n x,(ol d.target d.args).run (wf P F) w=cT n x->xL P n)(v:∀f a x,(ol d.target d.args).run (wf P F) w=cT (mo f a) x->Vi P F f)
  {g' w' m}(h:dV (wf P F) fr cs ar d w=gj g' w' m)(hd:g'.dying=ar):ry P g':=by
 have i:∀c∈fr::cs,lL P c:=λc o=>by simp only[jc]at o;obtain rfl|o:=o;exact aE e;grind
 have j:=(Ed (P2:=wf P F) rfl (Cz _).symm r s (λ_ _ _ _ _=>rfl) h hd).1;unfold dV at h;obtain⟨k,h⟩|⟨k,h⟩:=Lh h;cases h;cases hr:(ol d.target d.args).run (wf P F) w with
 |halt hh x=>
  rw[hr]at j;cases hh with
  |panic y=>
   simp only[ze,hr]at h;cases h;exact⟨aE<|e.gV _,g⟩
  |_=>exact j.elim
 |ok n x=>
  have q:=s n x hr;have p:=hk n x hr;cases n with
  |value y=>simp only[ze,hr]at h;cases h;exact⟨aE e,g⟩
  |skip=>simp only[ze,hr]at h;cases h;exact⟨aE e,g⟩
  |defer y=>simp only[ze,hr]at h;cases h;exact⟨aE e,g⟩
  |enter f a=>
   simp only[ze,hr]at h;cases h;exact⟨Ec t (v f a _ hr) a ⟨Ä,Ä⟩,i⟩
  |round l f ts a b=>
   simp only[ze,hr]at h;cases h;exact⟨aE<|QS p ⟨Ä,Ä⟩,i⟩
  |recover=>
   simp only[ze,hr]at h;cases hm:fr.mode with
   |returning=>
    cases ht:cL fr cs with
    |none=>
     simp only[hm,ht]at h;cases h;exact⟨aE e,g⟩
    |some y=>
     simp only[hm,ht]at h;cases h;exact⟨aE e,GG g ht⟩
   |run=>simp only[hm]at h;cases h;exact⟨aE e,g⟩
   |panicking c=>simp only[hm]at h;cases h;exact⟨aE e,g⟩
  |_=>exact q.elim
def ja2(H:ma P F X)(O:sx P F){w v}(r:Sm P X w v){fr cs}(C:Jy P fr)(B:∀c∈cs,lL P c){d}(j:Wn P d.target=aw)
  (Q:En->tX P F (aa cs) (dV (wf P F) fr cs ar d w)):G3 En P X w v (dV (wf P F) fr cs ar d)<|callDeferred P fr cs ar d v:=by
 have E:=AC H d.target d.args j;have p:∀n x,(ol d.target d.args).run (wf P F) w=cT n x->Nx n:=λn x h=>yV H j h;have b:=E.iO w r.iC;by_cases D:∃q s g,dV (wf P F) fr cs ar d w=gj q s g;rotate_left;grind [yW];obtain⟨W,Y,L,m⟩:=D;unfold dV at m;obtain⟨i,m⟩|⟨i,m⟩:=Lh m;cases m;have o:En->∀f a x,(ol d.target d.args).run (wf P F) w=cT (mo f a) x->Vi P F f:=λl f a x e=>by
  have:∃G,dV (wf P F) fr cs ar d w=gj {frame:=aT (wf P F) f a .deferred,callers:=fr::cs,status:=aZ,dying:=ar} x G:=by unfold dV;rw[if_neg i];simp only[ze,e];exact⟨_,rfl⟩
  obtain⟨G,h⟩:=this;exact Q l _ _ _ h rfl rfl
 refine⟨λl q s g h hd=>?_,λq s g h hd=>?_,λl q s g h hd=>ja4 O C B b p (λn x e=>Lf H j r.iC e) (o l) h hd⟩;have z:=(Ed (P2:=wf P F) rfl (Cz _).symm b p (λ_ _ _ _ _=>rfl) h hd).1;obtain⟨V,U,I⟩:=E.lV w v #[] r z λf a w1 e=>(o l f a w1 e).2;obtain⟨M,N⟩:=I.oC;obtain⟨_,y,K⟩:=Ed (P1:=wf P F) (P2:=P) (w1:=w) rfl M b p (λf a x k e=>DQ (o l f a x e).1 a k) h hd;refine⟨V,_,K, ?_⟩;rw[y,N];exact I.af.DJ λe o=>mem_seen o;obtain⟨z,y,_⟩:=Ed (P2:=wf P F) rfl (Cz _).symm b p (λ_ _ _ _ _=>rfl) h hd;obtain⟨l1,S,T⟩:=E.mY w r.iC z;rw[y];exact⟨l1,S,λt J R=>⟨_,(Ed (P2:=wf P F) rfl (T t J R) b p (λ_ _ _ _ _=>rfl) h hd).2.2⟩⟩
def zpt{b p w w1 f}(g:Sm P X w w)(h:(eB b).run p w=cT f w1):∀d∈f,Wn P d.target=aw:=by
 unfold eB at h;obtain⟨o,k,a,e⟩:=jr h;rw[Yg]at a;cases ho:w.heap[b]?with
 |none=>grind
 |some o'=>
  rw[ho]at a;have hk:=(g.pz b).rn;rw[ho]at hk;cases o'<;>cases a<;>first|(cases e;done)|skip
  rename_i c;cases c with
  |none=>cases e
  |some ds'=>obtain⟨_,l,i,j⟩:=jr e;simp_all
def GJ(fn b):B P F X<|results fn b:=by unfold dX;refine xq (QL _ (λr=>?_) _) λc=>xr _;cases r with|tmp t=>exact xr _|cell a t=>exact xq (oE.1 _) λ_=>mE.c.1 _ _
def Rc(H:ma P F X)(T:sx P F){w v}(z:Sm P X w v){fr cs}(i:Jy P fr)(j:∀c∈cs,lL P c)(S:cs=[]->P.inits.idxOf? fr.fn=ar)
  (Y:En->tX P F (aa cs) (cW (wf P F) aw fr cs ar w)):
  G3 En P X w v (cW (wf P F) aw fr cs ar) (cW P aw fr cs ar v):=by
 cases hdf:fr.defers with
 |cons d ds=>
  have C:Jy P {fr with defers:=ds}:=⟨i.jY,λx o=>i.lW x Â,i.dW,i.kG⟩;have hd:=i.lW d Â;have Z:(∀b,d.target≠ .collected b)->G3 En P X w v (cW (wf P F) aw fr cs ar) (cW P aw fr cs ar v):=λV=>by
   have e:∀p w,cW p aw fr cs ar w=dV p {fr with defers:=ds} cs ar d w:=λp w=>by grind [cW]
   exact(ja2 H T z C j hd Â).bR (λw=>e _ w)<|e _ v
  cases htg:d.target with
  |collected b=>
   have e:∀p w,cW p aw fr cs ar w=aY (seen p fr.fn<|(eB b).events p w #[]) (match(eB b).run p w with
     | cT f w=>gj {frame:={fr with defers:=f++ds},callers:=cs,status:=aZ,dying:=ar} w
     | eI _ w=>gq (hY "the deferred calls of a range-over-func loop have been taken" (fr.pos p)) w):=λp w=>by
    unfold cW;rw[hdf];obtain⟨tg,W⟩:=d;grind [ze]
   refine(K3 (F:=F) (fn:=fr.fn) (ig.j.j.j.c.1 b) z (K':=λf w=>gj {frame:={fr with defers:=f++ds},callers:=cs,status:=aZ,dying:=ar} w) (E':=λw=>gq (hY "the deferred calls of a range-over-func loop have been taken" (fr.pos<|wf P F)) w)
    (K:=λf w=>gj {frame:={fr with defers:=f++ds},callers:=cs,status:=aZ,dying:=ar} w) (E:=λw=>gq (hY "the deferred calls of a range-over-func loop have been taken" (fr.pos P)) w)
    (λf w1 v1 B J=>?_) (λw l n g h=>Ê)).bR (λw=>(e (wf P F) w).trans Â)<|(e P v).trans Â
   refine xM J (λ_=>rfl) rfl λ_=>⟨aE ⟨i.jY,λx o=>?_,i.dW,i.kG⟩,j⟩;obtain o|o:=je.1 o;exact zpt z.iC B x o;exact C.lW x o
  |_=>grind
 |nil=>
  cases hm:fr.mode with
  |run=>grind [yW,cW]
  |panicking chain=>
   have U:∀p:Zp,fr.catches p=ao:=λp=>by
    unfold Frame.catches;cases htd:fr.todo with
    |nil=>grind
    |cons it k=>have Q:=i.jY it Â;cases it with|call d b r s=>exact Q.elim|_=>grind
   cases cs with
   |cons c cs=>refine xM z (g1:={frame:=c.raise chain,callers:=cs,status:=aZ,dying:=ar}) (λw=>?_) ?_ λ_=>⟨(j c<|xu ..).gV _,λx o=>j x<|jw _ o⟩;grind [cW];grind [cW]
   |nil=>
    cases hgx:chain.head?.any (·.goexit)with
    |true=>refine xM z (g1:={frame:=fr,callers:=[],status:= .finished,dying:=ar}) (λw=>?_) ?_ λ_=>⟨aE i,j⟩;grind [cW];grind [cW]
    |false=>
     refine⟨λ_ l n g e hd=>?_,λl n g e hd=>?_,λ_ l n g e hd=>?_⟩;all_goals
      grind [cW]
  |returning=>
   have q:=H.PY fr.fn;cases hf:P.funcs[fr.fn]?with
   |none=>
    have D:(wf P F).funcs[fr.fn]?=ar:=by rw[hf]at q;cases B:F[fr.fn]?with|none=>exact B|some y=>grind
    cases cs with
    |nil=>
     refine yW λl n g e=>?_;simp only[cW,hdf,hm,D]at e;rw[GH (p:=wf P F) i.dW.2<|S rfl]at e;cases e
    |cons c cs=>
     obtain⟨g1,G,R,I⟩:=GI (cs:=cs) i.dW (j c<|xu ..) (λx o=>j x<|jw _ o)<|fr.tmps.getD 0 aC;refine xM z (g1:=g1) (λw=>?_) ?_ λ_=>I;grind [cW];grind [cW]
   |some fn=>
    obtain⟨t,D,L⟩:∃t,(wf P F).funcs[fr.fn]?=ac t/\t.results=fn.results:=by rw[hf]at q;cases B:F[fr.fn]?with|none=>grind|some y=>rw[B]at q;exact⟨y,B,Â⟩
    have M:dX t fr.tmps=dX fn fr.tmps:=by unfold dX;rw[L]
    let ct (p:Zp) (r:kg Zv):oQ:=match r with
     | cT v w=>ft p aw fr cs ar v w| eI (ia s) w=>gq (hY s<|fr.pos p) w
     | eI _ w=>gq (hY "return: the result variables cannot be read" (fr.pos p)) w
    have N:∀w,cW (wf P F) aw fr cs ar w=aY (seen (wf P F) fr.fn<|(dX fn fr.tmps).events (wf P F) w #[]) (ct (wf P F)<|(dX fn fr.tmps).run (wf P F) w):=λw=>by grind [cW,ze]
    have O:cW P aw fr cs ar v=aY (seen P fr.fn<|(dX fn fr.tmps).events P v #[]) (ct P<|(dX fn fr.tmps).run P v):=by
     simp only[cW,hdf,hm,hf,ze];cases(dX fn fr.tmps).run P v with
     |ok a x=>rfl|halt y x=>grind
    have m:∀r l n g,ct (wf P F) r=gj l n g->oY r/\n=rW r/\g=#[]/\(∀u,ct (wf P F) (ge u r)=gj l u #[]/\ct P (ge u r)=gj l u #[])/\ry P l:=λr l n g h=>by
     cases r with
     |halt y x=>grind
     |ok a x=>cases cs with|nil=>grind [ft,wf]|cons c cs=>obtain⟨g1,G,R,I⟩:=GI (cs:=cs) i.dW (j c<|xu ..) (λx o=>j x<|jw _ o) a;change ft (wf P F) aw fr (c::cs) ar a x=_ at h;rw[G]at h;cases h;exact⟨trivial,rfl,rfl,λu=>⟨G _ _,G _ _⟩,I⟩
    exact(Ll (cont':=ct<|wf P F) (cont:=ct P) (fn:=fr.fn) (GJ fn fr.tmps) z (λr l n g h hd=>⟨(m r l n g h).1,(m r l n g h).2.1,(m r l n g h).2.2.1,(m r l n g h).c.1⟩) λl n g h hd=>(m _ l n g h).d).bR N O
def Ee(H:ma P F X)(h:sx P F){w v}(i:Sm P X w v){g}(j:ry P g)(a:Jy P g.frame)(hd:g.dying=ar)
  (l:En->tX P F (aa g.callers) (bF (wf P F) aw g w)):G3 En P X w v (bF (wf P F) aw g)<|stepG P aw g v:=by
 obtain⟨b,f,st,k,d⟩:=g;cases hd;cases hm:b.mode with
 |run=>
  have e:∀p w,bF p aw {frame:=b,callers:=f,status:=st,dying:=ar,offers:=d} w=aD p aw aw b f ar w:=λp w=>by simp[bF,hm]
  exact(xsy H h i a j.2 (λ_=>a.kG) Â).bR (λw=>e _ w)<|e _ v
 |returning=>
  have e:∀p w,bF p aw {frame:=b,callers:=f,status:=st,dying:=ar,offers:=d} w=cW p aw b f ar w:=λp w=>œ
  exact(Rc H h i a j.2 (λ_=>a.kG) Â).bR (λw=>e _ w)<|e _ v
 |panicking c=>
  have e:∀p w,bF p aw {frame:=b,callers:=f,status:=st,dying:=ar,offers:=d} w=cW p aw b f ar w:=λp w=>œ
  exact(Rc H h i a j.2 (λ_=>a.kG) Â).bR (λw=>e _ w)<|e _ v
end
section
variable {Q:bT} {Stop I:cA->cY->Prop}
def oT(Q:Zp)(g:Zg)(w:Zy)(g':Zg)(w':Zy):Prop:=∃es,bF Q aw g w=gj g' w' es/\g'.dying=ar/\g'.status=aZ
def oT.AN{g g1 g2 w w1 a}(h:oT Q g w g1 w1)(k:oT Q g w g2 a):g1=g2/\w1=a:=by obtain⟨c,d,_⟩:=h;obtain⟨b,e,_⟩:=k;grind
def wh(Q:Zp)(Stop:Zg->Zy->Prop):Nat->Zg->Zy->Prop
 |0,g,w=>Stop g w|n+1,g,w=>Stop g w\/∃g' w',oT Q g w g' w'/\wh Q Stop n g' w'
structure vZ(Q:Zp)(Stop I:Zg->Zy->Prop):Prop where
 gP:∀g w t d,Stop g (re w t d)↔Stop g w
 ru:∀g w t d,I g (re w t d)↔I g w
 mY:∀g w,I g w->¬Stop g w->Cs w (bF Q aw g)
 uU:∀g w g' w',I g w->¬Stop g w->oT Q g w g' w'->I g' w'
inductive Cm(Q:Zp)(Stop:Zg->Zy->Prop):Zg->Zy->Prop
 |stop {g:Zg} {w:Zy} (h:Stop g w):Cm Q Stop g w
 |step {g:Zg} {w:Zy} (goes:∀t d,∃g' w',oT Q g (re w t d) g' w') (h:∀t d g' w',oT Q g (re w t d) g' w'->Cm Q Stop g' w'):Cm Q Stop g w
def vZ.qv(B:vZ Q Stop I){g g' w w' t d}(j:I g w)(l:¬Stop g w)(h:oT Q g (re w t d) g' w'):
  d<=w'.drawn/\w'.tape=t/\∀t' d',(∀i q,i<w'.drawn-d->t' (d'+i) q=t (d+i) q)->oT Q g (re w t' d') g' (re w' t'<|d'+(w'.drawn-d)):=by
 obtain⟨o,c,b,e⟩:=h;obtain⟨l1,m,n⟩:=B.mY g (re w t d) ((B.ru ..).2 j) (λx=>l<|(B.gP ..).1 x) _ _ _ c b;refine⟨l1,m,λt' d' k=>?_⟩;obtain⟨a,f⟩:=n t' d' k;exact⟨a,f,b,e⟩
def vZ.yT(B:vZ Q Stop I):∀(n:Nat) (g:Zg) (w:Zy) (t t':Nat->Question->Nat) (d d':Nat),I g w->(∀i q,t (d+i) q=t' (d'+i) q)->wh Q Stop n g (re w t d)->wh Q Stop n g (re w t' d')
 |0,g,w,t,t',d,d',hI,ha,h=>(B.gP ..).2<|(B.gP ..).1 h
 |n+1,g,w,t,t',d,d',hI,ha,h=>by
  by_cases b:Stop g w;exact aF<|(B.gP ..).2 b;obtain h|⟨c,a,f,j⟩:=h;exact absurd ((B.gP ..).1 h) b;obtain⟨l1,k,l⟩:=B.qv hI b f;have hk:=B.uU g _ c a ((B.ru g w t d).2 hI) (λx=>b<|(B.gP ..).1 x) f;refine aE ⟨c,_,l t' d' λi q m=>(ha i q).symm, ?_⟩;have e:re a t a.drawn=a:=by rw[<-k];rfl
  rw[<-e]at j;refine B.yT n c a t t' a.drawn (d'+(a.drawn-d)) hk (λi q=>?_) j;have:=ha (a.drawn-d+i) q;grind
theorem vZ.dQ(B:vZ Q Stop I){g g' w w' t d}(c:I g w)(b:¬Stop g w)(l:∀t d,∃n,wh Q Stop n g<|re w t d)(h:oT Q g (re w t d) g' w'):
  ∀t2 d2,∃n,wh Q Stop n g'<|re w' t2 d2:=by
 intro t2 d2;obtain⟨l1,p,o⟩:=B.qv c b h;have hk:=B.uU g _ g' w' ((B.ru g w t d).2 c) (λx=>b<|(B.gP ..).1 x) h;obtain⟨n,a⟩:=l (λi q=>if i<w'.drawn-d then t (d+i) q else t2 (d2+(i-(w'.drawn-d))) q) 0;cases n with|zero=>exact absurd ((B.gP ..).1 a) b|succ n=>obtain a|⟨e,w1,f,j⟩:=a;exact absurd ((B.gP ..).1 a) b;have k:=o (λi q=>if i<w'.drawn-d then t (d+i) q else t2 (d2+(i-(w'.drawn-d))) q) 0 (λi q m=>by simp[m]);obtain⟨rfl,rfl⟩:=f.AN k;refine⟨n,B.yT n e w' _ t2 (0+(w'.drawn-d)) d2 hk (λi q=>?_) j⟩;grind
structure yX(Q:Zp)(Stop I:Zg->Zy->Prop) where
 g:Zg
 w:Zy
 yY:I g w
 xN:∀t d,∃n,wh Q Stop n g<|re w t d
 eN:¬Cm Q Stop g w
theorem yX.jH(B:vZ Q Stop I)(s:yX Q Stop I):¬Stop s.g s.w/\∃(t:Nat->Question->Nat) (d:Nat) (s':yX Q Stop I),oT Q s.g (re s.w t d) s'.g s'.w:=by
 have a:¬Stop s.g s.w:=λh=>s.eN<|.stop h;refine⟨a, ?_⟩;apply jg;intro e;refine s.eN<|.step (λt d=>?_) λt d f w1 b=>?_;obtain⟨n,c⟩:=s.xN t d;cases n with|zero=>exact absurd ((B.gP ..).1 c) a|succ n=>obtain c|⟨f,w1,b,j⟩:=c;exact absurd ((B.gP ..).1 c) a;grind
 apply jg;intro i;exact e ⟨t,d,⟨f,w1,B.uU _ _ _ _ ((B.ru s.g s.w t d).2 s.yY) (λx=>a<|(B.gP ..).1 x) b,B.dQ s.yY a s.xN b,i⟩,b⟩
def vZ.bar(B:vZ Q Stop I){g w}(y:I g w)(m:∀t d,∃n,wh Q Stop n g<|re w t d):Cm Q Stop g w:=by
 apply jg;intro E;have ch:∀s:yX Q Stop I,∃x:(Nat->Question->Nat)×Nat×yX Q Stop I,oT Q s.g (re s.w x.1 x.2.1) x.2.2.g x.2.2.w:=λs=>by obtain⟨_,t,d,H,h⟩:=s.jH B;exact⟨(t,d,H),h⟩
 let nx:yX Q Stop I->(Nat->Question->Nat)×Nat×yX Q Stop I:=λs=>nO<|ch s;have f:∀s,oT Q s.g (re s.w (nx s).1 (nx s).2.1) (nx s).2.2.g (nx s).2.2.w:=λs=>KZ<|ch s;let st:Nat->yX Q Stop I:=λi=>Nat.rec ⟨g,w,y,m,E⟩ (λ_ s=>(nx s).2.2) i;have G:∀i,st (i+1)=(nx<|st i).2.2:=λi=>rfl;let K:Nat->Nat:=λi=>(st<|i+1).w.drawn-(nx<|st i).2.1;let D:Nat->Nat:=λi=>Nat.rec 0 (λj x=>x+K j) i;have N:∀i,D (i+1)=D i+K i:=λi=>rfl;have v:∀i j,i<=j->D i<=D j:=λi j h=>by
  induction j with
  |zero=>grind
  |succ j ih=>
   obtain e|e:=AK i (j+1);grind;have:i=j+1:=À
   simp_all
 have c:∀i j p,D i<=p->p<D (i+1)->D j<=p->p<D (j+1)->i=j:=λi j p e l L M=>by obtain h|h|h:=Nat.lt_trichotomy i j;grind;exact h;grind
 classical
 let T:Nat->Question->Nat:=λp q=>if h:∃i,D i<=p/\p<D (i+1)then(nx<|st<|Classical.choose h).1 ((nx<|st<|Classical.choose h).2.1+(p-D (nO h))) q else 0
 have z:∀i j q,j<K i->T (D i+j) q=(nx<|st i).1 ((nx<|st i).2.1+j) q:=λi j q r=>by have a:∃i',D i'<=D i+j/\D i+j<D (i'+1):=⟨i,À,Â⟩;have o:=KZ a;have C:nO a=i:=c _ _ _ o.1 o.2 À Â;show(if h:∃i',D i'<=D i+j/\D i+j<D (i'+1)then _ else _)=_;rw[dif_pos a,C,show D i+j-D i=j by omega]
 have k:∀i,oT Q (st i).g (re (st i).w T<|D i) (st<|i+1).g<|re (st<|i+1).w T<|D<|i+1:=λi=>by have:=(B.qv (st i).yY ((st i).jH B).1<|f<|st i).2.2 T (D i) λj q r=>z i j q r;omega
 have b:∀n i,¬wh Q Stop n (st i).g (re (st i).w T<|D i):=by
  intro n;induction n with
  |zero=>intro i h;exact((st i).jH B).1<|(B.gP ..).1 h
  |succ n ih=>intro i h;obtain h|⟨J,O,e,l⟩:=h;exact((st i).jH B).1<|(B.gP ..).1 h;obtain⟨rfl,rfl⟩:=e.AN<|k i;exact ih (i+1) l
 obtain⟨n,F⟩:=m T 0;exact b n 0 F
end
end
section
open Go.ConcN (sumTo upd sumTo_upd upd_ne upd_same)
variable [pn:Pn]
section
variable {P:bT} {F:Array jE} {X:Nat->Prop} {Shun:Loc->Prop}
theorem Sm.re{w v:Zy}(h:Sm P X w v)(t:Nat->Question->Nat)(d:Nat):Sm P X (re w t d)<|re v t d:=⟨h.J,h.out,h.iz,h.pz,rfl,rfl,h.os,h.cM,h.pf⟩
end
end
section
variable [pn:Pn]
section
variable {P Q:bT} {Stop:cA->cY->Prop}
def qr{m m1 t a r K}:∀{N:Nat},eT P N m t=(fS m1,a)->eT P K m1 a=r->eT P (N+K) m t=r:=by intro N;induction N generalizing m t with|zero=>grind [eT]|succ N ih=>intro h hk;rw[show N+1+K=(N+K)+1 by omega];simp only[eT]at h⊢;grind
abbrev xJ:Nat×Nat->Nat×Nat->Prop:=Prod.Lex (·<·) (·<·)
def AQ:WellFounded xJ:=(Prod.lex Nat.lt_wfRel Nat.lt_wfRel).wf
def Cm.sim{g w}(C:Cm Q Stop g w)(Rel:Nat×Nat->Zg->Zy->Machine->fG->Prop)
  (b:∀k g w m t,Rel k g w m t->¬Stop g w->∃N m' t',eT P N m t=(fS m',t')/\
   ((∃k',xJ k' k/\Rel k' g w m' t')\/∃tp d g' w' k',oT Q g (re w tp d) g' w'/\Rel k' g' w' m' t')):
  ∀k m t,Rel k g w m t->∃N m' t' g' w' k',eT P N m t=(fS m',t')/\Stop g' w'/\Rel k' g' w' m' t':=by
 induction C with
 | @stop g w h=>intro k m t c;exact⟨0,m,t,g,w,k,rfl,h,c⟩
 | @step g w goes hnext ih=>intro k;induction k using AQ.induction with|_ k ihk=>intro m t c;by_cases x:Stop g w;exact⟨0,m,t,g,w,k,rfl,x,c⟩;obtain⟨N,y,z,v,o⟩:=b k g w m t c x;obtain⟨k',hk,a⟩|⟨tp,d,B,w1,k',n,a⟩:=o;obtain⟨e,q,r,f,s,p,i,j,l⟩:=ihk k' hk y z a;exact⟨N+e,q,r,f,s,p,qr v i,j,l⟩;obtain⟨e,q,r,f,s,p,i,j,l⟩:=ih tp d B w1 n k' y z a;exact⟨N+e,q,r,f,s,p,qr v i,j,l⟩
end
section
variable {P:bT} {F:Array jE} {X:Nat->Prop} {cs1 cs2:List fk}
def Bk:Zf->List Zf->Prop
 |fr,[]=>fr.kind=cJ|_,c::l=>Bk c l
theorem Bk.bR{fr fr' l}(h:Bk fr l)(hk:fr'.kind=fr.kind):Bk fr' l:=by cases l with|nil=>exact hk.trans h|cons c l=>exact h
theorem Wm(fr:Zf)(v):(fr.finish v).kind=fr.kind:=ć
def Eb(fr:Zf)(a):(fr.raise a).kind=fr.kind:=by grind [Frame.raise]
def Sw(cs1 cs2:List Zf)(s s2:oQ):Prop:=∀g' w' es',s=gj g' w' es'->g'.dying=ar->aa cs1<=aa g'.callers->∃l',g'.callers=l'++cs1/\Bk g'.frame l'/\s2=gj {g' with callers:=l'++cs2} w' es'
theorem qY{s a}(h:∀g' w' es',s≠ gj g' w' es'):Sw cs1 cs2 s a:=λg' w' es' e=>absurd e<|h g' w' es'
theorem GU{s a}(h:∀g' w' es',s=gj g' w' es'->g'.dying=ar->False):Sw cs1 cs2 s a:=λg' w' es' e hd=>(h g' w' es' e hd).elim
theorem Yw{fr l st a off w es}(d:Bk fr l):
  Sw cs1 cs2 (gj {frame:=fr,callers:=l++cs1,status:=st,dying:=a,offers:=off} w es) (gj {frame:=fr,callers:=l++cs2,status:=st,dying:=a,offers:=off} w es):=λc g b e hd f=>by
 grind
theorem GP{fr a l st b off w es}(c:Bk a l):
  Sw cs1 cs2 (gj {frame:=fr,callers:=a::(l++cs1),status:=st,dying:=b,offers:=off} w es) (gj {frame:=fr,callers:=a::(l++cs2),status:=st,dying:=b,offers:=off} w es):=Yw (l:=a::l) c
theorem Ya{s a}(es)(h:Sw cs1 cs2 s a):Sw cs1 cs2 (aY es s)<|GStep.after es a:=λk l b e hd i=>by
 cases s with
 |go g w es0=>
  simp only[aY,GStep.go.injEq]at e;obtain⟨rfl,rfl,rfl⟩:=e;obtain⟨j,c,f,d⟩:=h _ _ _ rfl hd i;exact⟨j,c,f,Ŕ⟩
 |_=>simp[aY]at e
theorem K4:∀(l:List Zf) (fr:Zf),Bk fr l->
  (cL fr (l++cs1)=ar/\cL fr (l++cs2)=ar)\/∃v l',cL fr (l++cs1)=ac (v,l'++cs1)/\cL fr (l++cs2)=ac (v,l'++cs2)/\∀fr':Zf,fr'.kind=fr.kind->Bk fr' l'
 |[],fr,h=>by have i:fr.kind=cJ:=h;grind [cL]
 |c::l,fr,h=>by
  have g:=K4 l c h;cases hk:fr.kind with
  |deferred=>
   cases hm:c.mode with
   |panicking ch=>
    cases ch with
    |nil=>grind [cL]
    |cons e older=>
     obtain⟨v,r,a⟩:=e;cases r<;>cases a
     grind [cL,Bk,Bk.bR];all_goals grind [cL]
   |_=>grind [cL]
  |wrapped=>
   obtain⟨b,d⟩|⟨v,l',b,d,f⟩:=g;grind [cL];right;exact⟨v,c::l',Œ,Œ,λfr' _=>f c rfl⟩
  |_=>grind [cL]
def Rh{p s w fr l}(hk:fr.kind≠ dY)(j:Bk fr l)(C:p.follows gK=aw)
  (i:rs<|s.run p w)(B:∀n x,s.run p w=cT n x->Nx n):Sw cs1 cs2 (aJ p aw fr (l++cs1) ar s w)<|stepG.apply p aw fr (l++cs2) ar s w:=by
 have e:(fr.kind==dY)=ao:=Þ
 cases hr:s.run p w with
 |halt hh x=>
  rw[hr]at i;cases hh with
  |panic y=>simp only[aJ,ze,if_true,hr,e];exact Ya _<|Yw<|j.bR<|Eb ..
  |blocked=>exact i.elim|waiting=>exact i.elim
  |goexit=>exact i.elim|fatal m=>grind [aJ,ze,GU,Gh]
  |throw m=>grind [aJ,ze,GU,Gi]
  |exit c=>
   simp only[aJ,ze,if_true,hr,e];exact qY λq t k h=>Ê
  |stuck m=>
   simp only[aJ,ze,if_true,hr,e];exact qY λq t k h=>Ê
  |unsupported u=>
   cases u with
   |initOrder g=>exact i.elim
   |_=>
    simp only[aJ,ze,if_true,hr,e];exact qY λq t k h=>Ê
 |ok n x=>
  have o:=B n x hr;cases n with
  |value y=>simp only[aJ,ze,if_true,hr,e];exact Ya _<|Yw<|j.bR<|Wm ..
  |skip=>simp only[aJ,ze,if_true,hr,e];exact Ya _<|Yw<|j.bR<|Wm ..
  |enter f a=>grind [aJ,ze,Ya,GP]|round r f ts a b=>grind [aJ,ze,Ya,GP]
  |defer d=>simp only[aJ,ze,if_true,hr,e];exact Ya _<|Yw<|j.bR<|Wm ..
  |recover=>
   have z:Sw cs1 cs2 (match cL fr (l++cs1)with
     |some (v,callers)=>gj {frame:=fr.finish v,callers,status:=aZ,dying:=ar} x|none=>gj {frame:=fr.finish .nilIface,callers:=l++cs1,status:=aZ,dying:=ar} x) (match cL fr (l++cs2)with
     |some (v,callers)=>gj {frame:=fr.finish v,callers,status:=aZ,dying:=ar} x|none=>gj {frame:=fr.finish .nilIface,callers:=l++cs2,status:=aZ,dying:=ar} x):=by
    obtain⟨h1,h2⟩|⟨v,l',h1,h2,h3⟩:=K4 (cs1:=cs1) (cs2:=cs2) l fr j;rw[h1,h2];exact Yw<|j.bR<|Wm ..;grind [Yw,Wm]
   cases hq:fr.roundOf with|none=>grind [aJ,ze,Ya]|some r=>grind [aJ,ze,Ya]
  |_=>exact o.elim
def Lc{p fr l}(hk:fr.kind≠ dY/\fr.kind≠ oA)(a:Bk fr l)(val w)(f:l≠[]\/cs1≠[]):
  Sw cs1 cs2 (ft p aw fr (l++cs1) ar val w) (ft p aw fr (l++cs2) ar val w):=by
 cases l with
 |cons c l=>
  cases hq:fr.kind with
  |early=>grind|report=>grind
  |normal=>simp only[qg,ft,hq];exact Yw<|Bk.bR (fr:=c) a<|Wm ..
  |wrapped=>simp only[qg,ft,hq];exact Yw<|Bk.bR (fr:=c) a<|Wm ..
  |deferred=>simp only[qg,ft,hq];refine Yw<|Bk.bR (fr:=c) a ?_;grind
 |nil=>cases hc:cs1 with|nil=>grind|cons c cs=>intro e g d h hd b;grind [ft]
end
section
variable {P:bT} {F:Array jE} {X:Nat->Prop} {cs1 cs2:List fk}
def QW{c:Prop}[Decidable c]{a b d b2:oQ}(e:Sw cs1 cs2 a d)(f:Sw cs1 cs2 b b2):Sw cs1 cs2 (if c then a else b) (if c then d else b2):=Â
theorem xom{p fr l}(b:Jy P fr)(c:Bk fr l)(d:cs1≠[])(a w):Sw cs1 cs2 (Yi p fr (l++cs1) a w)<|Yi p fr (l++cs2) a w:=by
 unfold Yi;cases fr.roundOf with
 |none=>
  exact QW (Yw<|c.bR rfl)<|qY λ_ _ _ e=>Ç
 |some r=>
  dsimp only;refine Ya _ ?_;cases(kT r a).run p w with
  |ok v x=>exact Lc b.dW c v x<|aE d
  |halt y x=>grind [qY]
def xs0(H:ma P F X){w}(Q:Sm P X w w){fr l}(q:Jy P fr)(g:Bk fr l)(G:P.follows gK=aw)(Z:cs1≠[]):
  Sw cs1 cs2 (aD (wf P F) aw aw fr (l++cs1) ar w) (aD (wf P F) aw aw fr (l++cs2) ar w):=by
 have N:=q.jY;have I:∀v:Option nW,(∀m,aD (wf P F) aw aw fr m ar w=Yi (wf P F) fr m v w)->
   Sw cs1 cs2 (aD (wf P F) aw aw fr (l++cs1) ar w) (aD (wf P F) aw aw fr (l++cs2) ar w):=λv h=>by
  grind [xom]
 have O:∀{s:Sem Next},BN P F X s->(∀n x,s.run (wf P F) w=cT n x->Nx n)->(∀m,aD (wf P F) aw aw fr m ar w=aJ (wf P F) aw fr m ar s w)->
   Sw cs1 cs2 (aD (wf P F) aw aw fr (l++cs1) ar w) (aD (wf P F) aw aw fr (l++cs2) ar w):=λW T h=>by
  rw[h,h];exact Rh q.dW.1 g G (W.iO w Q) T
 cases hto:fr.todo with
 |nil=>refine I ar λm=>?_;grind [aD,Yi,ze]
 |cons it k=>
  rw[hto]at N;have hk:=Le N;have C:=N it<|xu ..;cases it with
  |call d b r s=>exact C.elim|extern r a=>exact C.elim
  |inBlock id=>simp only[aD,hto];exact Yw<|g.bR rfl
  |inScope c=>simp only[aD,hto];exact Yw<|g.bR rfl
  |inLoop c=>simp only[aD,hto];exact Yw<|g.bR rfl
  |inRangeFunc r=>grind [qY,aD]
  |endRangeFunc r=>
   simp only[aD,hto,ze];refine Ya _ ?_;cases(jD r).run (wf P F) w with
   |ok j w1=>exact Yw<|g.bR rfl
   |halt x w1=>
    cases x with
    |panic y=>exact Yw<|g.bR<|Eb ..
    |_=>grind [qY]
  |beginRound=>
   have g:B P F X<|fr.roundOf.elim (stuck "beginRound: no round") iZ:=Ý
   exact O (s:=fr.roundOf.elim (stuck "beginRound: no round") iZ>>=λ_=>fX .skip) (Bl.dQ<|xq g λ_=>xr _) (λn x h=>GO h) λm=>Ò
  |inRegion ops todo=>
   cases todo with
   |nil=>simp only[aD,hto];exact Yw<|g.bR rfl
   |cons i rest=>
    cases hw:((ops[i]?).map (bC · (eZ ops fr.tmps))).getD ao with
    |false=>simp only[aD,hto,hw];exact Yw<|g.bR<|Wm ..
    |true=>
     cases ho:ops[i]?with
     |none=>grind
     |some o=>
      have D:=Gu ho;have E:sW P o.op=aw/\(fr.roundOf.isNone|| !AD o.op)=aw:=by have z:tW P fr.roundOf.isNone ops=aw:=C;unfold tW at z;rw[jn]at z;have:=z o D;rw[jy]at this;exact this
      have U:fr.oper?=ac o:=Ď
      refine O (Cx H fr.eval o E.1) (λn x h=>GK H E.1 h) λm=>?_;grind [aD,stepG.oper,AD]
  |code c=>
   cases c with
   |skip=>simp only[aD,hto];exact Yw<|g.bR rfl
   |label l=>simp only[aD,hto];exact Yw<|g.bR rfl
   |ret=>refine I (ac .ret) λm=>?_;grind [aD,Yi,ze]|seq a b=>simp only[aD,hto];exact Yw<|g.bR rfl
   |block id c=>simp only[aD,hto];exact Yw<|g.bR rfl
   |loop c=>simp only[aD,hto];exact Yw<|g.bR rfl
   |scope c=>simp only[aD,hto];exact Yw<|g.bR rfl
   |refuse s=>grind [qY,aD]
   |cond c a b=>
    cases hev:fr.eval c with
    |bool t=>simp only[aD,hto,hev];exact Yw<|g.bR rfl
    |_=>grind [qY,aD]
   |exit id=>
    cases hx:exitTo id k with
    |some k'=>simp only[aD,hto,hx];exact Yw<|g.bR rfl
    |none=>refine I (ac<|.exit id) λm=>?_;grind [aD,Yi,ze]
   |goto r=>
    cases hx:gotoIn r k with
    |some k'=>simp only[aD,hto,hx];exact Yw<|g.bR rfl
    |none=>refine I (ac<|.goto r) λm=>?_;grind [aD,Yi,ze]
   |region id ops draw=>
    cases draw with
    |false=>simp only[aD,hto];exact Yw<|g.bR rfl
    |true=>
     simp only[aD,hto];cases hq:(choose<|.order fr.fn id).run (wf P F) w with
     |ok t x=>exact Yw<|g.bR rfl
     |halt y x=>grind [qY]
   |rangeFunc f ps a b=>
    simp only[Vt,q9,jy]at C;let fr' (x:Nat×List lY):Zf:={fr with todo:=nH x.1::k,defers:=x.2++fr.defers};let cl (x:Nat×List lY):Call:={callee:= .value f,args:=#[.const<|nV (.yield x.1) #[] #[]],argTypes:=#[]};let sm (x:Nat×List lY):Sem Next:=nD (fr' x).eval (cl x) 0>>=λd=>ol d.target d.args;have e:∀m,aD (wf P F) aw aw fr m ar w=aY (seen (wf P F) fr.fn<|(ez fr.fn fr.tmps ps a b fr.roundOf).events (wf P F) w #[]) (match(ez fr.fn fr.tmps ps a b fr.roundOf).run (wf P F) w with
      | cT x w=>aJ (wf P F) aw (fr' x) m ar (sm x) w| eI _ w=>gq (hY "range over a function: no such loop" (fr.pos<|wf P F)) w):=λm=>by
     grind [aD,ze]
    rw[e,e];refine Ya _ ?_;have K:=KB (P:=P) (F:=F) (X:=X) fr.fn fr.tmps ps a b fr.roundOf C.1 C.2 q.kG;cases hq:(ez fr.fn fr.tmps ps a b fr.roundOf).run (wf P F) w with
    |halt y x=>grind [qY]
    |ok x w1=>
     have p:CA P (cl x)=aw:=rfl;obtain⟨v',Y,M⟩:=K.lV w w #[] Q ñ;have J:Sm P X w1 w1:=by have:=M.sm.iC;rw[hq]at this;exact this
     have L:BN P F X<|sm x:=Gm (DR _ _ _) (λw d w' V=>Vu p V) λd hd=>AC H _ _ hd;refine Rh (fr:=fr' x) q.dW.1 (g.bR rfl) G (L.iO w1 J) λn y h=>?_;obtain⟨d,w2,R,S⟩:=jr h;exact yV H (Vu p R) S
def ja5(H:ma P F X){w}(o:Sm P X w w){fr l}(p:Bk fr l){d}(j:Wn P d.target=aw):
  Sw cs1 cs2 (dV (wf P F) fr (l++cs1) ar d w) (dV (wf P F) fr (l++cs2) ar d w):=by
 have s:=AC H d.target d.args j;have q:∀n x,(ol d.target d.args).run (wf P F) w=cT n x->Nx n:=λn x h=>yV H j h;have i:=s.iO w o;unfold dV;refine QW (qY λ_ _ _ e=>Ç) ?_;simp only[ze];cases hr:(ol d.target d.args).run (wf P F) w with
 |halt y x=>
  rw[hr]at i;cases y with
  |panic y=>exact Ya _<|Yw<|p.bR<|Eb ..
  |blocked=>exact i.elim|waiting=>exact i.elim
  |goexit=>exact i.elim|fatal m=>grind [GU,Gh]
  |throw m=>grind [GU,Gi]|exit c=>exact qY λ_ _ _ e=>Ç
  |stuck m=>exact qY λ_ _ _ e=>Ç
  |unsupported u=>
   cases u with|initOrder g=>exact i.elim|_=>exact qY λ_ _ _ e=>Ç
 |ok n x=>
  have k:=q n x hr;cases n with
  |value y=>grind [Ya,Yw]|skip=>grind [Ya,Yw]
  |enter f a=>grind [Ya,GP]|round r f ts a b=>grind [Ya,GP]
  |defer d=>grind [Ya,Yw]|recover=>grind [Ya,K4,Yw]
  |_=>exact k.elim
def Re(H:ma P F X){w}(o:Sm P X w w){fr l}(f:Jy P fr)(h:Bk fr l)(j:cs1≠[]):
  Sw cs1 cs2 (cW (wf P F) aw fr (l++cs1) ar w) (cW (wf P F) aw fr (l++cs2) ar w):=by
 cases hdf:fr.defers with
 |cons d ds=>
  have hd:=f.lW d Â;have B:(∀b,d.target≠ .collected b)->Sw cs1 cs2 (cW (wf P F) aw fr (l++cs1) ar w) (cW (wf P F) aw fr (l++cs2) ar w):=λq=>by
   have e:∀g,cW (wf P F) aw fr g ar w=dV (wf P F) {fr with defers:=ds} g ar d w:=λg=>by grind [cW]
   rw[e,e];exact ja5 H o (fr:={fr with defers:=ds}) (h.bR rfl) hd
  cases htg:d.target with
  |collected b=>
   have e:∀g,cW (wf P F) aw fr g ar w=aY (seen (wf P F) fr.fn<|(eB b).events (wf P F) w #[]) (match(eB b).run (wf P F) w with
     | cT calls w=>gj {frame:={fr with defers:=calls++ds},callers:=g,status:=aZ,dying:=ar} w
     | eI _ w=>gq (hY "the deferred calls of a range-over-func loop have been taken" (fr.pos<|wf P F)) w):=λg=>by
    unfold cW;rw[hdf];obtain⟨C,t⟩:=d;grind [ze]
   rw[e,e];refine Ya _ ?_;cases(eB b).run (wf P F) w with
   |ok a x=>exact Yw<|h.bR rfl
   |halt y x=>grind [qY]
  |_=>grind
 |nil=>
  cases hm:fr.mode with
  |run=>grind [qY,cW]
  |panicking chain=>
   have i:∀p:Zp,fr.catches p=ao:=λp=>by
    unfold Frame.catches;cases htd:fr.todo with
    |nil=>grind
    |cons it k=>have n:=f.jY it Â;cases it with|call d b r s=>exact n.elim|_=>grind
   cases l with
   |cons c l=>simp only[cW,hdf,hm,i,qg];exact Yw<|Bk.bR (fr:=c) h<|Eb ..
   |nil=>
    cases h1:cs1 with|nil=>grind|cons c g=>intro v D m e hd z;grind [cW]
  |returning=>
   cases hf:(wf P F).funcs[fr.fn]?with
   |none=>simp only[cW,hdf,hm,hf];exact Lc f.dW h _ w<|aE j
   |some fn=>
    simp only[cW,hdf,hm,hf,ze];refine Ya _ ?_;cases(dX fn fr.tmps).run (wf P F) w with
    |ok a x=>exact Lc f.dW h a x<|aE j
    |halt y x=>grind [qY]
def QU(H:ma P F X){w}(h:Sm P X w w){g l}(d:Jy P g.frame)(hd:g.dying=ar)(m:g.callers=l++cs1)(i:Bk g.frame l)(k:P.follows gK=aw)(j:cs1≠[]):
  Sw cs1 cs2 (bF (wf P F) aw g w) (bF (wf P F) aw {g with callers:=l++cs2} w):=by
 obtain⟨b,a,st,n,f⟩:=g;cases hd;cases m;cases hm:b.mode with
 |run=>
  have e:∀a,bF (wf P F) aw {frame:=b,callers:=a,status:=st,dying:=ar,offers:=f} w=aD (wf P F) aw aw b a ar w:=λa=>by simp[bF,hm]
  rw[e,e];exact xs0 H h d i k j
 |returning=>
  have e:∀a,bF (wf P F) aw {frame:=b,callers:=a,status:=st,dying:=ar,offers:=f} w=cW (wf P F) aw b a ar w:=λa=>œ
  rw[e,e];exact Re H h d i j
 |panicking c=>
  have e:∀a,bF (wf P F) aw {frame:=b,callers:=a,status:=st,dying:=ar,offers:=f} w=cW (wf P F) aw b a ar w:=λa=>œ
  rw[e,e];exact Re H h d i j
end
section
variable {P:bT} {F:Array jE} {X:Nat->Prop} {cs1 cs2:List fk} {J:Nat×Nat->Array cA->cY->fG->Prop}
structure AP(P:Zp)(X:ZP)(J:Nat×Nat->Array Zg->Zy->fG->Prop):Prop where
 iS:∀k gs v t,J k gs v t->∀(i:Nat) g,0<i->gs[i]?=ac g->awake g
 fZ:∀k gs v t d,J k gs v t->J k gs (v.at d) t
 dE:∀k gs v t (i:Nat) g g0 sl,J k gs v t->0<i->gs[i]?=ac g->g.status=aZ->gs[0]?=ac g0->g0.status=aZ->g0.dying=ar->
  ∃gs' v' sl' ops k',runT P (fL gs v sl) i=(fS<|crowd gs' v' sl',ops)/\xJ k' k/\gs'[0]?=ac g0/\J k' gs' v' (t++ops)/\∀w,Sm P X (re w v.tape v.drawn) v->Sm P X (re w v'.tape v'.drawn) v'
 cO:∀k gs v t g0 g' v' es,J k gs v t->gs[0]?=ac g0->bF P aw g0 v=gj g' v' es->g0.status=aZ->g'.status=aZ->(∀x,X x->v'.heap[x]?=v.heap[x]?)->(∀e∈es,sV X (ak v'.heap) e)->ak v.heap<=ak v'.heap->
  J k (ay (gs.map<|woken P g0 g' v') 0 g') v' (t++aS 0 g0.frame.fn g0.frame.place es)
structure we(P:Zp)(X:ZP)(cs1 cs2:List Zf)(g:Zg)(w:Zy)(g2:Zg)(v:Zy):Prop where
 uV:∃l,g.callers=l++cs1/\g2={g with callers:=l++cs2}/\((cs1=[]/\cs2=[])\/(cs1≠[]/\Bk g.frame l))
 oC:g.status=aZ
 dy:g.dying=ar
 QP:ry P g
 CL:ry P g2
 sm:Sm P X (re w v.tape v.drawn) v
def Q8(z:AP P X J){k:Nat×Nat}{gs:Array Zg}{v w:Zy}{sl:Option<|Nat×Nat}{t:fG}{g g2:Zg}
  (e:we P X cs1 cs2 g w g2 v)
  (R:∀d,Sm P X (re w v.tape d) (v.at d)->∃g' w' l' v1 es,oT (wf P F) g (re w v.tape d) g' w'/\g'.callers=l'++cs1/\((cs1=[]/\cs2=[])\/(cs1≠[]/\Bk g'.frame l'))/\bF P aw g2 (v.at d)=gj {g' with callers:=l'++cs2} v1 es/\Af P X (v.at d) w' v1 es/\ry P g'/\ry P {g' with callers:=l'++cs2})
  (O:J k gs v t)(B:gs[0]?=ac g2):
  ∃gs' v' sl' t',eT P 1 (fL gs v sl) t=(fS<|crowd gs' v' sl',t')/\
   ((∃k',xJ k' k/\J k' gs' v' t'/\gs'[0]?=ac g2/\we P X cs1 cs2 g w g2 v')\/
    ∃tp d g' w' g2',oT (wf P F) g (re w tp d) g' w'/\J k gs' v' t'/\gs'[0]?=ac g2'/\we P X cs1 cs2 g' w' g2' v'/\ak v.heap<=ak v'.heap/\∀x,X x->v'.heap[x]?=v.heap[x]?):=by
 obtain⟨l,S,j,r⟩:=e.uV;have a:g2.status=aZ:=by rw[j];exact e.oC
 have q:g2.dying=ar:=by rw[j];exact e.dy
 have G:∀g∈gs,awake g:=by intro f h;obtain⟨i,C,rfl⟩:=Xd.1 h;obtain rfl|b:=jh i;grind [mW];exact z.iS k gs v t O i _ b<|xy C
 obtain⟨i,f,d,sl',C,h,U⟩:=crowd_pick (P:=P) (w:=v) (sl:=sl) G ⟨0,g2,B,a⟩;have o:=z.fZ k gs v t d O;have p:Sm P X (re w v.tape d)<|v.at d:=e.sm.re v.tape d;obtain rfl|b:=jh i;obtain rfl:f=g2:=Â
 obtain⟨g',w1,l',v1,es,⟨E,Q,M,D⟩,H,m,N,c,s,y⟩:=R d p;have I:=oS (P:=P) (sl:=sl') (i:=0) C (show bF P (0==0) f (v.at d)=_ from N);have T:0<ak gs:=(za.1 B).1;have n:re w1 v1.tape v1.drawn=w1:=by rw[c.sm.ms,c.sm.fZ];rfl
 refine⟨_,v1,sl',t++aS 0 f.frame.fn f.frame.place es,ò,aE ⟨v.tape,d,g',w1,{g' with callers:=l'++cs2},⟨E,Q,M,D⟩,
  z.cO k gs (v.at d) t f _ v1 es o B N a D c.iu c.qV c.gE,Â,⟨⟨l',H,rfl,m⟩,D,M,s,y,by rw[n];exact c.sm⟩,c.gE,c.iu⟩⟩
 obtain⟨gs',v',L,K,k',Z,V,r3,W,Y⟩:=z.dE k gs (v.at d) t i f g2 sl' o b C h B a q;exact⟨gs',v',L,t++K,ò,aF ⟨k',V,W,r3,⟨⟨l,S,j,r⟩,e.oC,e.dy,e.QP,e.CL,Y w p⟩⟩⟩
def Ra(T:AP P X J)(H:ma P F X)(N:sx P F)(L:P.follows gK=aw){k gs v w sl t g g2}
  (i:we P X cs1 cs2 g w g2 v)(Q:Jy P g.frame)(r:∀t d,∃g' w',oT (wf P F) g (re w t d) g' w'/\aa cs1<=aa g'.callers)(O:∀t d,tX P F (aa g.callers)<|stepG (wf P F) aw g<|re w t d)
  (hJ:J k gs v t)(Z:gs[0]?=ac g2):
  ∃gs' v' sl' t',eT P 1 (fL gs v sl) t=(fS<|crowd gs' v' sl',t')/\
   ((∃k',xJ k' k/\J k' gs' v' t'/\gs'[0]?=ac g2/\we P X cs1 cs2 g w g2 v')\/
    ∃tp d g' w' g2',oT (wf P F) g (re w tp d) g' w'/\J k gs' v' t'/\gs'[0]?=ac g2'/\we P X cs1 cs2 g' w' g2' v'/\ak v.heap<=ak v'.heap/\∀x,X x->v'.heap[x]?=v.heap[x]?):=by
 refine Q8 T i (λd j=>?_) hJ Z;obtain⟨l,I,m,z⟩:=i.uV;have s:g2.dying=ar:=by rw[m];exact i.dy
 have S:g2.frame=g.frame:=by rw[m]
 obtain⟨g',w1,G,y⟩:=r v.tape d;obtain⟨h,p,q,U⟩:=G;have M:∃o,g'.callers=o++cs1/\((cs1=[]/\cs2=[])\/(cs1≠[]/\Bk g'.frame o))/\bF (wf P F) aw g2 (re w v.tape d)=gj {g' with callers:=o++cs2} w1 h:=by
  obtain⟨B,C⟩|⟨B,hb⟩:=z;refine⟨g'.callers,Â,aF ⟨B,C⟩, ?_⟩;have:g2=g:=by rw[m,C,Xz];rw[B,Xz]at I;rw[<-I]
  rw[this,p,C,Xz];obtain⟨o,a1,a2,a3⟩:=QU (cs2:=cs2) H j.iC Q i.dy I hb L B _ _ _ p q y;grind
 obtain⟨o,K,n,f⟩:=M;have D:tX P F (aa g2.callers)<|stepG (wf P F) aw g2<|re w v.tape d:=λa b c e hn hr=>by rw[f]at e;cases e;refine O v.tape d g' w1 h p ?_ hr;grind
 have R:=Ee (En:=True) H N j i.CL Â s λ_=>D;have E:=Ee (En:=True) H N j.iC i.QP Q i.dy λ_=>O v.tape d;obtain⟨v1,V,W,Y⟩:=R.AM trivial _ _ _ f q;exact⟨g',w1,o,v1,V,⟨h,p,q,U⟩,K,n,W,Y,E.ok trivial _ _ _ p q,R.ok trivial _ _ _ f q⟩
end
section
variable {P:bT} {F:Array jE} {X:Nat->Prop} {cs:List fk}
def QR(cs:List Zf)(g':Zg):Prop:=∀c l,cs=c::l->aa g'.callers=aa l->(∃v,g'.frame=c.finish v)\/∃m,g'.frame={c with mode:=m}
def QQ(P:Zp)(cs:List Zf)(g':Zg):Prop:=(∀c∈cs,Jy P c)->∀c∈g'.callers,Jy P c
def Kd(P p:Zp)(cs:List Zf)(s:oQ):Prop:=(∃g' w' es,s=gj g' w' es/\g'.dying=ar/\g'.status=aZ/\g'.offers=ar/\(aa g'.callers=aa cs+1->g'.frame.roundOf=ar->∃f a k,(k≠ dY/\k≠ oA)/\g'.frame=aT p f a k)/\QR cs g'/\aa cs<=aa g'.callers+1/\QQ P cs g')\/∃o w' es,s=gq o w' es
def GT{cs g'}(h:aa g'.callers+1≠aa cs):QR cs g':=λc l e a=>absurd Â h
theorem Ww{P p a fr w es}:Kd P p a<|gj {frame:=fr,callers:=a,status:=aZ,dying:=ar} w es:=aF ⟨_,_,_,rfl,rfl,rfl,rfl,λe=>absurd e Â,GT Â,Â,λh=>h⟩
theorem GQ{P p:Zp}{c fr:Zf}{l:List Zf}{w:Zy}{es:Array lh}(h:(∃v,fr=c.finish v)\/∃m,fr={c with mode:=m}):Kd P p (c::l)<|gj {frame:=fr,callers:=l,status:=aZ,dying:=ar} w es:=
 aF ⟨_,_,_,rfl,rfl,rfl,rfl,λe=>absurd e Â,λb l1 e _=>Â,Â,λh c a=>h c<|jw _ a⟩
def QT{P a fr b}(d:Jy P b):QQ P a {frame:=fr,callers:=b::a,status:=aZ,dying:=ar}:=λh c e=>Â
theorem Rj{P p b f a k c w es}(d:Jy P c)(hk:k≠ dY/\k≠ oA):Kd P p b<|gj {frame:=aT p f a k,callers:=c::b,status:=aZ,dying:=ar} w es:=aF ⟨_,_,_,rfl,rfl,rfl,rfl,λ_ _=>⟨f,a,k,hk,rfl⟩,GT Â,Â,QT d⟩
theorem Rk{P p c r f h a b k d w es}(g:Jy P d):Kd P p c<|gj {frame:=Frame.round r f h a b k,callers:=d::c,status:=aZ,dying:=ar} w es:=aF ⟨_,_,_,rfl,rfl,rfl,rfl,λ_ e=>Ç,GT Â,Â,QT g⟩
def QY:∀{cs cs':List Zf} {fr:Zf} {v:Zv},cL fr cs=ac (v,cs')->aa cs'=aa cs
 |[],cs',fr,v,e=>by grind [cL]|c::cs,cs',fr,v,e=>by unfold cL at e;split at e;grind;rename_i h1 h2;cases h2;obtain⟨⟨f,a⟩,b,d⟩:=zv.1 e;cases d;simp[QY b];grind
def QZ{P}:∀{cs cs':List Zf} {fr:Zf} {v:Zv},(∀c∈cs,Jy P c)->cL fr cs=ac (v,cs')->∀c∈cs',Jy P c
 |[],cs',fr,v,h,e=>Œ
 |c::cs,cs',fr,v,h,e=>by
  unfold cL at e;split at e;rename_i caller rest hk e1;cases e1;split at e;cases e;intro x a;simp only[jc]at a;obtain rfl|a:=a;exact(h c Ä).oZ _;grind;grind;rename_i wrapper rest hk e1;cases e1;cases ht:cL c cs with|none=>grind|some y=>rw[ht]at e;cases e;intro x a;simp only[jc]at a;obtain rfl|a:=a;grind;exact QZ (λz b=>h z<|by simp[b]) ht x a
  grind
theorem QV{P p a cs fr b v w es}(h:cL b a=ac (v,cs)):Kd P p a<|gj {frame:=fr,callers:=cs,status:=aZ,dying:=ar} w es:=by have d:=QY h;exact aF ⟨_,_,_,rfl,rfl,rfl,rfl,λe=>absurd e Â,GT Â,Â,λc=>QZ c h⟩
theorem qX{P p n o w es}:Kd P p n<|gq o w es:=aE ⟨_,_,_,rfl⟩
theorem Yh{P p n s}(es)(h:Kd P p n s):Kd P p n<|GStep.after es s:=by obtain⟨e,d,a,rfl,b,c⟩|⟨o,d,a,rfl⟩:=h;exact aF ⟨_,_,_,rfl,b,c⟩;exact aE ⟨_,_,_,rfl⟩
def xyk{P p:Zp}{n:List Zf}{c:Prop}[Decidable c]{a b:oQ}(d:Kd P p n a)(e:Kd P p n b):Kd P p n (if c then a else b):=Â
def Rg{p s w fr}(j:Jy P fr)(hk:fr.kind≠ dY)(o:p.follows gK=aw)
  (e:rs<|s.run p w)(l:∀n x,s.run p w=cT n x->Nx n):Kd P p cs<|stepG.apply p aw fr cs ar s w:=by
 have h:(fr.kind==dY)=ao:=Þ
 cases hr:s.run p w with
 |halt hh x=>
  rw[hr]at e;cases hh with
  |panic y=>grind [aJ,ze,Yh,Ww]|blocked=>exact e.elim
  |waiting=>exact e.elim|goexit=>exact e.elim
  |fatal m=>exact e.elim|throw m=>exact e.elim
  |exit c=>simp only[aJ,ze,if_true,hr,h];exact qX|stuck m=>simp only[aJ,ze,if_true,hr,h];exact qX
  |unsupported u=>
   cases u with|initOrder g=>exact e.elim|_=>simp only[aJ,ze,if_true,hr,h];exact qX
 |ok n x=>
  have i:=l n x hr;cases n with
  |value y=>grind [aJ,ze,Yh,Ww]|skip=>grind [aJ,ze,Yh,Ww]
  |enter f a=>grind [aJ,ze,Yh,Rj]|round r f ts a b=>grind [aJ,ze,Yh,Rk]
  |defer d=>grind [aJ,ze,Yh,Ww]
  |recover=>
   have k:Kd P p cs (match cL fr cs with
     |some (v,callers)=>gj {frame:=fr.finish v,callers,status:=aZ,dying:=ar} x|none=>gj {frame:=fr.finish .nilIface,callers:=cs,status:=aZ,dying:=ar} x):=by
    cases hy:cL fr cs with|none=>exact Ww|some y=>exact QV hy
   grind [aJ,ze,Yh]
  |_=>exact i.elim
def La{p fr}(hk:fr.kind≠ dY/\fr.kind≠ oA)(val w)(a:cs≠[]):
  Kd P p cs (ft p aw fr cs ar val w):=by
 cases cs with
 |nil=>grind
 |cons c l=>
  cases hq:fr.kind with
  |early=>grind|report=>grind
  |normal=>grind [ft,GQ]|wrapped=>grind [ft,GQ]
  |deferred=>simp only[ft,hq];refine GQ<|aE ?_;split;split;grind;grind;grind
theorem xol{p fr}(b:Jy P fr)(c:cs≠[])(a w):Kd P p cs<|Yi p fr cs a w:=by
 unfold Yi;cases fr.roundOf with
 |none=>grind [Ww,qX]
 |some r=>
  apply Yh _;cases(kT r a).run p w with
  |ok v x=>exact La b.dW v x c|halt y x=>exact qX
theorem xsz(H:ma P F X){w}(K:Sm P X w w){fr}(g:Jy P fr)(z:P.follows gK=aw)(U:cs≠[]):
  Kd P (wf P F) cs (aD (wf P F) aw aw fr cs ar w):=by
 have I:=g.jY;have C:∀m:Option nW,(∀cs,aD (wf P F) aw aw fr cs ar w=Yi (wf P F) fr cs m w)->
   Kd P (wf P F) cs (aD (wf P F) aw aw fr cs ar w):=λm h=>by
  grind [xol]
 have J:∀{s:Sem Next},BN P F X s->(∀n x,s.run (wf P F) w=cT n x->Nx n)->(∀cs,aD (wf P F) aw aw fr cs ar w=aJ (wf P F) aw fr cs ar s w)->
   Kd P (wf P F) cs (aD (wf P F) aw aw fr cs ar w):=λS O h=>by
  rw[h];exact Rg g g.dW.1 z (S.iO w K) O
 cases hto:fr.todo with
 |nil=>refine C ar λcs=>?_;grind [aD,Yi,ze]
 |cons it k=>
  rw[hto]at I;have hk:=Le I;have q:=I it<|xu ..;cases it with
  |call d b r s=>exact q.elim|extern r a=>exact q.elim
  |inBlock id=>grind [aD,Ww]|inScope c=>grind [aD,Ww]
  |inLoop c=>grind [aD,Ww]|inRangeFunc r=>grind [aD,qX]
  |endRangeFunc r=>grind [aD,Yh,Ww,qX]
  |beginRound=>
   have N:B P F X<|fr.roundOf.elim (stuck "beginRound: no round") iZ:=Ý
   exact J (Bl.dQ<|xq N λ_=>xr _) (λn x h=>GO h) λcs=>Ò
  |inRegion ops todo=>
   cases todo with
   |nil=>grind [aD,Ww]
   |cons i rest=>
    cases hw:((ops[i]?).map (bC · (eZ ops fr.tmps))).getD ao with
    |false=>grind [aD,Ww]
    |true=>
     cases ho:ops[i]?with
     |none=>grind
     |some o=>
      have v:sW P o.op=aw/\(fr.roundOf.isNone|| !AD o.op)=aw:=by have p:tW P fr.roundOf.isNone ops=aw:=q;unfold tW at p;rw[jn]at p;have:=p o<|Gu ho;rw[jy]at this;exact this
      have Q:fr.oper?=ac o:=Ď
      refine J (Cx H fr.eval o v.1) (λn x h=>GK H v.1 h) λcs=>?_;grind [aD,stepG.oper,AD]
  |code c=>
   cases c with
   |skip=>grind [aD,Ww]|label l=>grind [aD,Ww]
   |ret=>refine C (ac .ret) λcs=>?_;grind [aD,Yi,ze]|seq a b=>grind [aD,Ww]
   |block id c=>grind [aD,Ww]|loop c=>grind [aD,Ww]
   |scope c=>grind [aD,Ww]|refuse s=>grind [aD,qX]
   |cond c a b=>grind [aD,Ww,qX]
   |exit id=>
    cases hx:exitTo id k with|some k'=>grind [aD,Ww]|none=>refine C (ac<|.exit id) λcs=>?_;grind [aD,Yi,ze]
   |goto r=>
    cases hx:gotoIn r k with|some k'=>grind [aD,Ww]|none=>refine C (ac<|.goto r) λcs=>?_;grind [aD,Yi,ze]
   |region id ops draw=>grind [aD,Ww,qX]
   |rangeFunc f ps a b=>
    simp only[Vt,q9,jy]at q;let fr' (x:Nat×List lY):Zf:={fr with todo:=nH x.1::k,defers:=x.2++fr.defers};let cl (x:Nat×List lY):Call:={callee:= .value f,args:=#[.const<|nV (.yield x.1) #[] #[]],argTypes:=#[]};let sm (x:Nat×List lY):Sem Next:=nD (fr' x).eval (cl x) 0>>=λd=>ol d.target d.args;have e:∀cs,aD (wf P F) aw aw fr cs ar w=aY (seen (wf P F) fr.fn<|(ez fr.fn fr.tmps ps a b fr.roundOf).events (wf P F) w #[]) (match(ez fr.fn fr.tmps ps a b fr.roundOf).run (wf P F) w with
      | cT x w=>aJ (wf P F) aw (fr' x) cs ar (sm x) w| eI _ w=>gq (hY "range over a function: no such loop" (fr.pos<|wf P F)) w):=λcs=>by
     grind [aD,ze]
    rw[e];refine Yh _ ?_;cases hq:(ez fr.fn fr.tmps ps a b fr.roundOf).run (wf P F) w with
    |halt y x=>exact qX
    |ok x w1=>
     have j:CA P (cl x)=aw:=rfl;obtain⟨V,T,G⟩:=(KB (F:=F) (X:=X) fr.fn fr.tmps ps a b fr.roundOf q.1 q.2 g.kG).lV w w #[] K ñ;have D:Sm P X w1 w1:=by have:=G.sm.iC;rw[hq]at this;exact this
     have E:BN P F X<|sm x:=Gm (DR _ _ _) (λw d W R=>Vu j R) λd hd=>AC H _ _ hd;have t:Jy P<|fr' x:=⟨Jq (it:=nH x.1) trivial hk,λd hd=>by obtain hd|hd:=je.1 hd;grind [QX];exact g.lW d hd,g.dW,g.kG⟩;refine Rg (fr:=fr' x) t g.dW.1 z (E.iO w1 D) λn y h=>?_;obtain⟨d,Y,L,M⟩:=jr h;exact yV H (Vu j L) M
theorem ja3(H:ma P F X){w}(k:Sm P X w w){fr}(l:Jy P fr){d}(i:Wn P d.target=aw):
  Kd P (wf P F) cs (dV (wf P F) fr cs ar d w):=by
 have o:∀n x,(ol d.target d.args).run _ w=cT n x->Nx n:=λn x h=>yV H i h;have e:=(AC H d.target d.args i).iO w k;apply xyk<|qX;simp only[ze];cases hr:(ol d.target d.args).run _ w with
 |halt y x=>
  rw[hr]at e;cases y with
  |panic y=>exact Yh _ Ww|blocked=>exact e.elim
  |waiting=>exact e.elim|goexit=>exact e.elim
  |fatal m=>exact e.elim|throw m=>exact e.elim
  |exit c=>exact qX|stuck m=>exact qX
  |unsupported u=>
   cases u with|initOrder g=>exact e.elim|_=>exact qX
 |ok n x=>
  have j:=o n x hr;cases n with
  |value y=>exact Yh _ Ww|skip=>exact Yh _ Ww
  |enter f a=>grind [Yh,Rj]|round r f ts a b=>grind [Yh,Rk]
  |defer d=>exact Yh _ Ww|recover=>grind [Yh,Ww,QV]
  |_=>exact j.elim
theorem Rd(H:ma P F X){w}(o:Sm P X w w){fr}(f:Jy P fr)(g:cs≠[]):
  Kd P (wf P F) cs (cW (wf P F) aw fr cs ar w):=by
 cases hdf:fr.defers with
 |cons d ds=>
  have hd:=f.lW d Â;have t:(∀b,d.target≠ .collected b)->Kd P (wf P F) cs (cW (wf P F) aw fr cs ar w):=λm=>by
   have e:∀cs,cW (wf P F) aw fr cs ar w=dV (wf P F) {fr with defers:=ds} cs ar d w:=λcs=>by grind [cW]
   rw[e];have j:Jy P {fr with defers:=ds}:=⟨f.jY,λx q=>f.lW x Â,f.dW,f.kG⟩;grind [ja3]
  cases htg:d.target with
  |collected b=>
   have e:∀cs,cW (wf P F) aw fr cs ar w=aY (seen (wf P F) fr.fn<|(eB b).events (wf P F) w #[]) (match(eB b).run (wf P F) w with
     | cT calls w=>gj {frame:={fr with defers:=calls++ds},callers:=cs,status:=aZ,dying:=ar} w
     | eI _ w=>gq (hY "the deferred calls of a range-over-func loop have been taken" (fr.pos<|wf P F)) w):=λcs=>by
    unfold cW;rw[hdf];obtain⟨v,n⟩:=d;grind [ze]
   grind [Yh,Ww,qX]
  |_=>grind
 |nil=>
  cases hm:fr.mode with
  |run=>grind [cW,qX]
  |panicking chain=>
   have i:∀p:Zp,fr.catches p=ao:=λp=>by
    unfold Frame.catches;cases htd:fr.todo with
    |nil=>grind
    |cons it k=>have h:=f.jY it Â;cases it with|call d b r s=>exact h.elim|_=>grind
   cases cs with|nil=>grind|cons c l=>grind [cW,GQ,Frame.raise]
  |returning=>
   cases hf:(wf P F).funcs[fr.fn]?with
   |none=>simp only[cW,hdf,hm,hf];exact La f.dW _ w g
   |some fn=>
    simp only[cW,hdf,hm,hf,ze];apply Yh _;cases(dX fn fr.tmps).run _ w with
    |ok a x=>exact La f.dW a x g|halt y x=>cases y<;>exact qX
def xvf(H:ma P F X){w}(i:Sm P X w w){g}(b:Jy P g.frame)(hd:g.dying=ar)(d:P.follows gK=aw)(j:g.callers≠[]):Kd P (wf P F) g.callers<|stepG (wf P F) aw g w:=by
 obtain⟨a,f,st,h,e⟩:=g;cases hd;cases hm:a.mode with
 |run=>grind [bF,xsz]|returning=>grind [bF,Rd]
 |panicking c=>grind [bF,Rd]
end
end
end A
end Go.Proofs.YtjnbhiamaabbgaaGreatDoor
