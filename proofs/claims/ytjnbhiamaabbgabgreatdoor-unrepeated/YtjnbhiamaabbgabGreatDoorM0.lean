import Derived.Conc.Beside
import Derived.Test.YtjnbhiamaabbgabGreatDoorProg
import Derived.WalkSpells
import Derived.WalkLawsBesides
import Derived.BigQuiet
import Derived.Deep.RegionHeld3
import Derived.StillTailTactics
import Derived.Deep.WholeRow
set_option linter.all false
set_option maxRecDepth 100000
set_option maxHeartbeats 8000000
namespace Go.Proofs.YtjnbhiamaabbgabGreatDoor
def aB:=@if_neg
def aA:=@if_pos
def _root_.And.c{a b c d:Prop}(h:a/\b/\c/\d):d:=h.2.2.2
def _root_.And.d{a b c d e:Prop}(h:a/\b/\c/\d/\e):e:=h.2.2.2.2
def _root_.And.e{a b c d e f:Prop}(h:a/\b/\c/\d/\e/\f):f:=h.2.2.2.2.2
def _root_.And.f{a b c d e f g:Prop}(h:a/\b/\c/\d/\e/\f/\g):g:=h.2.2.2.2.2.2
def _root_.And.g{a b c d e f g ph:Prop}(h:a/\b/\c/\d/\e/\f/\g/\ph):ph:=h.2.2.2.2.2.2.2
def _root_.And.j{a b c d e f g ph i:Prop}(h:a/\b/\c/\d/\e/\f/\g/\ph/\i):i:=h.2.2.2.2.2.2.2.2
open Bool renaming false->bK,true->bL
open Go renaming Calls->bE,Goroutine->aS,Program->aV,execOp->bG,results->aN,stepG->aZ,tryRecover->aH,unwind->aI
open Go.Conc renaming Deaf_other->aG
open Go.Ending renaming returned->aP
open Go.Frame renaming enter->bF
open Go.GStep renaming after->bA
open Go.MemAct renaming ofEvent->aU,touch?->aR
open Go.MemOp renaming ofEvents->bD
open Go.Proofs.Tryz renaming prog->bM
open Go.Result renaming andThen->aY
open Go.World renaming cell?->aQ,setCell->aF
open Go.stepG renaming apply->bH,exec->bI
open Option renaming none->bN,some->bO
theorem _root_.Go.RowKit.Hid.o{p:Prop}(h:Go.RowKit.Hid p):p:=h
def za:=@Array.getElem?_eq_some_iff
def zd:=@Array.getElem?_setIfInBounds_ne
def ze:=@Nat.le_refl
def zg:=@Go.Sem.runT_eq
def zh:=@List.length_cons
def zj:=@List.length_append
def zn:=@Nat.lt_of_lt_of_le
def zp:=@Option.some.injEq
def zr:=@Go.RowKit.Below.refl
def zt:=@Option.map_eq_some_iff
def zx:=@Array.getElem?_setIfInBounds_self_of_lt
def zy:=@Go.Conc.mem_ofEvents
def xa:=@List.eq_nil_of_length_eq_zero
def xf:=@List.mem_cons
def xg:=@Array.getElem?_eq_getElem
def xh:=@Go.World.size_alloc
def xj:=@List.mem_cons_of_mem
def xl:=@Bool.and_eq_true
def xm:=@Go.run_underlying
def xn:=@Go.IntKind.wrap_i64
def xq:=@List.map_cons
def xt:=@List.length_take
def xu:=@Bool.false_eq_true
def xv:=@List.setIfInBounds_toArray
def xy:=@List.take_succ_eq_append_getElem
def xz:=@Nat.le_trans
def jb:=@List.length_drop
def jc:=@List.cons_append
def jd:=@List.length_singleton
def je:=@Go.cell_of_row
def jf:=@Option.some.inj
def jg:=@List.size_toArray
def jh:=@Array.getElem?_push
def jj:=@Array.getElem?_map
def jk:=@List.nil_append
def jl:=@Nat.eq_zero_or_pos
def jn:=@List.length_nil
def jo:=@List.mem_cons_self
def jp:=@List.mem_singleton
def jq:=@Go.heap_setCell_other
def jr:=@Classical.byContradiction
def js:=@Option.map_some
def ju:=@Array.getElem?_eq_none
def jv:=@Option.getD_some
def jw:=@Go.heap_alloc_new
def jx:=@Go.frozen_of_row
def jy:=@Nat.zero_add
def jz:=@Go.bodyPost_ret
def qb:=@List.length_pos_iff
def qe:=@Go.heap_setCell_same
def qg:=@Prod.mk.injEq
def qh:=@Go.Sem.run_bind'
def qi:=@Array.all_eq_true_iff_forall_mem
def qj:=@List.take_of_length_le
def qo:=@List.getElem?_eq_none
def qp:=@List.mem_map
def qw:=@Array.replicate_succ
def qx:=@Array.replicate_zero
def qy:=@Go.RowKit.Below.heap_alloc
def qz:=@Go.block_lt_of_cell
def q0:=@Array.getElem?_modify
def q8:=@List.getElem?_toArray
def Zb:=@List.length_map
def Zd:=@List.take_left'
def Zi:=@List.append_toArray
def Zj:=@Array.getD_eq_getD_getElem?
def Zm:=@Go.World.cell?_of_block
def Zn:=@List.getElem_mem
def Zq:=@List.append_assoc
def Zr:=@List.nodup_cons
def Zs:=@Array.append_assoc
def Zx:=@List.getElem?_append_right
def Zz:=@List.set_cons_succ
def Z1:=@Array.mem_iff_getElem
def Z2:=@List.getElem?_append_left
def Z5:=@Array.getElem?_setIfInBounds
def Z6:=@List.drop_left'
def Z7:=@List.push_toArray
def Z9:=@List.set_cons_zero
def Xb:=@List.getElem?_cons_succ
def Xe:=@Array.size_push
def Xf:=@Array.size_setIfInBounds
def Xh:=@Nat.ne_of_gt
def Xj:=@of_decide_eq_true
def Xl:=@List.getElem?_cons_zero
def Xo:=@List.getD_eq_getElem?_getD
def Xq:=@List.append_nil
def Xr:=@Go.Sem.events_bind
def Xw:=@List.mergeSort_perm
def Xy:=@beq_eq_false_iff_ne
def X8:=@List.take_append_of_le_length
def X9:=@decide_eq_true_eq
def Ja:=@Nat.add_assoc
def Jb:=@Go.Sem.runT_bind'
def Jd:=@List.map_append
def Je:=@List.mem_append
def Jf:=@List.getElem?_take
def Jj:=@Go.wpList_store_row
def Jr:=@BitVec.or_comm
def Js:=@Int.tmod_eq_emod_of_nonneg
def Jt:=@List.ext_getElem?
def Ju:=@beq_iff_eq
def J4:=@List.foldl_cons
def Yc:=@Array.ext_getElem?
def Yd:=@List.pairwise_cons
def Yf:=@Go.results_cell_row
def Yh:=@List.getElem?_eq_getElem
def Yj:=@List.drop_append_of_le_length
def Yk:=@Bool.or_eq_true
def Yn:=@List.drop_succ_cons
def Yp:=@List.drop_eq_nil_of_le
def Yv:=@Go.setRow_heap
def Yw:=@List.take_length
def Vd:=@List.drop_eq_getElem_cons
def Vg:=@Nat.min_eq_left
def Vh:=@Go.wpList_load_row
def Vi:=@Nat.lt_or_ge
def Vj:=@Nat.zero_le
def Vl:=@Go.World.ownsRow_nil
def Vq:=@List.sum_cons
def Vx:=@List.drop_drop
def Vy:=@List.not_mem_nil
def V8:=@Go.RowKit.Below.heap_setCell
def V9:=@Nat.sub_self
def Wd:=@Nat.not_lt_zero
def Wk:=@Array.mem_of_getElem?
def Wl:=@List.set_append_right
def Wm:=@List.singleton_append
def Wt:=@Int.toNat_natCast
def Wu:=@List.flatten_cons
def W7:=@Bool.false_and
def W8:=@List.drop_zero
def W9:=@List.lt_irrefl
def PL:=@Nat.not_succ_le_self
def PM:=@Nat.pow_le_pow_right
def IE:=@Array.mem_append
def uP:=@List.map_map
def IG:=@List.range'_succ
def zW:=@Nat.add_comm
def XQ:=@List.extract_eq_take_drop
def XR:=@List.getElem?_eq_some_iff
def XT:=@List.getElem_append_right
def PO:=@List.take_succ_cons
def XU:=@List.getElem_append_left
def IB:=@Go.Frame.finish_at
def IC:=@List.mem_filter
def PK:=@List.getElem?_drop
def PR:=@List.pairwise_mergeSort
def PS:=@Function.comp_def
def XV:=@List.drop_of_length_le
def PT:=@List.flatMap_cons
def IJ:=@List.foldl_append
def DN:=@List.map_nil
def XW:=@List.reverse_singleton
def XY:=@Nat.div_div_eq_div_mul
def DR:=@Nat.pow_succ
def DT:=@Go.Sem.run_pure
def XZ:=@Classical.choose_spec
def PW:=@List.take_append_drop
def PY:=@List.all_eq_true
def PZ:=@Nat.mod_eq_of_lt
def IP:=@ByteArray.ext
@[go_sem] abbrev zo(b:Nat):Go.Value:=.pointer<|bO ⟨b,0,bN⟩
@[go_sem] abbrev zk(b k:Nat):Go.Value:=.pointer<|bO ⟨b,k,bN⟩
@[go_sem] abbrev zi(n:Int):Go.Value:=.int .i64 n
@[go_sem] abbrev zu(n:Int):Go.Value:=.int .u32 n
@[go_sem] abbrev zb(n:Int):Go.Value:=.int .u8 n
abbrev Zl:=List UInt8
abbrev Zy:=Go.World
abbrev Zv:=Go.Value
abbrev Zg:=Go.Goroutine
abbrev Zp:=Go.Program
abbrev Z3:=BitVec 32
abbrev Za:=Array Go.Value
abbrev Ze:=List Go.Value
abbrev Zf:=Go.Frame
abbrev Zc:=Array Go.Func
abbrev Zt:=Go.TypeId
abbrev Zu:=Nat→UInt8
abbrev ZP:=Nat→Prop
abbrev Z8:=UInt8
@[go_sem] abbrev zq(b k:Nat):Go.Addr:=⟨b,k,bN⟩
def Qa:Go.Code→Go.Code
 |.seq x _=>x
 |_=> .skip
def Qb:Go.Code→Go.Code
 |.seq _ x=>x
 |_=> .skip
def Qc:Go.Code→Go.Code
 |.cond _ x _=>x
 |_=> .skip
def Qd:Go.Code→Go.Code
 |.cond _ _ x=>x
 |_=> .skip
def Qk:Go.Code→Go.Code
 |.block _ x=>x
 |_=> .skip
def Ql:Go.Code→Go.Code
 |.loop x=>x
 |_=> .skip
def Qf:Option Go.Code→Go.Code
 |some x=>x
 |_=> .skip
def Qn:Nat→Go.Code→Go.Code
 |0,c=>c
 |n+1,c=>Qb<|Qn n c
namespace A
open Go
section
section
variable {w v:Zy}
def re(w:Zy)(t:Nat->Question->Nat)(d:Nat):Zy:={w with tape:=t,drawn:=d}
def rW{α:Type}:Result α->Zy
 | .ok _ w=>w
 | .halt _ w=>w
def Ww{α:Type}(v:Zy):Result α->Result α
 | .ok a _=> .ok a v
 | .halt h _=> .halt h v
def vK(w:Zy)(t a:Nat->Question->Nat)(d d':Nat):re (re w t d) a d'=re w a d':=rfl
def KX(w:Zy):re w w.tape w.drawn=w:=rfl
def ET{α:Type}(r:Result α):Ww (rW r) r=r:=by cases r<;>rfl
def BU(w:Zy)(k:Nat)(t:Nat->Question->Nat)(d:Nat):Prop:=∀i q,i<k->t (d+i) q=w.tape (w.drawn+i) q
def BU.le{w:Zy}{k k':Nat}{t:Nat->Question->Nat}{d:Nat}(h:BU w k t d)(hk:k'<=k):BU w k' t d:=fun i q a=>h i q<|by omega
def nQ{α:Type}(w:Zy)(r:Result α)(run:Zy->Result α):Prop:=w.drawn<=(rW r).drawn/\(rW r).tape=w.tape/\
 ∀t d,BU w ((rW r).drawn-w.drawn) t d->run (re w t d)=Ww (re (rW r) t<|d+((rW r).drawn-w.drawn)) r
def jK{α:Type}:Result α->Prop
 | .ok _ _=>True
 | .halt (.panic _) _=>True
 |_=>False
def NI:Halt->Prop
 | .blocked| .waiting| .goexit| .fatal _| .throw _| .unsupported (.initOrder _)=>False
 |_=>True
def nR{α:Type}:Result α->Prop
 | .ok _ _=>True
 | .halt h _=>NI h
def BP(P:Zp)(t:Zt):Bool:=match P.underlying t with
 |some (.chan _ _)=>bK
 |_=>bL
def yF(P:Zp)(b:Builtin)(ts:Array Zt):Bool:=match b with
 | .append| .clear| .copy| .delete| .max| .min| .panic| .recover| .unsafeSliceData| .unsafeString=>bL
 | .len| .cap=>match ts[0]?with
  |some u=>BP P u
  |none=>bL
 |_=>bK
def Vn(P:Zp):Target->Bool
 | .builtin b ts _ _=>yF P b ts
 | .coroexit _=>bK
 |_=>bL
def VI(P:Zp)(src dst:Zt):Bool:=match P.underlying src,P.underlying dst with
 |some (.int _),bO (.int _)=>bL
 |some (.int _),bO .string=>bL
 |some .string,bO .string=>bL
 |some .string,bO (.slice e)=>match P.underlying e with
  |some (.int .u8)=>bL
  |_=>bK
 |some (.slice e),bO .string=>match P.underlying e with
  |some (.int .u8)=>bL
  |_=>bK
 |_,_=>bK
def ES(P:Zp)(c:Call):Bool:=match c.callee with
 | .builtin b=>yF P b c.argTypes
 |_=>bL
def qM(P:Zp)(o:Op):Bool:=match o with
 | .convert src dst _=>VI P src dst
 | .call c| .defer c=>ES P c
 | .go _| .send ..| .recv ..| .select ..| .ready _| .waits _=>bK
 |_=>bL
def AX:Op->Bool
 | .defer _=>bL
 |_=>bK
def rT(P:Zp)(b:Bool)(ops:Array Oper):Bool:=ops.all fun o=>qM P o.op&&(b|| !AX o.op)
def qn(P:Zp)(b:Bool):Code->Bool
 | .region _ ops _=>rT P b ops
 | .seq x y=>qn P b x&&qn P b y
 | .cond _ x y=>qn P b x&&qn P b y
 | .block _ x=>qn P b x
 | .loop x=>qn P b x
 | .scope x=>qn P b x
 | .rangeFunc _ _ x y=>qn P bK x&&qn P bK y
 |_=>bL
structure dL(P:Zp)(o:Option Obj):Prop where
 pend:∀c e,o≠bO (.pending c e)
 calls:∀ds,o=bO (.deferred<|bO ds)->∀d∈ds,Vn P d.target=bL
 loop:∀l,o=bO (.loop l)->qn P bK l.assign=bL/\qn P bK l.body=bL/\(∀c,l.pending=bO c->qn P bK c=bL)/\P.inits.idxOf? l.fn=bN
def dL.none{P:Zp}:dL P bN:=⟨fun _ _ h=>(by cases h),fun _ h=>(by cases h),fun _ h=>(by cases h)⟩
def dL.cells{P:Zp}{c:Za}{e:Zt}{f:Nat×Nat}:dL P<|bO<|.cells c e f:=⟨fun _ _ h=>(by cases h),fun _ h=>(by cases h),fun _ h=>(by cases h)⟩
def odd:Obj->Bool
 | .chan ..| .loop _| .deferred _| .pending ..| .map ..=>bL
 |_=>bK
def WO(o o':Obj):Prop:=(o.isChan=bL/\odd o'=bL)\/∃c e,o= .cells #[] e (0,0)/\o'= .cells c e (0,0)
structure eI where
 N:Nat
 V:Nat->Option Obj
abbrev Pn:=Inhabited eI
abbrev Pn.N[p:Pn]:Nat:=p.default.N
abbrev Pn.V[p:Pn]:Nat->Option Obj:=p.default.V
variable [pn:Pn]
def xpy(X:ZP)(w v:Zy):Prop:=Pn.N<=w.heap.size/\∀r,X r->r<Pn.N->v.heap[r]?=Pn.V r\/v.heap[r]?=w.heap[r]?
structure Sm(P:Zp)(X:ZP)(w v:Zy):Prop where
 size:v.heap.size=w.heap.size
 out:∀r,¬X r->v.heap[r]?=w.heap[r]?
 dead:∀r,X r->∃o o',w.heap[r]?=bO o/\v.heap[r]?=bO o'/\WO o o'
 oks:∀r:Nat,dL P w.heap[r]?
 tape:v.tape=w.tape
 drawn:v.drawn=w.drawn
 os:v.os=w.os
 output:v.output=w.output
 pin:xpy X w v
def qI(X:ZP)(n:Nat)(e:Event):Prop:=
 match e.loc with
 | .cell a=>¬X a.block/\a.block<n
 | .obj r=>(X r->e.write=bK)/\r<n
 | .mark .noRoom=>True
 | .mark (.extern _)=>True
 | .output=>True
 |_=>False
def qI.mono{X:ZP}{n m:Nat}{e:Event}(h:qI X n e)(c:n<=m):qI X m e:=by
 obtain⟨l,a,b⟩:=e;unfold qI at*;split<;>simp_all<;>omega
structure CR{α:Type}(P:Zp)(X:ZP)(v:Zy)(es:Array Event)(r:Result α)(r2:Result α×Array Event)(v':Zy)(new:Array Event):Prop where
 eq:r2=(Ww v' r,es++new)
 sm:Sm P X (rW r) v'
 kept:∀x,X x->v'.heap[x]?=v.heap[x]?
 evs:∀e∈new,qI X v'.heap.size e
 grows:v.heap.size<=v'.heap.size
structure Bl{α:Type}(P P':Zp)(X:ZP)(s:Sem α):Prop where
 gJ:∀w v es,Sm P X w v->jK (s.run P' w)->∃v' new,CR P X v es (s.run P' w) (s.runT P v es) v' new
 loc:∀w,Sm P X w w->jK (s.run P' w)->nQ w (s.run P' w) (s.run P')
 dZ:∀w,Sm P X w w->nR (s.run P' w)
section
variable {α β:Type} {P P':aV} {X:Nat->Prop}
def Sm.self(h:Sm P X w v):Sm P X w w:=⟨rfl,fun _ _=>rfl,fun r d=>by
 obtain⟨o,i,a,f,⟨b,g⟩|⟨c,e,rfl,rfl⟩⟩:=h.dead r d;exact⟨o,o,a,a,.inl ⟨b,by cases o<;>cases b;rfl⟩⟩;exact⟨_,_,a,a,.inr ⟨_,_,rfl,rfl⟩⟩,h.oks,rfl,rfl,rfl,rfl,⟨h.pin.1,fun _ _ _=> .inr rfl⟩⟩
def C4{s:Sem α}{k:α->Sem β}(j:Bl P P' X s)(hk:∀a,Bl P P' X<|k a):Bl P P' X<|s.bind k:=by
 refine⟨fun w v o f c=>?_,fun w f c=>?_,fun w f=>?_⟩;rotate_left 2;rw[qh P' s k w];have C:=j.dZ w f;cases hq:s.run P' w with
 |halt hh w'=>rw[hq]at C;exact C
 |ok a w'=>
  obtain⟨n,b,r⟩:=j.gJ w w #[] f (by rw[hq];trivial);rw[hq]at r;exact(hk a).dZ w' r.sm.self
 rw[qh P' s k w]at c⊢;rw[Jb P s k v o];cases hr:s.run P' w with
 |halt hh w'=>
  rw[hr]at c;obtain⟨n,b,h⟩:=j.gJ w v o f (by rw[hr];revert c;cases hh<;>exact id);rw[hr]at h;refine⟨n,b,⟨?_,h.sm,h.kept,h.evs,h.grows⟩⟩;rw[h.eq];rfl
 |ok a w'=>
  rw[hr]at c;obtain⟨n,b,h⟩:=j.gJ w v o f (by rw[hr];trivial);rw[hr]at h;obtain⟨B,y,l⟩:=(hk a).gJ w' n (o++b) h.sm c;refine⟨B,b++y,⟨?_,l.sm,fun x D=>(l.kept x D).trans<|h.kept x D,?_,xz h.grows l.grows⟩⟩;rw[h.eq];show(k a).runT P n (o++b)=_;rw[l.eq,Zs];rfl;intro e F;rcases IE.1 F with x|x
  exact(h.evs e x).mono l.grows;exact l.evs e x
 have E:=qh P' s k;unfold nQ;simp only[E]at c⊢;cases hr:s.run P' w with
 |halt h w'=>
  rw[hr]at c;obtain⟨p,g,m⟩:=j.loc w f (by rw[hr];revert c;cases h<;>exact id);rw[hr]at p g m;refine⟨p,g,fun t d z=>?_⟩;rw[m t d z];rfl
 |ok a w'=>
  rw[hr]at c;obtain⟨p,g,m⟩:=j.loc w f (by rw[hr];trivial);rw[hr]at p g m;simp only[rW,Ww]at p g m;obtain⟨n,b,r⟩:=j.gJ w w #[] f (by rw[hr];trivial);rw[hr]at r;obtain⟨J,G,H⟩:=(hk a).loc w' r.sm.self c;show w.drawn<=(rW<|(k a).run P' w').drawn/\(rW<|(k a).run P' w').tape=w.tape/\∀t d,BU w ((rW<|(k a).run P' w').drawn-w.drawn) t d->_=Ww (re (rW<|(k a).run P' w') t<|d+((rW<|(k a).run P' w').drawn-w.drawn)) ((k a).run P' w');refine⟨by omega,G.trans g,fun t d z=>?_⟩;rw[m t d<|z.le<|by omega];have:=H t (d+(w'.drawn-w.drawn)) (fun i q I=>by
   have:=z (w'.drawn-w.drawn+i) q (by omega);rw[Ja,this,g,show w.drawn+(w'.drawn-w.drawn+i)=w'.drawn+i by omega])
  rw[show d+(w'.drawn-w.drawn)+((rW<|(k a).run P' w').drawn-w'.drawn)=d+((rW<|(k a).run P' w').drawn-w.drawn) by omega]at this;exact this
def wT{s:Sem α}{k:α->Sem β}(b:Bl P P' X s)(hk:∀a,Bl P P' X<|k a):Bl P P' X<|s>>=k:=C4 b hk
def yI{s:Sem α}(r:Zy->Result α)(h:∀w,rW (r w)=w)(g:∀w t d,r (re w t d)=Ww (re w t d) (r w))(tm:∀w,nR<|r w)(a:∀w,s.run P' w=r w)
  (b:∀w v es,Sm P X w v->jK (r w)->∃new,s.runT P v es=(Ww v<|r w,es++new)/\∀e∈new,qI X v.heap.size e):Bl P P' X s:=by
 refine⟨fun w v es c f=>?_,fun w c f=>?_,fun w _=>by rw[a];exact tm w⟩;rw[a]at f⊢;obtain⟨new,i,j⟩:=b w v es c f;exact⟨v,new,⟨i,by rw[h];exact c,fun _ _=>rfl,j,ze _⟩⟩;unfold nQ;rw[a,h];refine⟨ze _,rfl,fun t d _=>?_⟩;rw[a,g];simp
def Vv(a:α):Bl P P' X (Pure.pure a:Sem α):=
 yI (fun w=> .ok a w) (fun _=>rfl) (fun _ _ _=>rfl) (fun _=>trivial) (fun _=>rfl) (fun w v b _ _=>⟨#[],by simp[Pure.pure,Sem.runT,Ww,-Sem.runT_eq],by simp⟩)
def vE(h:Halt)(a:NI h):Bl P P' X (Sem.halt h:Sem α):=
 yI (fun w=> .halt h w) (fun _=>rfl) (fun _ _ _=>rfl) (fun _=>a) (fun _=>rfl) (fun w v b _ _=>⟨#[],by simp[Sem.runT,Ww,-Sem.runT_eq],by simp⟩)
def Aw(m:Mark)(b:m= .noRoom\/∃f,m= .extern f):Bl P P' X<|mark m:=
 yI (fun w=> .ok () w) (fun _=>rfl) (fun _ _ _=>rfl) (fun _=>trivial) (fun _=>rfl) (fun w v c _ _=>⟨#[⟨.mark m,bK,bL⟩],by simp[mark,Sem.runT,Ww,-Sem.runT_eq],fun e a=>by
  simp at a;subst a;rcases b with rfl|⟨f,rfl⟩<;>exact trivial⟩)
def Sm.frozen(h:Sm P X w v)(a:Addr):v.frozen? a=w.frozen? a:=by
 unfold World.frozen?;by_cases f:X a.block;obtain⟨o,j,b,d,⟨g,i⟩|⟨c,e,rfl,rfl⟩⟩:=h.dead _ f;rw[b,d];cases o<;>cases g
 cases j<;>cases i<;>rfl
 rw[b,d];rw[h.out _ f]
def xeu(a:Addr):Bl P P' X<|Go.frozen a:=
 yI (fun w=> .ok (w.frozen? a) w) (fun _=>rfl) (fun _ _ _=>rfl) (fun _=>trivial) (fun _=>rfl) (fun w v c b _=>⟨#[],by
  simp[Go.frozen,Sem.runT,Ww,b.frozen a,-Sem.runT_eq],by simp⟩)
def Xc{k:Zp->Sem α}(h:k P=k P')(hk:Bl P P' X<|k P'):Bl P P' X<|program>>=k:=by
 have d:∀w,(program>>=k).run P' w=(k P').run P' w:=fun w=>rfl;have e:∀w a,(program>>=k).runT P w a=(k P').runT P w a:=fun w a=>by rw[<-h];rfl
 refine⟨fun w v a b c=>?_,fun w b c=>?_,fun w b=>by rw[d];exact hk.dZ w b⟩;rw[d]at c⊢;rw[e];exact hk.gJ w v a b c;rw[d]at c;have:=hk.loc w b c;unfold nQ at this⊢;simp only[d];exact this
def IN(q:Question):Bl P P' X<|choose q:=by
 have run:∀p w,(choose q).run p w=if q.forced then .ok 0 w else .ok (q.cut<|w.tape w.drawn q) {w with drawn:=w.drawn+1}:=fun p w=>by
  unfold choose;simp only[Sem.run]
 refine⟨fun w v e a b=>?_,fun w a b=>?_,fun w _=>by rw[run];split<;>trivial⟩;rw[run];split;exact⟨v,#[],⟨by simp[choose,Sem.runT, *,Ww,-Sem.runT_eq],a,fun _ _=>rfl,by simp,ze _⟩⟩;refine⟨{v with drawn:=v.drawn+1},#[],⟨?_,⟨a.size,a.out,a.dead,a.oks,a.tape,by simp[rW,a.drawn],a.os,a.output,a.pin⟩,fun _ _=>rfl,by simp,ze _⟩⟩;simp[choose,Sem.runT, *,Ww,a.tape,a.drawn,-Sem.runT_eq];unfold nQ;simp only[run];split;exact⟨ze _,rfl,fun t d _=>by simp[rW,Ww]⟩;refine⟨by simp[rW],rfl,fun t d c=>?_⟩;have:=c 0 q (by simp[rW]);simp only[Nat.add_zero]at this;simp[rW,Ww,re,this];exact⟨rfl,rfl,rfl⟩
def Sm.low(h:Sm P X w v)(r:Nat)(b:X r):r<w.heap.size:=by
 obtain⟨o,d,a,c,_⟩:=h.dead r b;exact(za.1 a).1
def Sm.push(h:Sm P X w v)(o:Obj)(ho:dL P<|bO o):Sm P X {w with heap:=w.heap.push o} {v with heap:=v.heap.push o}:=by
 refine⟨by simp[h.size],fun r a=>?_,fun r a=>?_,fun r=>by
  rw[jh];split;exact ho;exact h.oks r,h.tape,h.drawn,h.os,h.output,⟨by have:=h.pin.1;simp only[Xe];omega,fun r a b=>by
  have:=h.low r a;simp only[jh,h.size,show r≠w.heap.size by omega,if_false];exact h.pin.2 r a b⟩⟩
 simp only[jh,h.size];split;rfl;exact h.out r a;have:=h.low r a;simp only[jh,h.size,show r≠w.heap.size by omega,if_false];exact h.dead r a
def xqi(o:Obj)(ho:dL P<|bO o):Bl P P' X<|newObj o:=by
 have run:∀p w,(newObj o).run p w= .ok w.heap.size {w with heap:=w.heap.push o}:=fun _ _=>rfl;refine⟨fun w v e a b=>?_,fun w a b=>?_,fun w _=>by rw[run];trivial⟩;rw[run];refine⟨{v with heap:=v.heap.push o},#[],⟨?_,a.push o ho,fun x c=>?_,by simp,by simp⟩⟩;simp[newObj,Sem.runT,Ww,a.size,-Sem.runT_eq];have:=a.low x c;simp only[jh,a.size,show x≠w.heap.size by omega,if_false];unfold nQ;rw[run];refine⟨ze _,rfl,fun t d _=>?_⟩;rw[run];simp[rW,Ww,re];exact⟨rfl,rfl,rfl⟩
def Wb{w:Zy}{a:Addr}{x:Zv}(hx:w.cell? a=bO x):a.block<w.heap.size:=by
 apply jr;intro b;simp[aQ,ju (by omega:w.heap.size<=a.block)]at hx
def Sm.cell(h:Sm P X w v){a:Addr}(b:¬X a.block):v.cell? a=w.cell? a:=by simp[aQ,h.out _ b]
def Sm.iH(h:Sm P X w v){a:Addr}(f:X a.block):w.cell? a=bN/\(∀s,w.noCell a s= .stuck s)/\∀at_ u,w.heap[a.block]?≠bO (.view at_ u):=by
 obtain⟨o,j,b,g,⟨d,i⟩|⟨c,e,rfl,rfl⟩⟩:=h.dead _ f;cases o<;>cases d
 exact⟨by simp[aQ,b],by simp[World.noCell,b],by simp[b]⟩;exact⟨by simp[aQ,b],by simp[World.noCell,b],by simp[b]⟩
def Sk{p:Zp}{at_:Addr}{u:Zt}{k:Addr}{b:Bool}(h:v.heap[at_.block]?=w.heap[at_.block]?):v.seen p at_ u k b=w.seen p at_ u k b:=by
 unfold World.seen;rw[h]
def zx6{p:Zp}:∀(d:Nat) (t:Zt) (o:Nat) (x:Zv),plainCell p d t o=bO x->∃b bs,x.bytes?=bO (b::bs):=by
 intro d;induction d with
 |zero=>intro t o x h;cases h
 |succ d ih=>
  intro t o x h;unfold plainCell at h;split at h;obtain⟨f,c,a⟩:=Array.exists_of_findSome?_eq_some h;split at a;exact ih _ _ _ a;cases a;dsimp only at h;split at h;cases h;exact ih _ _ _ h;split at h<;>cases h;exact⟨_,_,rfl⟩
  split at h<;>cases h
  cases ‹IntKind›<;>exact⟨_,_,rfl⟩
  split at h<;>cases h
  cases ‹FloatKind›<;>exact⟨_,_,rfl⟩
  split at h<;>cases h
  cases ‹FloatKind›<;>exact⟨_,_,rfl⟩
  cases h
def zqc{p:Zp}{e:Zt}{f x stop:Nat}(h:x<stop):∃why,seenCells p #[] e f x stop= .error why:=by
 cases f with
 |zero=>exact⟨_,rfl⟩
 |succ f=>
  unfold seenCells;rw[aB<|by omega];dsimp only;split;exact⟨_,rfl⟩;split;exact⟨_,rfl⟩;exact⟨_,rfl⟩
def Sm.nA(h:Sm P X w v)(p:Zp){at_:Addr}(hx:X at_.block)(u:Zt)(k:Addr)(b:Bool):∃why,w.seen p at_ u k b= .error why:=by
 obtain⟨o,q,d,m,j⟩:=h.dead _ hx;unfold World.seen;simp only[bind,Except.bind,pure,Except.pure,d];split;exact⟨_,rfl⟩;cases hl:plainCell p p.depth u k.off with
 |none=>exact⟨_,rfl⟩
 |some like=>
  obtain⟨y,a,i⟩:=zx6 _ _ _ _ hl;simp only[i,js];cases byteOfCell p p.depth u k.off with
  |none=>exact⟨_,rfl⟩
  |some β=>
   rcases j with⟨g,n⟩|⟨c,e,rfl,rfl⟩;cases o<;>cases g
   exact⟨_,rfl⟩;dsimp only;split;exact⟨_,rfl⟩;split
   rename_i b0 _
   obtain⟨why,l⟩:=zqc (p:=p) (e:=e) (f:=(y::a).length+1) (x:=at_.off/p.cellsOf e*p.bytesOf e+b0+β) (stop:=at_.off/p.cellsOf e*p.bytesOf e+b0+β+(y::a).length) (by simp);rw[l];exact⟨why,rfl⟩;exact⟨_,rfl⟩
structure vT(P P':Zp):Prop where
 seen:∀(w:Zy) at_ u k b,w.seen P' at_ u k b=w.seen P at_ u k b
 tight:∀u,tight P' P'.depth u=tight P P.depth u
def zyy{p:Zp}{w:Zy}{at_:Addr}{u:Zt}{k:Addr}{b:Bool}{x:Zv}{l:List Addr}(h:w.viewLoad p at_ u k b= .ok (x,l)):(∀y∈l,y.block=at_.block)/\at_.block<w.heap.size:=by
 unfold World.viewLoad at h;cases hs:w.seen p at_ u k b with
 |error e=>rw[hs]at h;cases h
 |ok s=>
  obtain⟨c,e,j,first,a,d⟩:=s;rw[hs]at h;simp only[bind,Except.bind]at h;cases hv:Value.ofBytes a (d.flatMap fun(_,s,bs)=>(bs.drop (first-s)).take (first+((a.bytes?.map (·.length)).getD 0)-max first s))with
  |none=>simp only[hv]at h;cases h
  |some y=>
   simp only[hv]at h;cases h;refine⟨fun y f=>?_,?_⟩;simp only[qp]at f;obtain⟨z,_,rfl⟩:=f;rfl
   ·apply jr
    intro g;have i:w.heap[at_.block]?=bN:=ju (by omega);unfold World.seen at hs;simp only[bind,Except.bind,i]at hs
    repeat' split at hs
    all_goals cases hs
end
end
end
section
variable [pn:Pn]
section
variable {w:Zy} {p:Zp}
section
variable {α β:Type} {P P':aV} {X:Nat->Prop}
def vT.viewLoad(K:vT P P'){w v:Zy}{at_:Addr}(h:v.heap[at_.block]?=w.heap[at_.block]?)(u:Zt)(k:Addr)(b:Bool):v.viewLoad P at_ u k b=w.viewLoad P' at_ u k b:=by
 unfold World.viewLoad;rw[K.seen,Sk h]
def TD(a:Addr)(m:Mode):(Go.load a m).run p w=match w.cell? a with
  |some v=> .ok v w
  |none=>match w.farLoad p a (m== .atomic)with
   | .ok (v,_)=> .ok v w
   | .error h=> .halt h w:=by
 unfold Go.load;cases hc:w.cell? a with
 |some x=>simp[Sem.run,hc]
 |none=>cases hf:w.farLoad p a (m== .atomic)<;>simp[Sem.run,hc,hf]
def Ax(a:Addr)(m:Mode)(es:Array Event):(Go.load a m).runT p w es=match w.cell? a with
  |some v=>(.ok v w,es.push ⟨.cell a,bK,m== .atomic⟩)
  |none=>match w.farLoad p a (m== .atomic)with
   | .ok (v,touched)=>(.ok v w,es++touched.toArray.map (⟨.cell ·,bK,m== .atomic⟩))
   | .error h=>(.halt h w,es):=by
 unfold Go.load;cases hc:w.cell? a with
 |some x=>simp[Sem.runT,hc,-Sem.runT_eq]
 |none=>cases hf:w.farLoad p a (m== .atomic)<;>simp[Sem.runT,hc,hf,-Sem.runT_eq]
def Bm(a:Addr)(m:Mode)(p:Zp)(w:Zy)(t:Nat->Question->Nat)(d:Nat):(Go.load a m).run p (re w t d)=Ww (re w t d) ((Go.load a m).run p w)/\rW ((Go.load a m).run p w)=w:=by
 have e:(re w t d).cell? a=w.cell? a:=rfl;have f:(re w t d).farLoad p a (m== .atomic)=w.farLoad p a (m== .atomic):=rfl;unfold Go.load;simp only[Sem.run,e,f];cases w.cell? a with
 |some x=>exact⟨rfl,rfl⟩
 |none=>
  cases w.farLoad p a (m== .atomic)with
  |ok x=>exact⟨rfl,rfl⟩
  |error x=>exact⟨rfl,rfl⟩
def s9(K:vT P P'){w v:Zy}(c:Sm P X w v)(a:Addr)(b:Bool){x:Zv}{l:List Addr}(h:w.farLoad P' a b= .ok (x,l)):
  v.farLoad P a b= .ok (x,l)/\∀y∈l,¬X y.block/\y.block<v.heap.size:=by
 unfold World.farLoad at h⊢;by_cases g:X a.block;have k:=(c.iH g).2.2;exfalso;revert h;cases ho:w.heap[a.block]?with
 |none=>intro h;cases h
 |some o=>
  cases o with
  |view at_ u=>exact absurd ho<|k _ _
  |_=>intro h;cases h
 rw[c.out _ g];cases ho:w.heap[a.block]?with
 |none=>rw[ho]at h;cases h
 |some o=>
  rw[ho]at h;cases o with
  |view at_ u=>
   simp only at h⊢;by_cases d:X at_.block;obtain⟨f,m⟩:=c.nA _ d u a b;have:w.viewLoad P' at_ u a b= .error f:=by
    unfold World.viewLoad;rw[m];rfl
   rw[this]at h;cases h;rw[K.viewLoad (c.out _ d) u a b];cases hl:w.viewLoad P' at_ u a b with
   |error z=>rw[hl]at h;cases h
   |ok z=>
    rw[hl]at h;cases h;obtain⟨i,j⟩:=zyy hl;exact⟨rfl,fun y e=>by rw[i y e];exact⟨d,by rw[c.size];exact j⟩⟩
  |_=>cases h
def My(K:vT P P')(a:Addr)(m:Mode):Bl P P' X<|Go.load a m:=by
 refine⟨fun w v s f g=>?_,fun w f g=>?_,fun w f=>?_⟩;rotate_left 2;rw[TD];have p:=(f.oks a.block).pend;cases hc:w.cell? a with
 |some x=>trivial
 |none=>
  cases b:w.farLoad P' a (m== .atomic)with
  |ok z=>trivial
  |error h=>
   unfold World.farLoad World.noCell at b;cases ho:w.heap[a.block]?with
   |none=>rw[ho]at b;cases b;trivial
   |some o=>
    rw[ho]at b p;cases o with
    |view at_ u=>
     simp only at b;cases hl:w.viewLoad P' at_ u a (m== .atomic)with
     |ok z=>rw[hl]at b;cases b
     |error z=>rw[hl]at b;cases b;trivial
    |pending c e=>exact absurd rfl<|p c e
    |_=>cases b;trivial
 rw[TD]at g⊢;rw[Ax];by_cases n:X a.block;exfalso;obtain⟨j,k,q⟩:=f.iH n;have b:w.farLoad P' a (m== .atomic)= .error (.stuck "load: no such cell"):=by
  unfold World.farLoad;rw[k];split;exact absurd ‹_› (q _ _);rfl
 rw[j,b]at g;exact g;rw[f.cell n];cases hc:w.cell? a with
 |some x=>exact⟨v,#[⟨.cell a,bK,m== .atomic⟩],⟨by simp[Ww],f,fun _ _=>rfl,fun e i=>by
   simp at i;subst i;exact⟨n,by rw[f.size];exact Wb hc⟩,ze _⟩⟩
 |none=>
  rw[hc]at g;cases b:w.farLoad P' a (m== .atomic)with
  |ok z=>
   obtain⟨x,l⟩:=z;obtain⟨j,k⟩:=s9 K f a (m== .atomic) b;rw[j];refine⟨v,l.toArray.map (⟨.cell ·,bK,m== .atomic⟩),⟨by simp[Ww],f,fun _ _=>rfl,fun e i=>?_,ze _⟩⟩;simp at i;obtain⟨y,r,rfl⟩:=i;exact k y r
  |error h=>
   rw[b]at g;exfalso;revert g;unfold World.farLoad World.noCell at b;cases ho:w.heap[a.block]?with
   |none=>rw[ho]at b;cases b;exact id
   |some o=>
    rw[ho]at b;cases o with
    |view at_ u=>
     simp only at b;cases hl:w.viewLoad P' at_ u a (m== .atomic)with
     |ok z=>rw[hl]at b;cases b
     |error z=>rw[hl]at b;cases b;exact id
    |_=>cases b;exact id
 unfold nQ;have:=Bm a m P' w;rw[(this w.tape w.drawn).2];refine⟨ze _,rfl,fun t d _=>?_⟩;rw[(this t d).1];simp
def Sm.set{w v:Zy}(h:Sm P X w v){a:Addr}(f:¬X a.block)(x:Zv):Sm P X (w.setCell a x)<|v.setCell a x:=by
 refine⟨by simp[aF,h.size],fun r c=>?_,fun r c=>?_,fun r=>?_,h.tape,h.drawn,h.os,h.output,⟨by simp only[aF,Array.size_modify];exact h.pin.1,fun r c g=>by
  have b:a.block≠r:=fun e=>f<|e▸c;simp only[aF,q0,b,if_false];exact h.pin.2 r c g⟩⟩
 simp only[aF,q0,h.out r c];have b:a.block≠r:=fun e=>f<|e▸c;simp only[aF,q0,b,if_false];exact h.dead r c;have d:=h.oks r;simp only[aF,q0];split;cases ho:w.heap[r]?with
 |none=>exact .none
 |some o=>
  rw[ho]at d;cases o with
  |cells=>exact .cells
  |_=>exact d
 exact d
def Kf{a:Addr}(c:¬X a.block)(x:Zv)(r:Nat)(d:X r):(w.setCell a x).heap[r]?=w.heap[r]?:=by
 have b:a.block≠r:=fun e=>c<|e▸d;simp only[aF,q0,b,if_false]
def Sm.setObj{w v:Zy}(h:Sm P X w v){r:Nat}(hx:¬X r)(o:Obj)(ho:dL P<|bO o):Sm P X {w with heap:=w.heap.setIfInBounds r o} {v with heap:=v.heap.setIfInBounds r o}:=by
 refine⟨by simp[h.size],fun s b=>?_,fun s b=>?_,fun s=>?_,h.tape,h.drawn,h.os,h.output,⟨by simp only[Xf];exact h.pin.1,fun s b c=>by
  have a:r≠s:=fun e=>hx<|e▸b;simp only[Z5,a,if_false];exact h.pin.2 s b c⟩⟩
 simp only[Z5,h.size,h.out s b];have a:r≠s:=fun e=>hx<|e▸b;simp only[Z5,a,if_false];exact h.dead s b;show dL P (w.heap.setIfInBounds r o)[s]?;rw[Z5]
 repeat' split
 exact ho;exact .none;exact h.oks s
def Mq{r:Nat}(b:¬X r)(o:Obj)(s:Nat)(c:X s):(w.heap.setIfInBounds r o)[s]?=w.heap[s]?:=by
 have a:r≠s:=fun e=>b<|e▸c;simp only[Z5,a,if_false]
def whole:Zv->Bool
 | .agg _=>bL
 | .tuple _=>bL
 |_=>bK
def KO(a:Addr)(x:Zv)(m:Mode):(Go.store a x m).run p w=
  (if whole x then .halt (.stuck "store: not the value of one cell") w else
  match w.cell? a with
  |some _=>if w.frozen? a then .halt (.unsupported<|.unsafePointer "a write to bytes that a string shares") w else .ok () (w.setCell a x)
  |none=>match w.farStore p a x (m== .atomic)with
   | .ok (w,_)=> .ok () w
   | .error h=> .halt h w:Result Unit):=by
 unfold Go.store;cases x<;>rfl
def XS(a:Addr)(x:Zv)(m:Mode)(es:Array Event):(Go.store a x m).runT p w es=
  (if whole x then(.halt (.stuck "store: not the value of one cell") w,es)else
  match w.cell? a with
  |some _=>if w.frozen? a then(.halt (.unsupported<|.unsafePointer "a write to bytes that a string shares") w,es)else(.ok ()<|w.setCell a x,es.push ⟨.cell a,bL,m== .atomic⟩)
  |none=>match w.farStore p a x (m== .atomic)with
   | .ok (w,touched)=>(.ok () w,es++touched.toArray.map (⟨.cell ·,bL,m== .atomic⟩))
   | .error h=>(.halt h w,es):Result Unit×Array Event):=by
 unfold Go.store;cases x<;>rfl
def pZ{at_:Addr}{u:Zt}{k:Addr}{b:Bool}{c:Za}{e:Zt}{fr:Nat×Nat}{first:Nat}{d:Zv}{a:List<|Nat×Nat×Zl}
  (h:w.seen p at_ u k b= .ok (c,e,fr,first,d,a)):w.heap[at_.block]?=bO (.cells c e fr):=by
 unfold World.seen at h;simp only[bind,Except.bind,pure,Except.pure]at h
 repeat' split at h
 all_goals cases h
 all_goals assumption
def YO(p:Zp)(w v:Zy)(at_:Addr)(u:Zt)(k:Addr)(x:Zv)(b:Bool)(n:v.heap[at_.block]?=w.heap[at_.block]?):
  (∃e,w.viewStore p at_ u k x b= .error e/\v.viewStore p at_ u k x b= .error e)\/
  (∃o l,w.viewStore p at_ u k x b= .ok ({w with heap:=w.heap.setIfInBounds at_.block o},l)/\v.viewStore p at_ u k x b= .ok ({v with heap:=v.heap.setIfInBounds at_.block o},l)/\(∀y∈l,y.block=at_.block)/\at_.block<w.heap.size/\∃c e f,o= .cells c e f):=by
 unfold World.viewStore;rw[Sk n];cases htt:tight p p.depth u with
 |false=>exact .inl ⟨_,rfl,rfl⟩
 |true=>
  cases hs:w.seen p at_ u k b with
  |error e=>exact .inl ⟨e,rfl,rfl⟩
  |ok s=>
   obtain⟨c,e,j,first,g,cells⟩:=s;have d:=pZ hs;cases hx:x.bytes? with
   |none=>exact .inl ⟨_,rfl,rfl⟩
   |some bytes=>
    by_cases h:bO bytes.length=g.bytes?.map (·.length);simp only[Bool.not_true,xu,if_false,bind,Except.bind,pure,Except.pure,ne_eq,h,not_true_eq_false];generalize hfd:List.foldlM (m:=Except String) _ c cells=R;cases R with
    |error e=>exact .inl ⟨e,rfl,rfl⟩
    |ok c'=>
     refine .inr ⟨.cells c' e j,_,rfl,rfl,fun y i=>?_,(za.1 d).1,_,_,_,rfl⟩;simp only[qp]at i;obtain⟨z,_,rfl⟩:=i;rfl
    refine .inl ⟨ "memory seen as another type: a value of another size",?_,?_⟩<;>
    ·simp only[Bool.not_true,xu,if_false,bind,Except.bind,ne_eq,h,not_false_eq_true,if_true]
     rfl
def vT.viewStore(K:vT P P')(w:Zy)(at_:Addr)(u:Zt)(k:Addr)(x:Zv)(b:Bool):w.viewStore P' at_ u k x b=w.viewStore P at_ u k x b:=by
 unfold World.viewStore;rw[K.seen,K.tight]
def DB(K:vT P P'){w v:Zy}(g:Sm P X w v)(a:Addr)(x:Zv)(b:Bool){w':Zy}{l:List Addr}(h:w.farStore P' a x b= .ok (w',l)):
  ∃r o,¬X r/\(∃c e f,o= .cells c e f)/\w'={w with heap:=w.heap.setIfInBounds r o}/\v.farStore P a x b= .ok ({v with heap:=v.heap.setIfInBounds r o},l)/\∀y∈l,y.block=r/\r<v.heap.size:=by
 unfold World.farStore at h⊢;by_cases m:X a.block;have s:=(g.iH m).2.2;exfalso;revert h;cases ho:w.heap[a.block]?with
 |none=>intro h;cases h
 |some o=>
  cases o with
  |view at_ u=>exact absurd ho<|s _ _
  |_=>intro h;cases h
 rw[g.out _ m];cases ho:w.heap[a.block]?with
 |none=>rw[ho]at h;cases h
 |some o=>
  rw[ho]at h;cases o with
  |view at_ u=>
   simp only at h⊢;by_cases j:X at_.block;obtain⟨z,t⟩:=g.nA _ j u a b;exfalso;have:∃y,w.viewStore P' at_ u a x b= .error y:=by
    unfold World.viewStore;rw[t];cases tight P' P'.depth u<;>exact⟨_,rfl⟩
   obtain⟨y,d⟩:=this;rw[d]at h;cases h;rcases YO P' w v at_ u a x b (g.out _ j)with⟨e,i,k⟩|⟨o,B,i,k,n,p,q⟩
   rw[i]at h;cases h;rw[i]at h;cases h;refine⟨at_.block,o,j,q,rfl,?_,fun y d=>⟨n y d,by rw[g.size];exact p⟩⟩;rw[<-K.viewStore,k]
  |_=>cases h
def Le{a:Addr}{x:Zv}{b:Bool}{h:Halt}(c:w.farStore p a x b= .error h):¬jK (Result.halt h w:Result Unit):=by
 unfold World.farStore World.noCell at c;cases ho:w.heap[a.block]?with
 |none=>rw[ho]at c;cases c;exact id
 |some o=>
  rw[ho]at c;cases o with
  |view at_ u=>
   simp only at c;cases hl:w.viewStore p at_ u a x b with
   |ok z=>rw[hl]at c;cases c
   |error z=>rw[hl]at c;cases c;exact id
  |_=>cases c;exact id
def D0(K:vT P P')(a:Addr)(x:Zv)(m:Mode):Bl P P' X<|Go.store a x m:=by
 refine⟨fun w v T g f=>?_,fun w g f=>?_,fun w g=>?_⟩;rotate_left 2;rw[KO];have G:=(g.oks a.block).pend;split;trivial;cases hc:w.cell? a with
 |some y=>dsimp only;split<;>trivial
 |none=>
  cases b:w.farStore P' a x (m== .atomic)with
  |ok z=>trivial
  |error h=>
   unfold World.farStore World.noCell at b;cases ho:w.heap[a.block]?with
   |none=>rw[ho]at b;cases b;trivial
   |some o=>
    rw[ho]at b G;cases o with
    |view at_ u=>
     simp only at b;cases hl:w.viewStore P' at_ u a x (m== .atomic)with
     |ok z=>rw[hl]at b;cases b
     |error z=>rw[hl]at b;cases b;trivial
    |pending c e=>exact absurd rfl<|G c e
    |_=>cases b;trivial
 rw[KO]at f⊢;rw[XS];by_cases j:whole x=bL;rw[aA j]at f;exact f.elim;rw[aB j]at f⊢;rw[aB j];by_cases q:X a.block;exfalso;obtain⟨Q,C,D⟩:=g.iH q;have b:w.farStore P' a x (m== .atomic)= .error (.stuck "store: no such cell"):=by
  unfold World.farStore;rw[C];split;exact absurd ‹_› (D _ _);rfl
 rw[Q,b]at f;exact f;rw[g.cell q];cases hc:w.cell? a with
 |some y=>
  rw[hc]at f;rw[g.frozen a];cases hz:w.frozen? a with
  |true=>rw[hz]at f;exact f.elim
  |false=>
   refine⟨v.setCell a x,#[⟨.cell a,bL,m== .atomic⟩],⟨by simp[Ww],g.set q x,fun r p=>Kf q x r p,fun e n=>?_,by simp[aF]⟩⟩;simp at n;subst n;exact⟨q,by simp[aF,g.size];exact Wb hc⟩
 |none=>
  rw[hc]at f;cases b:w.farStore P' a x (m== .atomic)with
  |error h=>
   rw[b]at f;exact absurd f<|Le b
  |ok z=>
   obtain⟨H,l⟩:=z;obtain⟨r,o,p,⟨I,J,L,rfl⟩,rfl,C,D⟩:=DB K g a x (m== .atomic) b;simp only[C];refine⟨{v with heap:=v.heap.setIfInBounds r<|.cells I J L},l.toArray.map (⟨.cell ·,bL,m== .atomic⟩),⟨by simp[Ww],g.setObj p _ .cells,fun s R=>Mq p _ s R,fun e n=>?_,by simp⟩⟩;simp at n;obtain⟨y,S,rfl⟩:=n;obtain⟨i,B⟩:=D y S;exact⟨by rw[i];exact p,by rw[i];simpa using B⟩
 unfold nQ;rw[KO]at f⊢;by_cases j:whole x=bL;rw[aA j]at f;exact f.elim;rw[aB j]at f⊢;have k:∀t d,(re w t d).cell? a=w.cell? a:=fun _ _=>rfl;have E:∀t d,(re w t d).frozen? a=w.frozen? a:=fun _ _=>rfl;cases hc:w.cell? a with
 |some y=>
  rw[hc]at f;cases hz:w.frozen? a with
  |true=>rw[hz]at f;exact f.elim
  |false=>
   refine⟨ze _,rfl,fun t d _=>?_⟩;rw[KO,aB j,k,hc];simp only[E,hz];simp[rW,Ww,re,aF]
 |none=>
  rw[hc]at f;cases b:w.farStore P' a x (m== .atomic)with
  |error h=>rw[b]at f;exact absurd f<|Le b
  |ok z=>
   obtain⟨H,l⟩:=z;have F:∃r o,H={w with heap:=w.heap.setIfInBounds r o}/\∀t d,(re w t d).farStore P' a x (m== .atomic)= .ok ({re w t d with heap:=w.heap.setIfInBounds r o},l):=by
    unfold World.farStore World.noCell at b⊢;cases ho:w.heap[a.block]?with
    |none=>rw[ho]at b;cases b
    |some o=>
     rw[ho]at b;cases o with
     |view at_ u=>
      simp only at b;rcases YO P' w w at_ u a x (m== .atomic) rfl with⟨e,i,B⟩|⟨o,l',i,B,e3,e4,_⟩
      rw[i]at b;cases b;rw[i]at b;cases b;refine⟨at_.block,o,rfl,fun t d=>?_⟩;rw[show(re w t d).heap=w.heap from rfl,ho];simp only;rcases YO P' w (re w t d) at_ u a x (m== .atomic) rfl with⟨e,f1,f2⟩|⟨o',l'',f1,f2,f3,f4,_⟩
      rw[i]at f1;cases f1;rw[f2];rw[i]at f1;have M:=(Prod.mk.inj<|Except.ok.inj f1).1;have N:=(Prod.mk.inj<|Except.ok.inj f1).2;have O:w.heap.setIfInBounds at_.block o=w.heap.setIfInBounds at_.block o':=congrArg World.heap M;rw[N,O];rfl
     |_=>cases b
   obtain⟨r,o,rfl,hk⟩:=F;refine⟨ze _,rfl,fun t d _=>?_⟩;rw[KO,aB j,k,hc];simp only[hk];simp[rW,Ww,re]
def Jv(r:Nat)(p:Zp)(w:Zy):(getObj r).run p w=match w.heap[r]?with
   |some (.cells ..)=> .halt (.stuck "getObj: a row of cells") w
   |some o=> .ok o w
   |none=> .halt (.stuck "getObj: no such block") w:=by
 unfold getObj;simp only[Sem.run];cases w.heap[r]?with
 |none=>rfl
 |some o=>cases o<;>rfl
def zw4(r:Nat)(p:Zp)(w:Zy)(es:Array Event):(getObj r).runT p w es=match w.heap[r]?with
   |some (.cells ..)=>(.halt (.stuck "getObj: a row of cells") w,es)
   |some o=>(.ok o w,es.push ⟨.obj r,bK,o.isChan⟩)
   |none=>(.halt (.stuck "getObj: no such block") w,es):=by
 unfold getObj;simp only[Sem.runT];cases w.heap[r]?with
 |none=>rfl
 |some o=>cases o<;>rfl
def Mu{r:Nat}{k:Obj->Sem β}(hk:∀o,¬X r->dL P (bO o)->Bl P P' X (k o))(hd:∀o,o.isChan=bL->∀w,¬jK ((k o).run P' w)/\nR ((k o).run P' w)):Bl P P' X<|getObj r>>=k:=by
 have q:∀w,(getObj r>>=k).run P' w=((getObj r).run P' w).andThen fun o L=>(k o).run P' L:=fun w=>qh P' _ _ w;have j:∀w,Sm P X w w->jK ((getObj r>>=k).run P' w)->∃o,¬X r/\dL P (bO o)/\∀t d,(getObj r>>=k).run P' (re w t d)=(k o).run P' (re w t d):=fun w g a=>by
  rw[q,Jv]at a;cases hw:w.heap[r]?with
  |none=>rw[hw]at a;exact a.elim
  |some o=>
   rw[hw]at a;have b:¬X r:=fun b=>by
    obtain⟨p,K,i,C,⟨n,D⟩|⟨c,e,rfl,rfl⟩⟩:=g.dead _ b;rw[hw]at i;cases i;cases o<;>cases n
    exact(hd _ rfl _).1 a;rw[hw]at i;cases i;exact a
   refine⟨o,b,by rw[<-hw];exact g.oks r,fun t d=>?_⟩;rw[q,Jv,show(re w t d).heap[r]?=w.heap[r]?from rfl,hw];cases o with
   |cells c e f=>exact a.elim
   |_=>rfl
 refine⟨fun w v m g a=>?_,fun w g a=>?_,fun w g=>?_⟩;rotate_left 2;rw[q,Jv];cases hw:w.heap[r]?with
 |none=>trivial
 |some o=>
  by_cases y:o.isChan=bL;have:=(hd o y w).2;cases o<;>cases y
  exact this;have b:(∃c e f,o= .cells c e f)\/¬X r:=by
   by_cases b:X r;obtain⟨p,K,i,C,⟨n,D⟩|⟨c,e,rfl,rfl⟩⟩:=g.dead _ b;rw[hw]at i;cases i;exact absurd n y;rw[hw]at i;cases i;exact .inl ⟨_,_,_,rfl⟩;exact .inr b
  rcases b with⟨c,e,f,rfl⟩|b;trivial;have:=(hk o b<|by rw[<-hw];exact g.oks r).dZ w g;cases o with
  |cells=>trivial
  |_=>exact this
 rw[q,Jv]at a⊢;rw[show(getObj r>>=k).runT P v m=_ from Jb P _ _ v m,zw4];by_cases b:X r;exfalso;obtain⟨o,M,i,C,⟨n,D⟩|⟨c,e,rfl,rfl⟩⟩:=g.dead _ b;rw[i]at a;cases o<;>cases n
 exact(hd _ rfl _).1 a;rw[i]at a;exact a;rw[g.out r b];cases hw:w.heap[r]?with
 |none=>rw[hw]at a;exact a.elim
 |some o=>
  rw[hw]at a;have z:r<v.heap.size:=by rw[g.size];exact(za.1 hw).1
  have j:jK ((k o).run P' w)->∃B l,CR P X v m ((k o).run P' w) ((k o).runT P v<|m.push ⟨.obj r,bK,o.isChan⟩) B l:=fun s=>by
   obtain⟨B,l,h⟩:=(hk o b<|by rw[<-hw];exact g.oks r).gJ w v (m.push ⟨.obj r,bK,o.isChan⟩) g s;refine⟨B,#[⟨.obj r,bK,o.isChan⟩]++l,⟨by rw[h.eq];simp,h.sm,h.kept,fun e G=>?_,h.grows⟩⟩;rcases IE.1 G with x|x
   simp at x;subst x;exact⟨fun h=>absurd h b,zn z h.grows⟩;exact h.evs e x
  cases o with
  |cells _ _ _=>exact a.elim
  |_=>exact j a
 obtain⟨o,b,H,h⟩:=j w g a;have E:(getObj r>>=k).run P' w=(k o).run P' w:=h w.tape w.drawn;rw[E]at a⊢;obtain⟨l1,I,J⟩:=(hk o b H).loc w g a;exact⟨l1,I,fun t d F=>by rw[h];exact J t d F⟩
def IS(r:Nat)(o:Obj)(hx:¬X r)(ho:dL P<|bO o):Bl P P' X<|setObj r o:=by
 have run:∀p w,(setObj r o).run p w=match w.heap[r]?with
   |some (.cells ..)=> .halt (.stuck "setObj: a row of cells") w
   |some _=> .ok () {w with heap:=w.heap.setIfInBounds r o}
   |none=> .halt (.stuck "setObj: no such block") w:=fun p w=>by
  unfold setObj;simp only[Sem.run];cases w.heap[r]?with
  |none=>rfl
  |some o=>cases o<;>rfl
 have runT:∀p w b,(setObj r o).runT p w b=match w.heap[r]?with
   |some (.cells ..)=>(.halt (.stuck "setObj: a row of cells") w,b)
   |some _=>(.ok () {w with heap:=w.heap.setIfInBounds r o},b.push ⟨.obj r,bL,o.isChan⟩)
   |none=>(.halt (.stuck "setObj: no such block") w,b):=fun p w b=>by
  unfold setObj;simp only[Sem.runT];cases w.heap[r]?with
  |none=>rfl
  |some o=>cases o<;>rfl
 refine⟨fun w v b c i=>?_,fun w c i=>?_,fun w _=>by
  rw[run];cases w.heap[r]?with
  |none=>trivial
  |some q=>cases q<;>trivial⟩
 rw[run]at i⊢;rw[runT];rw[c.out r hx];cases hw:w.heap[r]?with
 |none=>exact⟨v,#[],⟨by simp[Ww],c,fun _ _=>rfl,by simp,ze _⟩⟩
 |some q=>
  have g:r<v.heap.size:=by rw[c.size];exact(za.1 hw).1
  have f:∃v' new,CR P X v b (.ok () {w with heap:=w.heap.setIfInBounds r o}) (.ok () {v with heap:=v.heap.setIfInBounds r o},b.push ⟨.obj r,bL,o.isChan⟩) v' new:=by
   refine⟨{v with heap:=v.heap.setIfInBounds r o},#[⟨.obj r,bL,o.isChan⟩],⟨by simp[Ww],c.setObj hx o ho,fun s k=>Mq hx o s k,fun e j=>?_,by simp⟩⟩;simp at j;subst j;exact⟨fun h=>absurd h hx,by show r<(v.heap.setIfInBounds r o).size;simpa using g⟩
  cases q with
  |cells _ _ _=>exact⟨v,#[],⟨by simp[Ww],c,fun _ _=>rfl,by simp,ze _⟩⟩
  |_=>exact f
 unfold nQ;simp only[run,show∀t d,(re w t d).heap[r]?=w.heap[r]?from fun _ _=>rfl];cases w.heap[r]?with
 |none=>exact⟨ze _,rfl,fun t d _=>by simp[rW,Ww]⟩
 |some o=>cases o<;>exact⟨ze _,rfl,fun t d _=>by simp[rW,Ww,re]⟩
end
end
end
section
variable {σ:Type}
def wf(P:Zp)(F:Zc):Zp:={P with funcs:=F}
section
variable {α β:Type} {P:aV} {F:Array Func} {X:Nat->Prop}
def BG(P:Zp)(F:Zc)(t:Zt):(wf P F).info? t=P.info? t:=rfl
def Jz(P:Zp)(F:Zc)(t:Zt):(wf P F).underlying t=P.underlying t:=rfl
def Y8(P:Zp)(F:Zc):(wf P F).depth=P.depth:=rfl
def Y7(P:Zp)(F:Zc)(t:Zt):(wf P F).cellsOf t=P.cellsOf t:=rfl
def Wi(P:Zp)(F:Zc)(t:Zt):(wf P F).bytesOf t=P.bytesOf t:=rfl
def Hx(P:Zp)(F:Zc):∀d t o,plainCell (wf P F) d t o=plainCell P d t o:=by
 intro d;induction d with
 |zero=>intros;rfl
 |succ d ih=>intro t o;simp only[plainCell,ih,Jz,Y7]<;>rfl
def AA(P:Zp)(F:Zc):∀d t o,byteOfCell (wf P F) d t o=byteOfCell P d t o:=by
 intro d;induction d with
 |zero=>intros;rfl
 |succ d ih=>intro t o;simp only[byteOfCell,ih,Jz,Y7,Wi]<;>rfl
def AI(P:Zp)(F:Zc):∀d t o,cellHolding (wf P F) d t o=cellHolding P d t o:=by
 intro d;induction d with
 |zero=>intros;rfl
 |succ d ih=>intro t o;simp only[cellHolding,ih,Jz,Y7,Wi]<;>rfl
def Id(P:Zp)(F:Zc):∀d t,tight (wf P F) d t=tight P d t:=by
 intro d;induction d with
 |zero=>intros;rfl
 |succ d ih=>intro t;simp only[tight,ih,Jz,Wi]<;>rfl
def zve(P:Zp)(F:Zc)(c:Za)(e:Zt):∀f x s,seenCells (wf P F) c e f x s=seenCells P c e f x s:=by
 intro f;induction f with
 |zero=>intros;rfl
 |succ f ih=>intro x s;simp only[seenCells,ih,Y7,Wi,AI,Y8]<;>rfl
def xoz(P:Zp)(F:Zc)(w:Zy)(a:Addr)(u:Zt)(k:Addr)(b:Bool):w.seen (wf P F) a u k b=w.seen P a u k b:=by
 simp only[World.seen,Y8,Hx,AA,Y7,Wi,zve]<;>rfl
def Et(P:Zp)(F:Zc):vT P<|wf P F:=⟨fun w a u k b=>xoz P F w a u k b,fun u=>Id P F _ u⟩
def VP(P:Zp)(F:Zc)(t:Zt):(wf P F).underlyingId t=P.underlyingId t:=rfl
def VO(P:Zp)(F:Zc):(wf P F).cutTypes=P.cutTypes:=rfl
def cE(P:Zp)(F:Zc):∀d t u,(wf P F).alikeButTags d t u=P.alikeButTags d t u:=by
 intro d;induction d with
 |zero=>intros;rfl
 |succ d ih=>intro t u;simp only[Program.alikeButTags,ih,BG]
def i7(P:Zp)(F:Zc)(c:String×Zt):(wf P F).ownRow c=P.ownRow c:=by
 unfold Program.ownRow;simp only[BG,Jz,VO]
def Gc(P:Zp)(F:Zc)(t:Zt):(wf P F).packed t=P.packed t:=by
 unfold Program.packed Program.packedAs;simp only[BG,Jz,VO,i7,cE,VP,Y8]
def wW(P:Zp)(F:Zc)(t:Zt):(wf P F).stoodInHeld t=P.stoodInHeld t:=by
 unfold Program.stoodInHeld Program.stoodInAs;simp only[BG,Jz,VO,cE,VP,Y8]
def AB(P:Zp)(F:Zc):∀d t,(wf P F).holdsPacked d t=P.holdsPacked d t:=by
 intro d;induction d with
 |zero=>intros;rfl
 |succ d ih=>intro t;simp only[Program.holdsPacked,ih,Jz,Gc]
def DX(P:Zp)(F:Zc):∀d t,(wf P F).eqGuardType d t=P.eqGuardType d t:=by
 intro d;induction d with
 |zero=>intros;rfl
 |succ d ih=>intro t;simp only[Program.eqGuardType,ih,Jz]<;>rfl
variable [pn:A.Pn]
abbrev B(P:Zp)(F:Zc)(X:ZP)(s:Sem α):Prop:=Bl P (wf P F) X s
def xp{s:Sem α}{k:α->Sem β}(b:B P F X s)(hk:∀a,B P F X<|k a):B P F X<|s>>=k:=wT b hk
def xr(a:α):B P F X (Pure.pure a:Sem α):=Vv a
def Fj{s:Sem α}(f:α->β)(b:B P F X s):B P F X<|Functor.map f s:=wT (k:=fun a=>Pure.pure<|f a) b fun a=>Vv _
def Yo{c:Prop}[Decidable c]{s t:Sem α}(a:B P F X s)(b:B P F X t):B P F X (if c then s else t):=by
 split;exact a;exact b
def ja(a:String):B P F X (stuck a:Sem α):=vE _ trivial
def Jk(u:Unsupported)(h:NI<|.unsupported u):B P F X (unsupported u:Sem α):=vE _ h
def Ar(v:Zv):B P F X (goPanic v:Sem α):=vE _ trivial
def R6(a:Addr)(m:Mode):B P F X<|Go.load a m:=My (Et P F) a m
def Up(a:Addr)(v:Zv)(m:Mode):B P F X<|Go.store a v m:=D0 (Et P F) a v m
def xH(o:Obj)(ho:dL P<|bO o):B P F X<|newObj o:=xqi o ho
def yP{r:Nat}{k:Obj->Sem β}(hk:∀o,¬X r->dL P (bO o)->B P F X (k o))(hd:∀o,o.isChan=bL->∀w,¬jK ((k o).run (wf P F) w)/\nR ((k o).run (wf P F) w)):B P F X<|getObj r>>=k:=Mu hk hd
def BZ(r:Nat)(o:Obj)(hx:¬X r)(ho:dL P<|bO o):B P F X<|setObj r o:=IS r o hx ho
def Yy(q:Question):B P F X<|choose q:=IN q
def UV(a:Addr):B P F X<|Go.frozen a:=xeu a
def R7(n:Nat):B P F X<|askRoom n:=by
 unfold askRoom;split;exact Aw _<|.inl rfl;exact Vv _
def vH(t:Zt):B P F X<|typeInfo t:=by
 unfold typeInfo;refine Xc rfl ?_;split;exact Vv _;exact vE _ trivial
def Ya(t:Zt):B P F X<|underlying t:=by
 unfold underlying;refine Xc rfl ?_;split;exact Vv _;exact vE _ trivial
theorem IX:LawfulMonad Sem:=LawfulMonad.mk' _ (fun x=>by
  show x.bind (fun a=>Sem.pure<|id a)=x;induction x<;>simp_all [Sem.bind]
  all_goals (funext b;cases b<;>simp_all))
 (fun _ _=>rfl)
 (fun x f g=>by
  show(x.bind f).bind g=x.bind fun a=>(f a).bind g;induction x<;>simp_all [Sem.bind]
  all_goals (funext b;cases b<;>simp_all))
def Dw(l:List α)(f:α->σ->Sem (ForInStep σ))(b:∀a s,B P F X<|f a s):∀init,B P F X<|forIn l init f:=by
 induction l with
 |nil=>intro init;exact Vv _
 |cons a l ih=>
  intro init;rw[List.forIn_cons];refine wT (b a init) fun x=>?_;cases x with
  |done s=>exact Vv _
  |yield s=>exact ih s
def KT(l:Array α)(f:α->σ->Sem (ForInStep σ))(c:∀a s,B P F X<|f a s)(b:σ):B P F X<|forIn l b f:=by
 rw[<-Array.forIn_toList];exact Dw _ f c b
def H7(l:Std.Legacy.Range)(f:Nat->σ->Sem (ForInStep σ))(c:∀a s,B P F X<|f a s)(b:σ):B P F X<|forIn l b f:=by
 haveI:=IX
 rw[Std.Legacy.Range.forIn_eq_forIn_range'];exact Dw _ f c b
def H6(f:σ->α->Sem σ)(b:∀a s,B P F X<|f a s):∀(l:List α) (init:σ),B P F X (l.foldlM f init)
 |[],init=>Vv _
 |a::l,init=>by
  rw[List.foldlM_cons];exact wT (b _ _) fun s=>H6 f b l s
def Aq(f:α->Sem β)(c:∀a,B P F X<|f a):∀l:List α,B P F X (l.mapM f)
 |[]=>by rw[List.mapM_nil];exact Vv _
 |a::l=>by
  rw[List.mapM_cons];exact wT (c a) fun b=>wT (Aq f c l) fun d=>Vv _
def Tk(f:α->Sem β)(b:∀a,B P F X<|f a)(l:Array α):B P F X<|l.mapM f:=by
 haveI:=IX
 rw[Array.mapM_eq_mapM_toList];exact Fj _<|Aq f b _
end
end
section
variable [pn:Pn]
section
variable {α β:Type} {P:aV} {F:Array Func} {X:Nat->Prop}
def Dx{γ:Type}(r:Nat){s:Sem<|Option γ}(f:Obj->Option γ)(y:∀o,(∀a t,o≠ .view a t)->(∀a t,o≠ .number a t)->f o=bN)
  (n:∀p w,s.run p w=match w.heap[r]?with
   |some o=> .ok (f o) w
   |none=> .halt (.stuck "getObj: no such block") w)
  (k:∀p w es,s.runT p w es=match w.heap[r]?with
   |some (.cells c e g)=>(.ok (f<|.cells c e g) w,es)
   |some o=>(.ok (f o) w,es.push ⟨.obj r,bK,o.isChan⟩)
   |none=>(.halt (.stuck "getObj: no such block") w,es)):B P F X s:=by
 refine yI (fun w=>match w.heap[r]?with
   |some o=> .ok (f o) w
   |none=> .halt (.stuck "getObj: no such block") w) (fun w=>?_) (fun w t d=>?_) (fun w=>?_) (n _) fun w v es m x=>?_
 cases w.heap[r]?<;>rfl
 rw[show(re w t d).heap[r]?=w.heap[r]?from rfl];cases w.heap[r]?<;>rfl
 cases w.heap[r]?<;>trivial
 rw[k];by_cases z:X r;obtain⟨o,E,q,l,⟨C,D⟩|⟨c,e,rfl,rfl⟩⟩:=m.dead _ z;have i:r<v.heap.size:=(za.1 l).1;rw[q,l];cases o<;>cases C
 cases E<;>cases D<;>exact⟨#[⟨.obj r,bK,_⟩],by simp[Ww,Obj.isChan,y];rfl,fun e j=>by simp at j;subst j;exact⟨fun _=>rfl,i⟩⟩
 rw[q,l];exact⟨#[],by simp[Ww,y],by simp⟩;rw[m.out r z];cases hw:w.heap[r]?with
 |none=>rw[hw]at x;exact x.elim
 |some o=>
  have i:r<v.heap.size:=by rw[m.size];exact(za.1 hw).1
  have h:∀b,∀e∈#[(⟨.obj r,bK,b⟩:Event)],qI X v.heap.size e:=fun b e j=>by simp at j;subst j;exact⟨fun _=>rfl,i⟩
  cases o with
  |cells c e g=>exact⟨#[],by simp[Ww],by simp⟩
  |chan a b c d e g=>exact⟨#[⟨.obj r,bK,bL⟩],by simp[Ww,Obj.isChan],h _⟩
  |_=>exact⟨#[⟨.obj r,bK,bK⟩],by simp[Ww,Obj.isChan],h _⟩
def A8(r:Nat):B P F X<|viewAt r:=by
 refine Dx r (fun| .view a t=>bO (a,t)|_=>bN) (fun o b d=>by cases o<;>first|rfl|exact absurd rfl<|b _ _) (fun p w=>?_) (fun p w c=>?_)<;>cases h:w.heap[r]?with
 |none=>simp[viewAt,shape,getObj,bind,Sem.bind,Sem.run,Sem.runT,World.shape?,h,-Sem.runT_eq]
 |some o=>cases o<;>simp[viewAt,shape,getObj,bind,Sem.bind,Sem.run,Sem.runT,World.shape?,h,pure,Obj.isChan,-Sem.runT_eq]
def Oe(r:Nat):B P F X<|numberAt r:=by
 refine Dx r (fun| .number a t=>bO (a,t)|_=>bN) (fun o d b=>by cases o<;>first|rfl|exact absurd rfl<|b _ _) (fun p w=>?_) (fun p w c=>?_)<;>cases h:w.heap[r]?with
 |none=>simp[numberAt,shape,getObj,bind,Sem.bind,Sem.run,Sem.runT,World.shape?,h,-Sem.runT_eq]
 |some o=>cases o<;>simp[numberAt,shape,getObj,bind,Sem.bind,Sem.run,Sem.runT,World.shape?,h,pure,Obj.isChan,-Sem.runT_eq]
def bY(w:Zy)(a:Addr):Bool:=w.frozen? a||(match w.shape? a.block with
 |some (_,n)=>w.frozen? {block:=a.block,off:=n}
 |none=>bK)
def Sm.bY{w v:Zy}(h:Sm P X w v)(a:Addr):bY v a=bY w a:=by
 unfold A.bY;rw[h.frozen a];by_cases f:X a.block;obtain⟨o,j,b,d,⟨g,i⟩|⟨c,e,rfl,rfl⟩⟩:=h.dead _ f;cases o<;>cases g
 cases j<;>cases i<;>simp[World.shape?,World.frozen?,b,d]
 simp[World.shape?,World.frozen?,b,d];simp only[World.shape?,World.frozen?,h.out _ f]
def YV{w v:Zy}(h:Sm P X w v)(a:Addr)(hx:X a.block):bY w a=bK:=by
 obtain⟨o,i,b,f,⟨d,g⟩|⟨c,e,rfl,rfl⟩⟩:=h.dead _ hx;cases o<;>cases d
 simp[bY,World.shape?,World.frozen?,b];simp[bY,World.shape?,World.frozen?,b]
def zrn(a:Addr)(p:Zp)(w:Zy):(stringish a).run p w= .ok (bY w a) w:=by
 cases h1:w.frozen? a with
 |true=>simp[stringish,Go.frozen,bind,Sem.bind,Sem.run,bY,h1,pure]
 |false=>
  cases h2:w.shape? a.block with
  |none=>simp[stringish,Go.frozen,shape,bind,Sem.bind,Sem.run,bY,h1,h2,pure]
  |some x=>obtain⟨e,n⟩:=x;simp[stringish,Go.frozen,shape,bind,Sem.bind,Sem.run,bY,h1,h2]
def zqm(a:Addr)(p:Zp)(w:Zy)(es:Array Event):(stringish a).runT p w es=(.ok (bY w a) w,es):=by
 cases h1:w.frozen? a with
 |true=>simp[stringish,Go.frozen,bind,Sem.bind,Sem.runT,bY,h1,pure,-Sem.runT_eq]
 |false=>
  cases h2:w.shape? a.block with
  |none=>simp[stringish,Go.frozen,shape,bind,Sem.bind,Sem.runT,bY,h1,h2,pure,-Sem.runT_eq]
  |some x=>obtain⟨e,n⟩:=x;simp[stringish,Go.frozen,shape,bind,Sem.bind,Sem.runT,bY,h1,h2,-Sem.runT_eq]
def zzk(a b:Addr):B P F X<|mayBeOne a b:=by
 have i:∀p w,(mayBeOne a b).run p w= .ok ((bY w a&&bY w b)||(bY w a&&(w.shape? a.block matches bO (_,0)))||(bY w b&&(w.shape? b.block matches bO (_,0)))) w:=fun p w=>by
  simp only[mayBeOne,bind,qh,zrn,shape,Sem.run,pure];rfl
 have f:∀p w g,(mayBeOne a b).runT p w g=(.ok ((bY w a&&bY w b)||(bY w a&&(w.shape? a.block matches bO (_,0)))||(bY w b&&(w.shape? b.block matches bO (_,0)))) w,g):=fun p w g=>by
  simp only[mayBeOne,bind,Jb,zqm,shape,Sem.runT,pure];rfl
 refine yI _ (fun w=>rfl) (fun w t d=>rfl) (fun w=>?_) (i _) fun w v g c j=>⟨#[],?_,by simp⟩;trivial;rw[f,c.bY a,c.bY b];simp only[Ww,Array.append_empty,qg,Result.ok.injEq,and_true];by_cases h:X a.block;rw[YV c a h];by_cases e:X b.block;rw[YV c b e];rfl;simp only[World.shape?,c.out _ e,W7];by_cases e:X b.block;rw[YV c b e];simp only[World.shape?,c.out _ h,W7,Bool.and_false];simp only[World.shape?,c.out _ h,c.out _ e]
def Ub{r:Nat}{k:Option (Zt×Nat)->Sem β}(hk:∀s,B P F X<|k s)(p:∀e n m,k (bO (e,n))=k (bO (e,m))):B P F X<|shape r>>=k:=by
 have b:∀w v:Zy,Sm P X w v->k (v.shape? r)=k (w.shape? r):=fun w v a=>by
  by_cases h:X r;obtain⟨o,q,f,g,⟨j,l⟩|⟨c,e,rfl,rfl⟩⟩:=a.dead _ h;cases o<;>cases j
  cases q<;>cases l<;>simp[World.shape?,f,g]
  simp only[World.shape?,f,g];exact p _ _ _;simp only[World.shape?,a.out _ h]
 refine⟨fun w v i a d=>?_,fun w a d=>?_,fun w a=>(hk<|w.shape? r).dZ w a⟩;have:=(hk<|w.shape? r).gJ w v i a d;rw[<-b w v a]at this;have e:(shape r>>=k).run (wf P F) w=(k<|v.shape? r).run (wf P F) w:=by rw[b w v a];rfl
 rw[e];exact this;exact(hk<|w.shape? r).loc w a d
def SF{s:Sem α}(h:∀w,¬jK (s.run (wf P F) w)/\nR (s.run (wf P F) w)):B P F X s:=⟨fun w v b _ a=>absurd a (h w).1,fun w _ a=>absurd a (h w).1,fun w _=>(h w).2⟩
def xhi{k:α->Sem β}(a:String):B P F X<|(stuck a:Sem α)>>=k:=SF fun w=>⟨id,trivial⟩
def Ku(t:Zt)(p:Zp)(w:Zy):(underlying t).run p w=match p.underlying t with
  |some d=> .ok d w
  |none=> .halt (.stuck "no such type") w:=by
 show(match p.underlying t with
  |some d=>(pure d:Sem TypeDesc)
  |none=>stuck "no such type").run p w=_
 cases p.underlying t<;>rfl
def znk(t:Zt)(p:Zp)(w:Zy)(es:Array Event):(underlying t).runT p w es=match p.underlying t with
  |some d=>(.ok d w,es)
  |none=>(.halt (.stuck "no such type") w,es):=by
 show(match p.underlying t with
  |some d=>(pure d:Sem TypeDesc)
  |none=>stuck "no such type").runT p w es=_
 cases p.underlying t<;>rfl
def JQ{t:Zt}{k:TypeDesc->Sem β}(hk:∀u,P.underlying t=bO u->B P F X (k u)):B P F X<|underlying t>>=k:=by
 cases h:P.underlying t with
 |none=>
  refine SF fun w=>?_;have e:(underlying t>>=k).run (wf P F) w= .halt (.stuck "no such type") w:=by
   rw[show(underlying t>>=k).run (wf P F) w=_ from qh _ _ _ w,Ku,show(wf P F).underlying t=bN from h];rfl
  rw[e];exact⟨id,trivial⟩
 |some u=>
  have d:∀w,(underlying t>>=k).run (wf P F) w=(k u).run (wf P F) w:=fun w=>by
   rw[show(underlying t>>=k).run (wf P F) w=_ from qh _ _ _ w,Ku,show(wf P F).underlying t=bO u from h];rfl
  have f:∀w a,(underlying t>>=k).runT P w a=(k u).runT P w a:=fun w a=>by
   rw[show(underlying t>>=k).runT P w a=_ from Jb _ _ _ w a,znk,h]
  refine⟨fun w v a b c=>?_,fun w b c=>?_,fun w b=>by rw[d];exact(hk u h).dZ w b⟩;rw[d]at c⊢;rw[f];exact(hk u h).gJ w v a b c;rw[d]at c;have:=(hk u h).loc w b c;unfold nQ at this⊢;simp only[d];exact this
end
section
variable {α β:Type} {P:aV} {F:Array Func} {X:Nat->Prop}
attribute [local simp] AB wW DX Y8 Y7 Wi AA
def Oc(a:Addr):∀(n i:Nat) (acc:Za),B P F X (loadCellsFrom a i n acc)
 |0,i,acc=>Vv _
 |n+1,i,acc=>wT (R6 _ _) fun v=>Oc a n (i+1) _
def QA(a:Addr):∀(vs:Ze) (i:Nat),B P F X (storeCells a vs i)
 |[],i=>by unfold storeCells;exact Vv _
 |v::vs,i=>by unfold storeCells;exact wT (Up _ _ _) fun _=>QA a vs<|i+1
def u5(t:Zt)(x:Zv):B P F X<|Instr.range t x:=by
 unfold Instr.range;refine JQ fun d hd=>?_
 haveI:=IX
 simp only[pure_bind]
 repeat' (first|(with_reducible exact xhi _)|((with_reducible refine xH _ ?_);next=>(refine⟨fun c e h=>?_,fun b h=>?_,fun l h=>?_⟩<;>cases h<;>simp))|((with_reducible refine yP (fun _ _ _=>?_) ?_);rotate_left;next=>(intro o a w;cases o<;>first|(cases a;done)|exact⟨id,trivial⟩))|(with_reducible first|refine xp ?_ (fun _=>?_)|exact xr _)|split)
def YX{l:Nat}{k:Loop->Sem β}(hk:∀r,¬X l->dL P (bO<|.loop r)->B P F X (k r)):B P F X<|Instr.getLoop l>>=k:=by
 haveI:=IX
 unfold Instr.getLoop;rw[bind_assoc];refine yP (fun o b a=>?_) fun o a w=>?_;split;rw[pure_bind];exact hk _ b a;exact SF fun w=>⟨id,trivial⟩;cases o<;>first|(cases a;done)|exact⟨id,trivial⟩
def dL.again{r:Loop}(h:dL P<|bO<|.loop r)(s:LoopState):dL P<|bO<|.loop {r with state:=s}:=
 ⟨fun c f e=>(by cases e),fun a e=>(by cases e),fun l e=>(by cases e;exact h.loop r rfl)⟩
def zzi(l:Nat)(j:Option Code)(b:∀c,j=bO c->qn P bK c=bL):B P F X<|Instr.endRound l j:=by
 unfold Instr.endRound;refine YX fun r d a=>xp (BZ _ _ d ⟨fun c f e=>(by cases e),fun g e=>(by cases e),fun l e=>(by cases e;exact⟨(a.loop r rfl).1,(a.loop r rfl).2.1,b,(a.loop r rfl).c⟩)⟩) fun _=>xr _
def dP:(∀(t:Zt),B P F X<|sizeOf t)/\(∀(t:Zt),B P F X<|zeroValue t)/\(∀(e:Zt) (c:Za),B P F X<|newRow e c)/\(∀(v:Zv),B P F X<|Instr.sureAddr v)/\(∀(k:IntKind) (x:Int),B P F X<|Conv.intToInt k x)/\(∀(x:Int),B P F X<|Conv.intToString x)/\(∀(a:Addr) (n:Nat),B P F X<|loadCells a n)/\(∀(v:Zv),B P F X<|asIntOf v)/\(∀(v:Zv),B P F X<|asBool v)/\(∀(e:Zt),B P F X<|elemOf e)/\(∀(op:BinOp) (x y:ByteArray),B P F X<|Op.stringOp op x y)/\(∀(a:Addr),B P F X<|behindNumber a)/\(∀(t:Zt),B P F X<|typeStr t)/\(∀(t:Zt),B P F X<|isAgg t)/\(∀(op:BinOp) (k:IntKind) (x y:Int),B P F X<|Op.intArith op k x y)/\(∀(op:BinOp) (k:IntKind) (x y:Int),B P F X<|Op.intBits op k x y)/\(∀(x:Zv),B P F X<|Builtin.lenOf x)/\(∀(a:Addr),B P F X<|noView a)/\(∀(a b:Zv),B P F X<|Instr.keyThatStays a b)/\(∀(l:Nat),B P F X<|Instr.getLoop l)/\(∀(v:Zv),B P F X<|asAgg v)/\(∀(op:BinOp) (x y:Int),B P F X<|Op.intCmp op x y)/\(∀(x:Zv),B P F X<|Instr.entry x)/\(∀(x:Zv) (i:Nat),B P F X<|Instr.extract x i)/\(∀(f:Fn) (a c:Za),B P F X<|Instr.makeFunc f a c)/\(∀(t:Zt) (x:Zv),B P F X<|Instr.makeInterface t x)/\(∀(it:Zv) (s:Bool) (t:Zt),B P F X<|Instr.next it s t)/\(∀(l:Nat),B P F X<|Instr.takeDeferred l)/\(∀(v:Zv),B P F X<|asString v):=by
 refine⟨?_,?_,?_,?_,?_,?_,?_,?_,?_,?_,?_,?_,?_,?_,?_,?_,?_,?_,?_,?_,?_,?_,?_,?_,?_,?_,?_,?_,?_⟩<;>intros<;>(first|unfold sizeOf|unfold zeroValue|unfold newRow|unfold Instr.sureAddr|unfold Conv.intToInt|unfold Conv.intToString|unfold loadCells|unfold asIntOf|unfold asBool|unfold elemOf|unfold Op.stringOp|unfold behindNumber|unfold typeStr|unfold isAgg|unfold Op.intArith|unfold Op.intBits|unfold Builtin.lenOf|unfold noView|unfold Instr.keyThatStays|unfold Instr.getLoop|unfold asAgg|unfold Op.intCmp|unfold Instr.entry|unfold Instr.extract|unfold Instr.makeFunc|unfold Instr.makeInterface|unfold Instr.next|unfold Instr.takeDeferred|unfold asString)<;>repeat' (first|((with_reducible refine Jk _ ?_);next=>(exact trivial))|((with_reducible refine xH _ ?_);next=>(refine⟨fun c e h=>?_,fun d h=>?_,fun l h=>?_⟩<;>cases h<;>simp))|((with_reducible refine yP (fun _ _ _=>?_) ?_);rotate_left;next=>(intro o g w;cases o<;>first|(cases g;done)|exact⟨id,trivial⟩))|((with_reducible refine BZ _ _ ‹_› ?_);next=>(refine⟨fun c e h=>?_,fun d h=>?_,fun l h=>?_⟩<;>cases h<;>simp))|(with_reducible first|refine xp ?_ (fun _=>?_)|exact xr _|exact vH _|exact ja _|exact Oc _ _ _ _|exact Ya _|refine Yo ?_ ?_|exact Oe _|exact A8 _|exact Yy _)|split)
def QZ(a:Addr):B P F X<|byteOf a:=by
 unfold byteOf;split;exact Vv _;refine Xc ?_ ?_;simp<;>rfl
 refine xp (dP.j.j.2.1 a) fun _=>?_;refine Ub (fun s=>?_) fun e n m=>rfl
 repeat' (first|(with_reducible first|refine Yo ?_ ?_|exact xr _|exact ja _)|split)
def YJ(fn:FuncId)(i:Za)(g:Array Tmp)(a b:Code)(r:Option Nat)(k:qn P bK a=bL)(m:qn P bK b=bL)(f:P.inits.idxOf? fn=bN):B P F X<|Instr.enterLoop fn i g a b r:=by
 unfold Instr.enterLoop;have n:∀d,dL P<|bO<|.loop {state:= .ready,pending:=bN,fn:=fn,tmps:=i,params:=g,assign:=a,body:=b,defers:=d}:=fun d=>⟨fun c e h=>(by cases h),fun j h=>(by cases h),fun l h=>(by cases h;exact⟨k,m,fun c e=>(by cases e),f⟩)⟩
 repeat' (first|(exact xH _<|n _)|((with_reducible refine xH _ ?_);next=>(refine⟨fun c e h=>?_,fun j h=>?_,fun l h=>?_⟩<;>cases h<;>simp))|(with_reducible first|refine xp ?_ (fun _=>?_)|exact dP.j.j.c.1 _|exact xr _)|split)
def iB:(∀(t:Zt) (cs:Za) (off:Nat),B P F X<|part t cs off)/\(∀(v:Zv),B P F X<|asInt v)/\(∀(x:Zv),B P F X<|Conv.bytesToString x)/\(∀(t:Zt) (a:Addr),B P F X<|loadVar t a)/\(∀(e:Zt) (c:Zv),B P F X<|newVar e c)/\(∀(t:Zt) (a:Addr) (v:Zv),B P F X<|storeVar t a v)/\(∀(s n:Nat) (x:Zv),B P F X<|Builtin.firstCells s n x)/\(∀(a b:Addr),B P F X<|sameAddr a b)/\(∀(op:UnOp) (x:Zv),B P F X<|Op.unary op x)/\(∀(a:Addr) (c b:Nat),B P F X<|partAt a c b)/\(∀(t:Zt) (ps:Array<|Nat×Zv),B P F X<|Instr.build t ps)/\(∀(t:Zt) (n:Nat) (ps:Array<|Nat×Zv),B P F X<|Instr.buildSlice t n ps)/\(∀(l:Nat) (a:Za),B P F X<|Instr.yield l a)/\(∀(ts:Array Zt) (t:Zt) (a:Za),B P F X<|Builtin.clear_ ts t a)/\(∀(x y:Zv),B P F X<|Builtin.max2 x y)/\(∀(x y:Zv),B P F X<|Builtin.min2 x y):=by
 refine⟨?_,?_,?_,?_,?_,?_,?_,?_,?_,?_,?_,?_,?_,?_,?_,?_⟩<;>intros<;>(first|unfold part|unfold asInt|unfold Conv.bytesToString|unfold loadVar|unfold newVar|unfold storeVar|unfold Builtin.firstCells|unfold sameAddr|unfold Op.unary|unfold partAt|unfold Instr.build|unfold Instr.buildSlice|unfold Instr.yield|unfold Builtin.clear_|unfold Builtin.max2|unfold Builtin.min2)<;>repeat' (first|((with_reducible refine Jk _ ?_);next=>(exact trivial))|((with_reducible refine BZ _ _ ‹_› ?_);next=>(refine⟨fun c e h=>?_,fun f h=>?_,fun l h=>?_⟩<;>cases h<;>simp))|((with_reducible refine yP (fun _ _ _=>?_) ?_);rotate_left;next=>(intro o d w;cases o<;>first|(cases d;done)|exact⟨id,trivial⟩))|(with_reducible first|refine xp ?_ (fun _=>?_)|refine Yo ?_ ?_|exact dP.j.e.1 _|exact dP.1 _|exact xr _|exact ja _|exact dP.g.1 _|exact dP.f.1 _ _|refine KT _ _ (fun _ _=>?_) _|exact R6 _ _|exact dP.2.2.1 _ _|exact QA _ _ _|exact dP.j.j.2.1 _|exact zzk _ _|exact Yy _|exact UV _|exact dP.j.g.1 _ _ _ _|exact dP.j.f.1 _ _ _ _|exact QZ _|exact dP.2.1 _|exact Ya _|refine Tk _ (fun _=>?_) _|exact dP.j.j.c.1 _|exact dP.j.2.2.1 _ _ _|exact dP.j.1 _)|split|(dsimp only))
def mI(e:RuntimeError):B P F X (runtimePanic e:Sem α):=by
 unfold runtimePanic;refine Xc rfl ?_
 repeat' (first|(with_reducible first|refine xp ?_ (fun _=>?_)|exact dP.j.2.1 _|exact iB.d.1 _ _|exact Ar _)|split)
def zwd:∀(d:Nat) (t:Zt) (x y:Zv),B P F X<|Op.eqGuardIn d t x y:=by
 intro d;induction d with
 |zero=>intro t x y;unfold Op.eqGuardIn;exact vE _ trivial
 |succ d ih=>
  intro t x y;unfold Op.eqGuardIn
  repeat' (first|(with_reducible first|refine xp ?_ (fun _=>?_)|refine Yo ?_ ?_|exact ih _ _ _|exact iB.1 _ _ _|exact dP.1 _|exact xr _|exact Ya _|refine H7 _ _ (fun _ _=>?_) _|refine KT _ _ (fun _ _=>?_) _)|split|(dsimp only))
def xtg(b:Array Zt)(t:Zt)(a:Za):B P F X<|Builtin.max_ b t a:=by
 unfold Builtin.max_;split;exact vE _ trivial;exact H6 _ (fun _ _=>iB.j.f.1 _ _) _ _
def xth(b:Array Zt)(t:Zt)(a:Za):B P F X<|Builtin.min_ b t a:=by
 unfold Builtin.min_;split;exact vE _ trivial;exact H6 _ (fun _ _=>iB.j.g _ _) _ _
def UP(k:IntKind)(x y:Int)(c:BoundsCode):B P F X (boundsPanic k x y c:Sem α):=by
 unfold boundsPanic
 repeat' (first|(with_reducible first|refine xp ?_ (fun _=>?_)|refine Yo ?_ ?_|exact mI _|exact xr _|exact Yy _|refine Fj _ ?_))
def zze(e:Bool):∀(n:Nat) (t:Zt) (v:Zv),B P F X<|Instr.checkKey e n t v:=by
 intro n;induction n with
 |zero=>intro t v;unfold Instr.checkKey;exact vE _ trivial
 |succ n ih=>
  intro t v;unfold Instr.checkKey
  repeat' (first|(with_reducible first|refine xp ?_ (fun _=>?_)|refine Yo ?_ ?_|exact ih _ _|exact mI _|exact iB.1 _ _ _|exact dP.1 _|exact dP.j.d.1 _|exact xr _|exact ja _|exact vH _|exact Ya _|refine H7 _ _ (fun _ _=>?_) _|refine KT _ _ (fun _ _=>?_) _)|split)
def YE(l:Nat):B P F X<|Instr.beginRound l:=by
 unfold Instr.beginRound;refine YX fun r b a=>xp (BZ _ _ b<|a.again _) fun _=>?_
 repeat' (first|(with_reducible first|exact mI _|exact xr _)|split)
def GP(l:Nat):B P F X<|Instr.endLoop l:=by
 unfold Instr.endLoop;refine YX fun r b a=>?_
 repeat' (first|(exact BZ _ _ b<|a.again _)|(with_reducible first|refine xp ?_ (fun _=>?_)|refine Yo ?_ ?_|exact mI _|exact xr _))
def iZ:(∀(v:Zv),B P F X<|asAddr v)/\(∀(a:Addr) (f:Field),B P F X<|fieldPlace a f)/\(∀(op:BinOp) (k:IntKind) (x y:Int),B P F X<|Op.intDiv op k x y)/\(∀(op:BinOp) (k:IntKind) (x:Int) (j:IntKind) (y:Int),B P F X<|Op.shift op k x j y)/\(∀(a b:Option Addr),B P F X<|samePointer a b)/\(∀(op:BinOp) (t:Zt) (x y:Operand) (a b:Zv),B P F X<|eqGuard op t x y a b)/\(∀(t:Zt) (a:Zv),B P F X<|Instr.loadAt t a)/\(∀(t:Zt) (a v:Zv),B P F X<|Instr.storeAt t a v)/\(∀(t:Zt) (x i:Zv),B P F X<|Instr.indexAt t x i)/\(∀(x:Zv) (y:Nat) (c:BoundsCode),B P F X<|Instr.sliceBound x y c)/\(∀(t:Zt) (x:Zv),B P F X<|Instr.arrayAt t x)/\(∀(t:Zt) (h:Bool) (x:Zv),B P F X<|Instr.alloc t h x)/\(∀(t:Zt) (x:Zv),B P F X<|Instr.box t x)/\(∀(t:Zt) (x:Zv) (i:Nat),B P F X<|Instr.field t x i)/\(∀(t:Zt) (x i:Zv),B P F X<|Instr.index t x i)/\(∀(t:Zt) (x:Zv),B P F X<|Instr.makeChan t x)/\(∀(t:Zt) (x:Option Zv),B P F X<|Instr.makeMap t x)/\(∀(t:Zt) (l c:Zv),B P F X<|Instr.makeSlice t l c)/\(∀(t:Zt) (m k v:Zv),B P F X<|Instr.entryStore t m k v)/\(∀(x:Zv) (t u:Zt) (ok:Bool),B P F X<|Instr.typeAssert x t u ok)/\(∀(ts:Array Zt) (t:Zt) (a:Za),B P F X<|Builtin.copy_ ts t a):=by
 refine⟨?_,?_,?_,?_,?_,?_,?_,?_,?_,?_,?_,?_,?_,?_,?_,?_,?_,?_,?_,?_,?_⟩<;>intros<;>(first|unfold asAddr|unfold fieldPlace|unfold Op.intDiv|unfold Op.shift|unfold samePointer|unfold eqGuard|unfold Instr.loadAt|unfold Instr.storeAt|unfold Instr.indexAt|unfold Instr.sliceBound|unfold Instr.arrayAt|unfold Instr.alloc|unfold Instr.box|unfold Instr.field|unfold Instr.index|unfold Instr.makeChan|unfold Instr.makeMap|unfold Instr.makeSlice|unfold Instr.entryStore|unfold Instr.typeAssert|unfold Builtin.copy_)<;>repeat' (first|((with_reducible refine Jk _ ?_);next=>(exact trivial))|((with_reducible refine Xc ?_ ?_);next=>(first|(simp;done)|rfl))|((with_reducible refine xH _ ?_);next=>(refine⟨fun c e h=>?_,fun d h=>?_,fun l h=>?_⟩<;>cases h<;>simp))|((with_reducible refine BZ _ _ ‹_› ?_);next=>(refine⟨fun c e h=>?_,fun d h=>?_,fun l h=>?_⟩<;>cases h<;>simp))|((with_reducible refine yP (fun _ _ _=>?_) ?_);rotate_left;next=>(intro o g w;cases o<;>first|(cases g;done)|exact⟨id,trivial⟩))|(with_reducible first|exact mI _|exact xr _|exact ja _|refine xp ?_ (fun _=>?_)|refine Yo ?_ ?_|exact iB.j.2.1 _ _ _|exact dP.1 _|exact iB.g.1 _ _|exact zwd _ _ _ _|exact dP.c.1 _|exact iB.c.1 _ _|exact iB.e.1 _ _ _|exact dP.g.1 _|exact UP _ _ _ _|exact Ya _|exact iB.d.1 _ _|exact dP.2.1 _|exact dP.j.j.d.1 _|exact iB.1 _ _ _|exact iB.2.1 _|exact vH _|exact dP.2.2.1 _ _|exact Yy _|exact R7 _|exact iB.f.1 _ _ _|exact dP.j.j.1 _|exact QA _ _ _)|split)
def GS:∀(d:Nat) (t:Zt) (x y:Zv),B P F X<|Op.equalIn d t x y:=by
 intro d;induction d with
 |zero=>intro t x y;unfold Op.equalIn;exact vE _ trivial
 |succ d ih=>
  intro t x y;unfold Op.equalIn
  repeat' (first|((with_reducible refine Jk _ ?_);next=>(exact trivial))|((with_reducible refine Xc ?_ ?_);next=>(first|(simp;done)|rfl))|(with_reducible first|refine xp ?_ (fun _=>?_)|refine Yo ?_ ?_|exact ih _ _ _|exact QZ _|exact dP.j.c.1 _|exact iZ.d.1 _ _|exact iB.g.1 _ _|exact mI _|exact iB.1 _ _ _|exact dP.1 _|exact dP.j.d.1 _|exact xr _|exact ja _|exact Yy _|exact vH _|exact Ya _|refine H7 _ _ (fun _ _=>?_) _|refine KT _ _ (fun _ _=>?_) _)|split|(dsimp only))
def FN:(∀(t:Zt) (x y:Zv),B P F X<|Op.equal t x y)/\(∀(s:Bool) (n c:Nat) (lo hi mx:Option Zv),B P F X<|Instr.sliceBounds s n c lo hi mx)/\(∀(t:Zt) (x:Zv) (i:Nat),B P F X<|Instr.fieldAt t x i):=by
 refine⟨?_,?_,?_⟩<;>intros<;>(first|unfold Op.equal|unfold Instr.sliceBounds|unfold Instr.fieldAt)<;>repeat' (first|(with_reducible first|exact GS _ _ _ _|refine xp ?_ (fun _=>?_)|exact iZ.j.2.1 _ _ _|exact xr _|exact ja _|exact iZ.2.1 _ _|exact dP.c.1 _|exact Ya _)|split)
def Lu(t:Zt)(k:Zv):∀(es:List MapEntry) (i:Nat),B P F X (Instr.findAsking t k es i)
 |[],i=>by unfold Instr.findAsking;exact Vv _
 |e::es,i=>by
  unfold Instr.findAsking;refine wT (FN.1 _ _ _) fun b=>?_;split;exact Vv _;exact Lu t k es<|i+1
def U1:(∀(t:Zt) (k:Zv) (es:List MapEntry),B P F X<|Instr.findKey t k es)/\(∀(t:Zt) (x:Zv) (lo hi mx:Option Zv),B P F X<|Instr.slice t x lo hi mx):=by
 refine⟨?_,?_⟩<;>intros<;>(first|unfold Instr.findKey|unfold Instr.slice)<;>repeat' (first|(with_reducible first|refine xp ?_ (fun _=>?_)|exact Lu _ _ _ _|exact xr _|exact Ya _|refine Yo ?_ ?_|exact FN.2.1 _ _ _ _ _ _|exact iZ.1 _|exact dP.1 _|exact ja _)|split)
def FP:(∀(t:Zt) (x:Zv) (lo hi mx:Option Zv),B P F X<|Instr.sliceAt t x lo hi mx)/\(∀(t:Zt) (x i:Zv) (ok:Bool),B P F X<|Instr.lookup t x i ok)/\(∀(t:Zt) (m k v:Zv),B P F X<|Instr.mapUpdate t m k v)/\(∀(t:Zt) (m k:Zv),B P F X<|Instr.mapEntry t m k)/\(∀(ts:Array Zt) (t:Zt) (a:Za),B P F X<|Builtin.delete_ ts t a):=by
 refine⟨?_,?_,?_,?_,?_⟩<;>intros<;>(first|unfold Instr.sliceAt|unfold Instr.lookup|unfold Instr.mapUpdate|unfold Instr.mapEntry|unfold Builtin.delete_)<;>repeat' (first|((with_reducible refine yP (fun _ _ _=>?_) ?_);rotate_left;next=>(intro o b w;cases o<;>first|(cases b;done)|exact⟨id,trivial⟩))|((with_reducible refine BZ _ _ ‹_› ?_);next=>(refine⟨fun c e h=>?_,fun d h=>?_,fun l h=>?_⟩<;>cases h<;>simp))|(with_reducible first|refine xp ?_ (fun _=>?_)|exact U1.2 _ _ _ _ _|exact FN.2.1 _ _ _ _ _ _|exact dP.c.1 _|exact dP.1 _|exact xr _|exact Ya _|exact U1.1 _ _ _|exact zze _ _ _ _|exact dP.2.1 _|exact ja _|exact dP.j.j.2.2.1 _ _|exact mI _)|split)
end
section
variable {α β:Type} {P:aV} {F:Array Func} {X:Nat->Prop}
attribute [local simp] AB wW DX Y8 Y7 Wi AA
def NO(d e n:Nat)(base:Option Addr)(x:Zv)(p:Zp)(w:Zy):∃b,(Builtin.mayShare d e n base x).run p w= .ok b w:=by
 have h:∀(a:Addr) (c:Nat),∃b,(Builtin.holdsCells a c).run p w= .ok b w:=fun a c=>by
  unfold Builtin.holdsCells;simp only[shape,bind,Sem.bind,Sem.run];cases w.shape? a.block with
  |none=>exact⟨_,rfl⟩
  |some y=>exact⟨_,rfl⟩
 unfold Builtin.mayShare;cases base with
 |none=>
  simp only[bind,Sem.bind,pure];cases x with
  |slice a l c=>
   cases a with
   |none=>exact⟨_,rfl⟩
   |some a=>
    obtain⟨b,f⟩:=h a<|n*d;refine⟨!b||false,?_⟩;simp[qh,f,aY,Sem.run]
  |_=>exact⟨_,rfl⟩
 |some a=>
  obtain⟨b,f⟩:=h a<|e*d;simp only[bind,pure,qh,f,aY,Go.frozen,Sem.run];cases hbb:(b&& !w.frozen? (a.add<|e/2*d))with
  |false=>exact⟨_,rfl⟩
  |true=>
   simp only[Bool.not_true];cases x with
   |slice y l c=>
    cases y with
    |none=>exact⟨_,rfl⟩
    |some y=>
     obtain⟨i,g⟩:=h y<|n*d;refine⟨!i||a.block==y.block,?_⟩;simp[qh,g,aY,Sem.run]
   |_=>exact⟨_,rfl⟩
def Ts{c a n:Nat}{base:Option Addr}{x:Zv}{k:Bool->Sem β}(hk:∀b w,¬jK ((k b).run (wf P F) w)/\nR ((k b).run (wf P F) w)):B P F X<|Builtin.mayShare c a n base x>>=k:=
 SF fun w=>by
  obtain⟨b,d⟩:=NO c a n base x (wf P F) w;rw[show(Builtin.mayShare c a n base x>>=k).run (wf P F) w=_ from qh _ _ _ w,d];exact hk b w
def TO(c:Array Zt)(t:Zt)(a:Za):B P F X<|Builtin.append_ c t a:=by
 unfold Builtin.append_
 repeat' (first|((with_reducible refine Ts ?_);next=>(intro b w;cases b<;>exact⟨id,trivial⟩))|(with_reducible first|refine xp ?_ (fun _=>?_)|refine Yo ?_ ?_|exact iB.f.1 _ _ _|exact dP.j.j.1 _|exact iB.2.1 _|exact mI _|exact dP.2.2.1 _ _|exact QA _ _ _|exact dP.1 _|exact dP.2.1 _|exact xr _|exact ja _|exact Yy _|exact R7 _|exact vH _|exact Ya _)|split)
def t7(e:Zt)(c:Za):B P F X<|newRow e c>>=fun a=>markStringish a>>=fun _=>(pure a:Sem Addr):=by
 have h:∀w:Zy,(({w with heap:=w.heap.push<|.cells c e}:Zy).freeze {block:=w.heap.size,off:=c.size} 1)={w with heap:=w.heap.push<|.cells c e (c.size,c.size+1)}:=fun w=>by
  unfold World.freeze;simp only[Nat.one_ne_zero,if_false,World.mk.injEq,and_true];apply Yc;intro i;simp only[q0,jh];by_cases g:i=w.heap.size;subst g;simp;simp[g,Ne.symm g]
 have run:∀p w,(newRow e c>>=fun a=>markStringish a>>=fun _=>(pure a:Sem Addr)).run p w= .ok (zq w.heap.size 0) {w with heap:=w.heap.push<|.cells c e (c.size,c.size+1)}:=fun p w=>by
  rw[<-h w];simp[newRow,newObj,markStringish,shape,freeze,bind,Sem.bind,Sem.run,pure,World.shape?]
 have runT:∀p w f,(newRow e c>>=fun a=>markStringish a>>=fun _=>(pure a:Sem Addr)).runT p w f=(.ok (zq w.heap.size 0) {w with heap:=w.heap.push<|.cells c e (c.size,c.size+1)},f):=fun p w f=>by
  rw[<-h w];simp[newRow,newObj,markStringish,shape,freeze,bind,Sem.bind,Sem.runT,pure,World.shape?,-Sem.runT_eq]
 refine⟨fun w v f b j=>?_,fun w b j=>?_,fun w _=>by rw[run];trivial⟩;rw[run,runT];refine⟨{v with heap:=v.heap.push<|.cells c e (c.size,c.size+1)},#[],⟨by simp[Ww,b.size],b.push _ .cells,fun x k=>?_,by simp,by simp⟩⟩;have:=b.low x k;simp only[jh,b.size,show x≠w.heap.size by omega,if_false];unfold nQ;rw[run];refine⟨ze _,rfl,fun t d _=>?_⟩;rw[run];simp[rW,Ww,re];exact⟨rfl,rfl,rfl⟩
def zng(e:Zt)(s:ByteArray):B P F X<|Conv.stringToBytes e s:=by
 haveI:=IX
 unfold Conv.stringToBytes;refine xp (Yy _) fun b=>?_;have:∀(c:Za),(newRow e c>>=fun a=>markStringish a>>=fun _=>(pure (.slice (bO a) s.size b):Sem Zv))=(newRow e c>>=fun a=>markStringish a>>=fun _=>(pure a:Sem Addr))>>=fun a=>pure<|.slice (bO a) s.size b:=fun c=>by
  simp only[bind_assoc,pure_bind]
 show B P F X<|newRow e _>>=fun a=>markStringish a>>=fun _=>(pure (.slice (bO a) s.size b):Sem Zv);rw[this];exact xp (t7 _ _) fun a=>xr _
end
section
variable {α β:Type} {P:aV} {F:Array Func} {X:Nat->Prop}
attribute [local simp] AB wW DX Y8 Y7 Wi AA
def Lv(op:BinOp)(k:FloatKind)(x y:Nat):B P F X<|Op.floatArith op k x y:=by
 unfold Op.floatArith
 repeat' (first|(with_reducible first|refine xp ?_ (fun _=>?_)|exact xr _|exact ja _|exact Yy _)|split|(dsimp only))
def Ob(op:BinOp)(k:FloatKind)(x y:Nat):B P F X<|Op.floatCmp op k x y:=by
 unfold Op.floatCmp
 repeat' (first|(with_reducible first|exact xr _|exact ja _)|split)
def ztq(s:FloatKind)(b:Nat)(k:IntKind):B P F X<|Conv.floatToInt s b k:=by
 unfold Conv.floatToInt
 repeat' (first|(with_reducible first|refine xp ?_ (fun _=>?_)|refine Yo ?_ ?_|exact xr _|exact Yy _)|split)
def zts(k:FloatKind)(n:Int):B P F X<|Conv.intToFloat k n:=by
 unfold Conv.intToFloat
 repeat' (first|(with_reducible exact xr _))
def YA(s:FloatKind)(b:Nat)(k:FloatKind):B P F X<|Conv.floatToFloat s b k:=by
 unfold Conv.floatToFloat
 repeat' (first|(with_reducible first|refine xp ?_ (fun _=>?_)|refine Yo ?_ ?_|exact xr _|exact Yy _)|split)
def zwb(s:FloatKind)(a b:Nat)(k:FloatKind):B P F X<|Conv.complexToComplex s a b k:=by
 unfold Conv.complexToComplex
 repeat' (first|(with_reducible first|refine xp ?_ (fun _=>?_)|exact YA _ _ _|exact xr _|exact ja _)|split)
def JP(op:BinOp)(k:FloatKind)(x y:Nat):B P F X<|Op.Complex.arith op k x y:=by
 unfold Op.Complex.arith
 repeat' (first|(with_reducible first|refine xp ?_ (fun _=>?_)|exact Lv _ _ _ _|exact xr _|exact ja _)|split)
def Dq(op:BinOp)(k:FloatKind)(x y:Nat):B P F X<|Op.Complex.cmp op k x y:=by
 unfold Op.Complex.cmp
 repeat' (first|(with_reducible first|refine xp ?_ (fun _=>?_)|exact Ob _ _ _ _|exact dP.j.1 _))
def To(s:FloatKind)(x:Nat)(k:FloatKind):B P F X<|Op.Complex.conv s x k:=by
 unfold Op.Complex.conv
 repeat' (first|(with_reducible first|refine xp ?_ (fun _=>?_)|refine Yo ?_ ?_|exact YA _ _ _|exact xr _|exact ja _)|split)
def Q8(x y:Nat):B P F X<|Op.Complex.add x y:=JP _ _ _ _
def R_(x y:Nat):B P F X<|Op.Complex.sub x y:=JP _ _ _ _
def Q9(x y:Nat):B P F X<|Op.Complex.mul x y:=JP _ _ _ _
def xp7(x y:Nat):B P F X<|Op.Complex.quo x y:=JP _ _ _ _
def zzg(a b c d:Nat):B P F X<|Op.Complex.product a b c d:=by
 unfold Op.Complex.product
 repeat' (first|(with_reducible first|refine xp ?_ (fun _=>?_)|exact Q9 _ _|exact R_ _ _|exact Q8 _ _|exact xr _))
def zto(s a b c d:Nat):B P F X<|Op.Complex.corrected s a b c d:=by
 unfold Op.Complex.corrected
 repeat' (first|(with_reducible first|refine xp ?_ (fun _=>?_)|exact Q9 _ _|exact R_ _ _|exact Q8 _ _|exact xr _))
def zwc(a b c d:Nat):B P F X<|Op.Complex.quotient a b c d:=by
 unfold Op.Complex.quotient
 repeat' (first|(with_reducible first|refine xp ?_ (fun _=>?_)|refine Yo ?_ ?_|exact zto _ _ _ _ _|exact xp7 _ _|exact Q9 _ _|exact R_ _ _|exact Q8 _ _|exact Dq _ _ _ _|exact xr _))
def zwa(op:BinOp)(k:FloatKind)(a b c d:Nat):B P F X<|Op.complexOp op k a b c d:=by
 unfold Op.complexOp
 repeat' (first|(with_reducible first|refine xp ?_ (fun _=>?_)|refine Yo ?_ ?_|exact zwc _ _ _ _|exact zzg _ _ _ _|exact To _ _ _|exact Dq _ _ _ _|exact JP _ _ _ _|exact xr _|exact ja _)|split)
def xte:B P F X<|sys .env:=
 yI (fun w=> .ok (.strings w.os.env) w) (fun _=>rfl) (fun _ _ _=>rfl) (fun _=>trivial) (fun w=>by
  have e:w.sys .env=(.strings w.os.env,w):=rfl;simp[sys,Sem.run,e]) (fun w v c b _=>⟨#[⟨.output,bL,bK⟩],by
  have e:v.sys .env=(.strings v.os.env,v):=rfl;simp[sys,Sem.runT,e,Ww,b.os,-Sem.runT_eq],fun e a=>by simp at a;subst a;exact trivial⟩)
def zzm:B P F X<|Instr.panicnil:=by
 unfold Instr.panicnil
 repeat' (first|((with_reducible refine Xc ?_ ?_);next=>(first|(simp;done)|rfl))|(with_reducible first|refine xp ?_ (fun _=>?_)|exact xte|exact xr _|exact ja _)|split)
def Ua(x:Zv):B P F X<|Instr.panic x:=by
 unfold Instr.panic
 repeat' (first|(with_reducible first|refine xp ?_ (fun _=>?_)|refine Yo ?_ ?_|exact zzm|exact mI _|exact ja _|exact Ar _)|split)
def xoy(P:Zp)(F:Zc):∀d t u,sameLayout (wf P F) d t u=sameLayout P d t u:=by
 intro d;induction d with
 |zero=>intros;rfl
 |succ d ih=>intro t u;simp only[sameLayout,ih,Jz,VP,wW]
def xsu(P:Zp)(F:Zc)(f:Zt->Bool):∀d e c o n,rowAt (wf P F) f d e c o n=rowAt P f d e c o n:=by
 intro d;induction d with
 |zero=>intros;rfl
 |succ d ih=>intro e c o n;simp only[rowAt,ih,Jz,Y7,wW]<;>rfl
def RZ(P:Zp)(F:Zc):∀d e c o u n,liesAt (wf P F) d e c o u n=liesAt P d e c o u n:=by
 intro d;induction d with
 |zero=>intros;rfl
 |succ d ih=>intro e c o u n;simp only[liesAt,ih,Jz,xsu,xoy,Y8]
def zro(P:Zp)(F:Zc):∀d t b,cellOfByte (wf P F) d t b=cellOfByte P d t b:=by
 intro d;induction d with
 |zero=>intros;rfl
 |succ d ih=>intro t b;simp only[cellOfByte,ih,Jz,Y7,Wi]<;>rfl
def Su(P:Zp)(F:Zc)(d:Nat)(e:Zt)(c o:Nat)(b:Int):cellAtBytes (wf P F) d e c o b=cellAtBytes P d e c o b:=by
 simp only[cellAtBytes,Y7,Wi,AA,zro]<;>rfl
def Kz(a:Addr)(u:Zt)(n:Nat)(p:Zp)(w:Zy):(variablesAt a u n).run p w= .ok (match w.shape? a.block with
  |some (e,c)=>liesAt p p.depth e (c/p.cellsOf e) a.off u n
  |none=>bK) w:=by
 cases h:w.shape? a.block with
 |none=>simp[variablesAt,program,shape,bind,Sem.bind,Sem.run,h,pure]
 |some y=>obtain⟨e,c⟩:=y;simp[variablesAt,program,shape,bind,Sem.bind,Sem.run,h,pure]
def t8{s:Sem α}(h:∀w,Sm P X w w->¬jK (s.run (wf P F) w)/\nR (s.run (wf P F) w)):B P F X s:=⟨fun w v c a b=>absurd b (h w a.self).1,fun w a b=>absurd b (h w a).1,fun w a=>(h w a).2⟩
def RA{r:Nat}(hx:¬X r):B P F X<|shape r:=
 yI (fun w=> .ok (w.shape? r) w) (fun _=>rfl) (fun _ _ _=>rfl) (fun _=>trivial) (fun _=>rfl) (fun w v b a _=>⟨#[],by
  simp[shape,Sem.runT,Ww,World.shape?,a.out r hx,-Sem.runT_eq],by simp⟩)
def GT{a:Addr}{n:Nat}(hx:¬X a.block):B P F X<|freeze a n:=by
 have out:∀w v:Zy,Sm P X w v->Sm P X (w.freeze a n) (v.freeze a n):=by
  intro w v h;unfold World.freeze;split;exact h;refine⟨by simp[h.size],fun r c=>?_,fun r c=>?_,fun r=>by
   have g:=h.oks r;simp only[q0];split;cases ho:w.heap[r]?with
   |none=>exact .none
   |some o=>
    rw[ho]at g;cases o with
    |cells=>exact .cells
    |_=>exact g
   exact g,h.tape,h.drawn,h.os,h.output,⟨by simp only[Array.size_modify];exact h.pin.1,fun r c k=>by
   have b:a.block≠r:=fun e=>hx<|e▸c;simp only[q0,b,if_false];exact h.pin.2 r c k⟩⟩
  simp only[q0,h.out r c];have b:a.block≠r:=fun e=>hx<|e▸c;simp only[q0,b,if_false];exact h.dead r c
 have f:∀(w:Zy) (r:Nat),X r->(w.freeze a n).heap[r]?=w.heap[r]?:=by
  intro w r c;unfold World.freeze;split;rfl;have b:a.block≠r:=fun e=>hx<|e▸c;simp only[q0,b,if_false]
 refine⟨fun w v l i j=>⟨v.freeze a n,#[],⟨?_,out w v i,fun r c=>f v r c,by simp,?_⟩⟩,fun w i j=>⟨?_,?_,fun t d _=>?_⟩,fun w _=>trivial⟩;simp[freeze,Sem.runT,Sem.run,Ww,-Sem.runT_eq];unfold World.freeze;split<;>simp
 show w.drawn<=(w.freeze a n).drawn;unfold World.freeze;split<;>exact ze _
 show(w.freeze a n).tape=w.tape;unfold World.freeze;split<;>rfl
 have e:(w.freeze a n).drawn=w.drawn:=by unfold World.freeze;split<;>rfl
 show Result.ok () ((re w t d).freeze a n)=Result.ok () (re (w.freeze a n) t<|d+((w.freeze a n).drawn-w.drawn));rw[e];unfold World.freeze;split<;>simp[re]
def Na(a:Addr):∀(n:Nat) (b:Addr) (acc:ByteArray),B P F X (loadBytes b acc n)
 |0,b,acc=>by unfold loadBytes;exact Vv _
 |n+1,b,acc=>by
  unfold loadBytes;refine xp (R6 _ _) fun x=>?_;split;exact Na a n _ _;exact ja _
def zzo(a:Addr)(u:Zt)(n:Nat)(l:n≠0):B P F X<|variablesAt a u n>>=fun b=>if b then(loadBytes a .empty n>>=fun s=>freeze a n>>=fun _=>(pure (.string s):Sem Zv))else unsupported (.unsafePointer "String: not so many bytes at ptr"):=by
 by_cases d:X a.block;refine t8 fun w i=>?_;rw[show(variablesAt a u n>>=_).run (wf P F) w=_ from qh _ _ _ w];obtain⟨o,r,f,p,⟨g,q⟩|⟨c,e,rfl,rfl⟩⟩:=i.dead _ d;have e:(variablesAt a u n).run (wf P F) w= .ok bK w:=by
  cases o<;>cases g
  rw[Kz];simp[World.shape?,f]
 rw[e];exact⟨id,trivial⟩;have e:∃b,(variablesAt a u n).run (wf P F) w= .ok b w:=⟨_,Kz a u n _ w⟩;obtain⟨b,j⟩:=e;rw[j];cases b with
 |false=>exact⟨id,trivial⟩
 |true=>
  have k:(loadBytes a .empty n).run (wf P F) w= .halt (.stuck "load: no such cell") w:=by
   obtain⟨m,rfl⟩:=Nat.exists_eq_succ_of_ne_zero l;have h:(Go.load a .plain).run (wf P F) w= .halt (.stuck "load: no such cell") w:=by
    rw[TD];simp[aQ,World.farLoad,World.noCell,f]
   unfold loadBytes;rw[show(Go.load a .plain>>=_).run (wf P F) w=_ from qh _ _ _ w,h];rfl
  show¬jK ((loadBytes a .empty n>>=fun s=>freeze a n>>=fun _=>(pure (.string s):Sem Zv)).run (wf P F) w)/\nR ((loadBytes a .empty n>>=fun s=>freeze a n>>=fun _=>(pure (.string s):Sem Zv)).run (wf P F) w);rw[show(loadBytes a .empty n>>=_).run (wf P F) w=_ from qh _ _ _ w,k];exact⟨id,trivial⟩
 refine xp ?_ fun b=>?_;unfold variablesAt;refine Xc ?_ ?_;simp only[RZ,Y8,Y7];refine xp (RA d) fun s=>?_;split;exact xr _;exact xr _;split;exact xp (Na a _ _ _) fun s=>xp (GT d) fun _=>xr _;exact Jk _ trivial
def zwi(d:Array Zt)(t:Zt)(a:Za):B P F X<|Builtin.unsafeSliceData_ d t a:=by
 unfold Builtin.unsafeSliceData_;obtain⟨l⟩:=a;rcases l with _|⟨x,_|⟨y,l⟩⟩
 exact ja _;cases x with
 |slice b n c=>
  cases b with
  |none=>exact xr _
  |some b=>exact Yo (xr _)<|xp (A8 _) fun _=>Yo (xr _)<|xp (dP.j.2.1 _) fun _=>xp (xH _ ⟨fun c e h=>(by cases h),fun f h=>(by cases h),fun l h=>(by cases h)⟩) fun _=>xr _
 |_=>exact ja _
 cases x<;>first|exact ja _|(rename_i b _ _;cases b<;>exact ja _)
def DF(s:Sem α):Prop:=∀p w a w',s.run p w≠ .ok a w'
def JI{s:Sem α}{k:α->Sem β}(h:∀a,DF<|k a):DF<|s>>=k:=fun p w b c e=>by
 rw[show(s>>=k).run p w=_ from qh p s k w]at e;cases hs:s.run p w with
 |ok a w1=>rw[hs]at e;exact h a p w1 b c e
 |halt x w1=>rw[hs]at e;cases e
def zjp(v:Zv):DF (goPanic v:Sem α):=fun p w a b e=>by cases e
def Yr(e:RuntimeError):DF (runtimePanic e:Sem α):=by
 unfold runtimePanic;refine JI fun p=>?_;cases e with
 |typeAssertion i c a m=>exact JI fun r=>JI fun s=>zjp _
 |panicNil=>exact JI fun r=>JI fun s=>zjp _
 |_=>exact zjp _
def EJ{s:Sem α}{k:α->Sem β}(i:B P F X s)(g:DF s):B P F X<|s>>=k:=by
 refine⟨fun w v f c b=>?_,fun w c b=>?_,fun w c=>?_⟩;rotate_left 2;have e:(s>>=k).run (wf P F) w=_:=qh (wf P F) s k w;rw[e];have l:=i.dZ w c;cases hr:s.run (wf P F) w with
 |ok a w'=>exact absurd hr<|g _ _ _ _
 |halt hh w'=>rw[hr]at l;exact l
 have e:(s>>=k).run (wf P F) w=_:=qh (wf P F) s k w;have p:(s>>=k).runT P v f=_:=Jb P s k v f;rw[e]at b⊢;rw[p];cases hr:s.run (wf P F) w with
 |ok a w'=>exact absurd hr<|g _ _ _ _
 |halt hh w'=>
  rw[hr]at b;obtain⟨x,j,h⟩:=i.gJ w v f c (by rw[hr];revert b;cases hh<;>exact id);rw[hr]at h;refine⟨x,j,⟨?_,h.sm,h.kept,h.evs,h.grows⟩⟩;rw[h.eq];rfl
 have r:∀w,(s>>=k).run (wf P F) w=_:=qh (wf P F) s k;unfold nQ;simp only[r]at b⊢;cases hr:s.run (wf P F) w with
 |ok a w'=>exact absurd hr<|g _ _ _ _
 |halt h w'=>
  rw[hr]at b;obtain⟨m,n,o⟩:=i.loc w c (by rw[hr];revert b;cases h<;>exact id);rw[hr]at m n o;refine⟨m,n,fun t d q=>?_⟩;rw[o t d q];rfl
def Pf(u:Unsupported):DF (unsupported u:Sem α):=fun p w a b e=>by cases e
def zoo(c:Array Zt)(t:Zt)(a:Za):B P F X<|Builtin.unsafeString_ c t a:=by
 unfold Builtin.unsafeString_;obtain⟨l⟩:=a;rcases l with _|⟨x,_|⟨y,_|⟨z,l⟩⟩⟩
 exact ja _;cases x<;>exact ja _
 cases x with
 |pointer b=>
  dsimp only;refine xp (iB.2.1 _) fun n=>?_;split
  ·split
   exact EJ (mI _)<|Yr _;split;exact EJ (Jk _ trivial)<|Pf _;cases b with
   |none=>repeat' (first|(with_reducible first|refine Yo ?_ ?_|exact mI _|exact xr _))
   |some b=>
    dsimp only;split;exact xr _;refine xp (dP.j.2.1 _) fun u=>?_;exact zzo b u n.toNat<|by omega
  exact ja _
 |_=>exact ja _
 cases x<;>exact ja _
def xtf(c:Array Zt)(t:Zt)(a:Za)(h:∀u,c[0]?=bO u->BP P u=bL):B P F X<|Builtin.len_ c t a:=by
 unfold Builtin.len_;split
 ·rename_i u x he
  refine JQ fun d hd=>?_;have b:=h u (by cases he':c[0]?<;>simp_all);unfold BP at b;rw[hd]at b
  repeat' (first|((with_reducible refine yP (fun _ _ _=>?_) ?_);rotate_left;next=>(intro o e w;cases o<;>first|(cases e;done)|exact⟨id,trivial⟩))|(with_reducible first|refine xp ?_ (fun _=>?_)|exact xr _|exact ja _|exact Ya _)|split)
  all_goals (cases b)
 exact ja _
def xtd(c:Array Zt)(t:Zt)(a:Za)(h:∀u,c[0]?=bO u->BP P u=bL):B P F X<|Builtin.cap_ c t a:=by
 unfold Builtin.cap_;split
 ·rename_i u x he
  refine JQ fun d hd=>?_;have b:=h u (by cases he':c[0]?<;>simp_all);unfold BP at b;rw[hd]at b
  repeat' (first|(with_reducible first|refine xp ?_ (fun _=>?_)|exact xr _|exact ja _|exact Ya _)|split)
  all_goals (cases b)
 exact ja _
end
section
variable {α β:Type} {P:aV} {F:Array Func} {X:Nat->Prop}
attribute [local simp] AB wW DX Y8 Y7 Wi AA Su RZ
def IF(e:Zt)(s:ByteArray):B P F X<|Conv.stringToRunes e s:=by
 unfold Conv.stringToRunes
 repeat' (first|(with_reducible first|refine xp ?_ (fun _=>?_)|exact dP.2.2.1 _ _|exact xr _|exact Yy _))
def zwe(x:Zv):B P F X<|Conv.runesToString x:=by
 unfold Conv.runesToString
 repeat' (first|(with_reducible first|refine xp ?_ (fun _=>?_)|exact dP.f.1 _ _|exact xr _|exact ja _|refine KT _ _ (fun _ _=>?_) _)|split)
def GF(c dst:Zt)(x:Zv)(h:VI P c dst=bL):B P F X<|convert c dst x:=by
 unfold convert;refine JQ fun a d=>JQ fun b e=>?_;unfold VI at h;rw[d,e]at h;split at h<;>first|(cases h;done)|(rename_i e1 e2;cases e1;cases e2;(repeat' (first|((with_reducible refine Jk _ ?_);next=>(exact trivial))|(with_reducible first|refine xp ?_ (fun _=>?_)|exact zwe _|exact IF _ _|exact zwb _ _ _ _|exact YA _ _ _|exact zts _ _|exact ztq _ _ _|exact zng _ _|exact iB.2.2.1 _|exact dP.e.1 _|exact dP.d.1 _ _|exact xr _|exact ja _|exact Ya _)|split));all_goals contradiction)
def zwj(p:Zp)(d:Nat)(e:Zt)(o:Nat)(b:Int):cellAtBytes p d e 0 o b=bN:=by
 unfold cellAtBytes;simp only[bind,Option.bind];split;rfl;split;rfl
 rename_i a _
 dsimp only;rw[aA];simp only[Nat.zero_mul,Yk,X9];exact Int.lt_or_le _ _
def B3{r:Nat}{k:Option (Zt×Nat)->Sem β}(hk:∀s,B P F X<|k s)(n:∀e w,¬jK ((k<|bO (e,0)).run (wf P F) w)/\nR ((k<|bO (e,0)).run (wf P F) w)):B P F X<|shape r>>=k:=by
 by_cases h:X r;refine⟨fun w v d a b=>?_,fun w a b=>(hk<|w.shape? r).loc w a b,fun w a=>(hk<|w.shape? r).dZ w a⟩;obtain⟨o,p,g,j,⟨l,m⟩|⟨c,e,rfl,rfl⟩⟩:=a.dead _ h;cases o<;>cases l
 have f:(shape r>>=k).run (wf P F) w=(k bN).run (wf P F) w:=by
  show(k<|w.shape? r).run (wf P F) w=_;simp[World.shape?,g]
 have i:(shape r>>=k).runT P v d=(k bN).runT P v d:=by
  show(k<|v.shape? r).runT P v d=_;cases p<;>cases m<;>simp[World.shape?,j]
 rw[f]at b⊢;rw[i];exact(hk bN).gJ w v d a b;exfalso;have f:(shape r>>=k).run (wf P F) w=(k<|bO (e,0)).run (wf P F) w:=by
  show(k<|w.shape? r).run (wf P F) w=_;simp[World.shape?,g]
 rw[f]at b;exact(n _ _).1 b;exact xp (RA h) hk
def Nc(a:Array Zt)(t:Zt)(x y:Zv):B P F X<|Builtin.unsafeAdd_ a t #[x,y]:=by
 unfold Builtin.unsafeAdd_;cases x with
 |pointer b=>
  refine xp (iB.2.1 _) fun n=>?_
  repeat' (first|((with_reducible refine B3 (fun _=>?_) ?_);rotate_left;next=>(intro e w;simp[program,bind,Sem.bind,Sem.run,zwj,unsupported,jK,nR,NI]))|(exact EJ (Jk _ trivial)<|Pf _)|((with_reducible refine Jk _ ?_);next=>(exact trivial))|((with_reducible refine Xc ?_ ?_);next=>(first|(simp;done)|rfl))|(with_reducible first|refine xp ?_ (fun _=>?_)|refine Yo ?_ ?_|exact A8 _|exact xr _)|split)
 |_=>exact ja _
def zzc(a:Addr)(l:Bool):B P F X<|asNumber a l:=by
 unfold asNumber
 repeat' (first|((with_reducible refine xH _ ?_);next=>(refine⟨fun c e h=>?_,fun b h=>?_,fun l h=>?_⟩<;>cases h<;>simp))|(with_reducible first|refine xp ?_ (fun _=>?_)|exact xr _))
def zq4(t:Zt)(x y:Zv):B P F X<|movedNumber t x y:=by
 unfold movedNumber
 repeat' (first|((with_reducible refine Jk _ ?_);next=>(exact trivial))|(with_reducible first|refine xp ?_ (fun _=>?_)|refine Yo ?_ ?_|exact zzc _ _|exact Nc _ _ _ _|exact dP.j.c.1 _|exact xr _|exact Ya _)|split)
def zok(t:Zt)(x y:Zv):B P F X<|movedPointer t x y:=by
 unfold movedPointer
 repeat' (first|((with_reducible refine Jk _ ?_);next=>(exact trivial))|(with_reducible first|refine xp ?_ (fun _=>?_)|refine Yo ?_ ?_|exact Nc _ _ _ _|exact Oe _)|split)
def Nb(a b:Addr):B P F X<|Op.twoPlaces a b:=by
 unfold Op.twoPlaces
 repeat' (first|((with_reducible refine Jk _ ?_);next=>(exact trivial))|((with_reducible refine Xc ?_ ?_);next=>(first|(simp;done)|rfl))|(with_reducible first|refine xp ?_ (fun _=>?_)|refine Yo ?_ ?_|exact QZ _|exact xr _))
def GC(k:IntKind)(a b:Addr):B P F X<|Op.addrSub k a b:=by
 unfold Op.addrSub
 repeat' (first|(with_reducible first|refine xp ?_ (fun _=>?_)|exact Nb _ _|exact xr _))
def FS(op:BinOp)(a b:Addr):B P F X<|Op.addrCmp op a b:=by
 unfold Op.addrCmp
 repeat' (first|((with_reducible refine Jk _ ?_);next=>(exact trivial))|(with_reducible first|refine xp ?_ (fun _=>?_)|exact Nb _ _|exact xr _)|split)
def GB(k:IntKind)(a:Addr)(n:Int):B P F X<|Op.addrMod k a n:=by
 unfold Op.addrMod
 repeat' (first|((with_reducible refine Ub (fun _=>?_) ?_);rotate_left;next=>(intro e n m;rfl))|((with_reducible refine Jk _ ?_);next=>(exact trivial))|(with_reducible first|refine xp ?_ (fun _=>?_)|refine Yo ?_ ?_|exact QZ _|exact xr _|exact vH _)|split)
def Tl(op:BinOp)(t:Zt)(x y:Zv):B P F X<|binOp op t x y:=by
 unfold binOp
 repeat' (first|((with_reducible refine Jk _ ?_);next=>(exact trivial))|(with_reducible first|refine xp ?_ (fun _=>?_)|refine Yo ?_ ?_|exact GB _ _ _|exact FS _ _ _|exact GC _ _ _|exact zok _ _ _|exact zq4 _ _ _|exact zwa _ _ _ _ _ _|exact Ob _ _ _ _|exact Lv _ _ _ _|exact FN.1 _ _ _|exact dP.j.c.1 _|exact dP.j.2.2.1 _ _ _|exact dP.j.j.e.1 _ _ _|exact iZ.c.1 _ _ _ _ _|exact dP.j.g.1 _ _ _ _|exact iZ.2.2.1 _ _ _ _|exact dP.j.f.1 _ _ _ _|exact xr _|exact ja _|exact Ya _)|split)
end
section
variable {α β:Type} {P:aV} {F:Array Func} {X:Nat->Prop}
attribute [local simp] AB wW DX Y8 Y7 Wi AA Su RZ
def YY(t:Zt)(x:Place):B P F X<|Place.get t x:=by
 unfold Place.get
 repeat' (first|(with_reducible first|exact iB.c.1 _ _|exact xr _)|split)
def A_:∀(l:List FieldStep) (t:Zt) (x:Place),B P F X (follow l t x)
 |[],t,x=>by unfold follow;exact xr _
 |s::l,t,x=>by
  unfold follow
  repeat' (first|(with_reducible first|refine xp ?_ (fun _=>?_)|refine Yo ?_ ?_|exact A_ l _ _|exact YY _ _|exact iZ.2.1 _ _|exact iZ.1 _|exact iB.1 _ _ _|exact ja _|exact Ya _)|split)
def IH(d:Array Zt)(t:Zt)(p:Zv)(a b:ByteArray):B P F X<|Builtin.ssaWrapNilChk_ d t #[p,.string a,.string b]:=by
 unfold Builtin.ssaWrapNilChk_;cases p with
 |pointer q=>
  cases q with
  |some q=>exact xr _
  |none=>
   refine xp (Yy _) fun c=>?_
   repeat' (first|(exact EJ (mI _)<|Yr _)|((with_reducible refine Jk _ ?_);next=>(exact trivial))|(with_reducible first|refine xp ?_ (fun _=>?_)|refine Yo ?_ ?_|exact mI _|exact ja _|exact vH _|exact Ya _)|split|(dsimp only))
 |_=>exact ja _
def Lx(t:Zt)(x:Place)(b:Bool)(w:Option String):B P F X<|receiverAt t x b w:=by
 unfold receiverAt
 repeat' (first|(exact IH _ _ _ _ _)|(with_reducible first|refine xp ?_ (fun _=>?_)|exact YY _ _|exact iZ.1 _|exact iB.c.1 _ _|exact xr _|exact ja _|exact Ya _)|split)
def zq5(t:Zt)(v:Zv)(p:Array FieldStep)(b:Bool):B P F X<|receiverVia t v p b:=by
 unfold receiverVia
 repeat' (first|(with_reducible first|refine xp ?_ (fun _=>?_)|exact Lx _ _ _ _|exact A_ _ _ _))
def Tz:∀(n:Nat) (t:Zt) (v:Zv) (name:String),B P F X (method n t v name)
 |0,t,v,name=>by unfold method;exact Jk _ trivial
 |n+1,t,v,name=>by
  unfold method
  repeat' (first|(with_reducible first|refine xp ?_ (fun _=>?_)|exact Tz n _ _ _|exact Lx _ _ _ _|exact A_ _ _ _|exact YY _ _|exact mI _|exact xr _|exact ja _|exact vH _)|split)
def Ld:∀(l:List FieldStep) (t:Zt) (x:Option Zv),B P F X (followBlind l t x)
 |[],t,x=>by unfold followBlind;exact xr _
 |s::l,t,x=>by
  unfold followBlind
  repeat' (first|(with_reducible first|refine xp ?_ (fun _=>?_)|exact Ld l _ _|exact iB.1 _ _ _|exact xr _|exact ja _|exact Ya _)|split)
def Od:∀(n:Nat) (t:Zt) (v:Zv) (name:String),B P F X (nilAhead n t v name)
 |0,t,v,name=>by unfold nilAhead;exact xr _
 |n+1,t,v,name=>by
  unfold nilAhead
  repeat' (first|(with_reducible first|refine xp ?_ (fun _=>?_)|exact Od n _ _ _|exact Ld _ _ _|exact xr _|exact ja _|exact vH _|exact Ya _)|split)
def HU(f:Zv)(a:Za):B P F X<|Deferred.ofValue f a:=by
 unfold Deferred.ofValue
 repeat' (first|(with_reducible first|exact xr _|exact ja _)|split)
def JB(r:Operand->Zv)(c:Call)(t:Zt):B P F X<|resolve r c t:=by
 unfold resolve
 repeat' (first|(with_reducible first|exact HU _ _|exact xr _)|split)
def Ref(F:Zc)(f:FuncId):Prop:=∃fn s,F[f]?=bO fn/\fn.body=bO (.refuse s)/\(fn.name== "runtime.NumGoroutine")=bK
structure BN(P:Zp)(F:Zc)(X:ZP)(s:Sem Next):Prop where
 gJ:∀w v es,Sm P X w v->jK (s.run (wf P F) w)->(∀f a w',s.run (wf P F) w= .ok (.enter f a) w'->¬Ref F f)->∃v' new,CR P X v es (s.run (wf P F) w) (s.runT P v es) v' new
 loc:∀w,Sm P X w w->jK (s.run (wf P F) w)->nQ w (s.run (wf P F) w) (s.run<|wf P F)
 dZ:∀w,Sm P X w w->nR (s.run (wf P F) w)
def Bl.next{s:Sem Next}(h:B P F X s):BN P F X s:=⟨fun w v a b c _=>h.gJ w v a b c,h.loc,h.dZ⟩
def SG{s:Sem α}{k:α->Sem Next}(j:B P F X s)(hk:∀a,BN P F X<|k a):BN P F X<|s>>=k:=by
 have z:∀w,(s>>=k).run (wf P F) w=_:=fun w=>qh (wf P F) s k w;refine⟨fun w v l f c D=>?_,fun w f c=>?_,fun w f=>?_⟩;rotate_left 2;rw[z];have G:=j.dZ w f;cases hq:s.run (wf P F) w with
 |halt hh w'=>rw[hq]at G;exact G
 |ok a w'=>
  obtain⟨o,b,r⟩:=j.gJ w w #[] f (by rw[hq];trivial);rw[hq]at r;exact(hk a).dZ w' r.sm.self
 have I:(s>>=k).runT P v l=_:=Jb P s k v l;rw[z]at c⊢;rw[I];simp only[z]at D;cases hr:s.run (wf P F) w with
 |halt hh w'=>
  rw[hr]at c;obtain⟨o,b,h⟩:=j.gJ w v l f (by rw[hr];revert c;cases hh<;>exact id);rw[hr]at h;refine⟨o,b,⟨?_,h.sm,h.kept,h.evs,h.grows⟩⟩;rw[h.eq];rfl
 |ok a w'=>
  rw[hr]at c D;obtain⟨o,b,h⟩:=j.gJ w v l f (by rw[hr];trivial);rw[hr]at h;obtain⟨E,y,m⟩:=(hk a).gJ w' o (l++b) h.sm c D;refine⟨E,b++y,⟨?_,m.sm,fun x H=>(m.kept x H).trans<|h.kept x H,?_,xz h.grows m.grows⟩⟩;rw[h.eq];show(k a).runT P o (l++b)=_;rw[m.eq,Zs];rfl;intro e J;rcases IE.1 J with x|x
  exact(h.evs e x).mono m.grows;exact m.evs e x
 unfold nQ;simp only[z]at c⊢;cases hr:s.run (wf P F) w with
 |halt h w'=>
  rw[hr]at c;obtain⟨p,g,n⟩:=j.loc w f (by rw[hr];revert c;cases h<;>exact id);rw[hr]at p g n;refine⟨p,g,fun t d C=>?_⟩;rw[n t d C];rfl
 |ok a w'=>
  rw[hr]at c;obtain⟨p,g,n⟩:=j.loc w f (by rw[hr];trivial);rw[hr]at p g n;simp only[rW,Ww]at p g n;obtain⟨o,b,r⟩:=j.gJ w w #[] f (by rw[hr];trivial);rw[hr]at r;obtain⟨N,K,L⟩:=(hk a).loc w' r.sm.self c;show w.drawn<=(rW<|(k a).run (wf P F) w').drawn/\(rW<|(k a).run (wf P F) w').tape=w.tape/\∀t d,BU w ((rW<|(k a).run (wf P F) w').drawn-w.drawn) t d->_=Ww (re (rW<|(k a).run (wf P F) w') t<|d+((rW<|(k a).run (wf P F) w').drawn-w.drawn)) ((k a).run (wf P F) w');refine⟨by omega,K.trans g,fun t d C=>?_⟩;rw[n t d<|C.le<|by omega];have:=L t (d+(w'.drawn-w.drawn)) (fun i q M=>by
   have:=C (w'.drawn-w.drawn+i) q (by omega);rw[Ja,this,g,show w.drawn+(w'.drawn-w.drawn+i)=w'.drawn+i by omega])
  rw[show d+(w'.drawn-w.drawn)+((rW<|(k a).run (wf P F) w').drawn-w'.drawn)=d+((rW<|(k a).run (wf P F) w').drawn-w.drawn) by omega]at this;exact this
structure Fit(P:Zp)(F:Zc)(X:ZP):Prop where
 each:∀f:Nat,F[f]?=P.funcs[f]?\/Ref F f\/∃fn fn',P.funcs[f]?=bO fn/\F[f]?=bO fn'/\fn.name=fn'.name/\fn.body.isNone=bK/\fn'.body.isNone=bK
 res:∀f:Nat,(F[f]?).map (·.results)=(P.funcs[f]?).map (·.results)
 name:∀(f:Nat) fn,F[f]?=bO fn->(fn.name== "runtime.NumGoroutine")=bK
 next:∀(f:Nat) fn,F[f]?=bO fn->fn.body.isNone=bL->Extern.findNext fn=bN
 ext:∀(f:Nat) fn,F[f]?=bO fn->fn.body.isNone=bL->∀e,Extern.find fn=bO e->∀a,B P F X<|e a
def ZA{k:Zp->Sem Next}(h:k P=k (wf P F))(hk:BN P F X<|k<|wf P F):BN P F X<|program>>=k:=by
 have d:∀w,(program>>=k).run (wf P F) w=(k<|wf P F).run (wf P F) w:=fun w=>rfl;have e:∀w a,(program>>=k).runT P w a=(k<|wf P F).runT P w a:=fun w a=>by rw[<-h];rfl
 refine⟨fun w v a b c f=>?_,fun w b c=>?_,fun w b=>by rw[d];exact hk.dZ w b⟩;rw[d]at c⊢;rw[e];exact hk.gJ w v a b c f;rw[d]at c;have:=hk.loc w b c;unfold nQ at this⊢;simp only[d];exact this
def YW(H:Fit P F X)(f:FuncId)(args:Za):BN P F X<|callFunc f args:=by
 unfold callFunc;rcases H.each f with h|⟨a,s,c,b,g⟩|⟨a,j,c,b,g,k,i⟩
 ·refine ZA ?_ ?_
  rw[<-h];rfl;refine Bl.next ?_;show B P F X (match F[f]?with|none=>_|some a=>_);cases hf:F[f]?with
  |none=>exact ja _
  |some a=>
   dsimp only;split;exact xr _;split
   ·rename_i hb
    refine xp (Aw _<|.inr ⟨f,rfl⟩) fun _=>?_;have p:=H.next f a hf hb;rw[p];have o:=H.ext f a hf hb;dsimp only
    repeat' (first|(exact o _ ‹_› _)|((with_reducible refine Jk _ ?_);next=>(exact trivial))|(with_reducible first|refine xp ?_ (fun _=>?_)|refine Yo ?_ ?_|exact xr _)|split)
   exact xr _
 have e:∀w,(callFunc f args).run (wf P F) w= .ok (.enter f args) w:=fun w=>by
  show(match F[f]?with|none=>_|some a=>_:Sem Next).run (wf P F) w=_;rw[c];simp only[b,g];rfl
 refine⟨fun w v q m n l=>absurd ⟨a,s,c,b,g⟩<|l f args w<|e w,fun w m n=>?_,fun w _=>by unfold callFunc at e;rw[e];trivial⟩;unfold callFunc at e;unfold nQ;simp only[e];exact⟨ze _,rfl,fun t d _=>by simp[Ww,rW]⟩;refine ZA ?_ ?_;show(match P.funcs[f]?with|none=>_|some a=>_)=(match F[f]?with|none=>_|some a=>_);rw[c,b];simp only[g,k,i];rfl;refine Bl.next ?_;show B P F X (match F[f]?with|none=>_|some a=>_);rw[b];simp only[i];split;exact xr _;exact xr _
def Lt(H:Fit P F X)(r:Zv)(a:String)(args:Za):BN P F X<|callMethod r a args:=by
 unfold callMethod;split;refine ZA rfl ?_;refine SG (Tz _ _ _ _) fun x=>?_;exact YW H _ _
 ·exact Bl.next<|mI _
 exact Bl.next<|ja _
def GE(b:Builtin)(d:Array Zt)(t:Zt)(c:Array Bool)(a:Za)(h:yF P b d=bL):B P F X<|builtin b d t c a:=by
 have f:∀u,d[0]?=bO u->(match d[0]?with|some u=>BP P u|none=>bL)=bL->BP P u=bL:=fun u e h=>by rw[e]at h;exact h
 unfold builtin;cases b<;>simp only[yF,xu]at h<;>dsimp only
 case append=>exact xp (TO _ _ _) fun _=>xr _
 case cap=>exact xp (xtd _ _ _ fun u e=>f u e h) fun _=>xr _
 case clear=>exact xp (iB.j.e.1 _ _ _) fun _=>xr _
 case copy=>exact xp (iZ.j.j.d _ _ _) fun _=>xr _
 case delete=>exact xp (FP.d _ _ _) fun _=>xr _
 case len=>exact xp (xtf _ _ _ fun u e=>f u e h) fun _=>xr _
 case max=>exact xp (xtg _ _ _) fun _=>xr _
 case min=>exact xp (xth _ _ _) fun _=>xr _
 case panic=>exact xp (Ua _) fun _=>xr _
 case recover=>exact xr _
 case unsafeSliceData=>exact xp (zwi _ _ _) fun _=>xr _
 case unsafeString=>exact xp (zoo _ _ _) fun _=>xr _
def AU(H:Fit P F X)(t:Target)(args:Za)(h:Vn P t=bL):BN P F X<|invoke t args:=by
 unfold invoke;cases t with
 |nil=>exact Bl.next<|mI _
 |builtin b ts u c=>exact Bl.next<|GE _ _ _ _ _ h
 |collected r=>exact Bl.next<|ja _
 |coroexit c=>cases h
 |fn f c=>
  cases f with
  |func f=>exact YW H _ _
  |method n=>
   dsimp only;split;exact Lt H _ _ _;exact Bl.next<|ja _
  |methodOf t n=>
   dsimp only;split;exact SG (Ya _) fun _=>Lt H _ _ _;exact Bl.next<|ja _
  |via t p f b=>
   dsimp only;split;exact SG (zq5 _ _ _ _) fun _=>YW H _ _;exact Bl.next<|ja _
  |yield l=>exact Bl.next<|iB.j.d.1 _ _
def Y4{ρ:Operand->Zv}{c:Call}{t:Zt}(h:ES P c=bL){p:Zp}{w w':Zy}{d:Deferred}(a:(resolve ρ c t).run p w= .ok d w'):Vn P d.target=bL:=by
 unfold resolve at a;unfold ES at h;cases hc:c.callee with
 |builtin b=>
  rw[hc]at a h;cases a;exact h
 |invoke r n=>
  rw[hc]at a;cases a;rfl
 |value f=>
  rw[hc]at a;unfold Deferred.ofValue at a;dsimp only at a;split at a<;>cases a<;>rfl
def RB{s:Sem α}{k:α->Sem Next}{q:α->Prop}(r:B P F X s)(o:∀w a w',s.run (wf P F) w= .ok a w'->q a)(hk:∀a,q a->BN P F X (k a)):BN P F X<|s>>=k:=by
 classical
 have m:∀p w,(∀a w',s.run p w= .ok a w'->q a)->(s>>=k).run p w=(s>>=fun a=>if q a then k a else stuck "").run p w:=fun p w h=>by
  rw[show(s>>=k).run p w=_ from qh p s k w,show(s>>=fun a=>if q a then k a else stuck "").run p w=_ from qh p s _ w];cases hr:s.run p w with
  |ok a w'=>simp only[aY];rw[aA<|h a w' hr]
  |halt x w'=>rfl
 have l:=SG (k:=fun a=>if q a then k a else stuck "") r (fun a=>by
  by_cases h:q a;simp only[h,if_true];exact hk a h;simp only[h,if_false];exact Bl.next<|ja _)
 have d:∀w,(s>>=k).run (wf P F) w=_:=fun w=>m (wf P F) w fun a w'=>o w a w';refine⟨fun w v c g i C=>?_,fun w g i=>?_,fun w g=>by rw[d];exact l.dZ w g⟩;have b:=i;rw[d]at b;obtain⟨D,n,h⟩:=l.gJ w v c g b (fun f a w' e=>C f a w'<|by rw[d];exact e);refine⟨D,n,?_⟩;rw[d];have y:(s>>=k).runT P v c=(s>>=fun a=>if q a then k a else stuck "").runT P v c:=by
  rw[show(s>>=k).runT P v c=_ from Jb P s k v c,show(s>>=fun a=>if q a then k a else stuck "").runT P v c=_ from Jb P s _ v c];have j:jK<|s.run (wf P F) w:=by
   rw[show(s>>=k).run (wf P F) w=_ from qh (wf P F) s k w]at i;cases hr:s.run (wf P F) w with
   |ok a w'=>trivial
   |halt x w'=>rw[hr]at i;revert i;cases x<;>exact id
  obtain⟨E,t,z⟩:=r.gJ w v c g j;rw[z.eq];cases hr:s.run (wf P F) w with
  |ok a w'=>simp only[Ww];rw[aA<|o w a w' hr]
  |halt x w'=>rfl
 rw[y];exact h;have b:=i;rw[d]at b;have:=l.loc w g b;unfold nQ at this⊢;simp only[d];exact this
def EF(H:Fit P F X)(ρ:Operand->Zv)(o:Oper)(h:qM P o.op=bL):BN P F X<|bG ρ o:=by
 unfold bG;cases ho:o.op<;>rw[ho]at h<;>simp only[qM,xu]at h<;>dsimp only
 case call c=>exact RB (JB _ _ _) (fun w d b a=>Y4 h a) fun d hd=>AU H _ _ hd
 case convert src dst x=>exact Bl.next<|xp (GF _ _ _ h) fun _=>xr _
 all_goals refine Bl.next ?_
 all_goals (repeat' (first|((with_reducible refine Jk _ ?_);next=>(exact trivial))|((with_reducible refine Xc ?_ ?_);next=>(first|(simp;done)|rfl))|(with_reducible first|refine xp ?_ (fun _=>?_)|refine Yo ?_ ?_|exact JB _ _ _|exact Od _ _ _ _|exact Tl _ _ _ _|exact Ua _|exact iZ.j.j.c.1 _ _ _ _|exact dP.j.j.j.2.2.1 _ _ _|exact u5 _ _|exact iZ.j.j.2.2.1 _ _ _ _|exact FP.c.1 _ _ _|exact FP.2.2.1 _ _ _ _|exact iZ.j.j.2.1 _ _ _|exact iZ.j.j.1 _ _|exact dP.j.j.j.2.1 _ _|exact dP.j.j.j.1 _ _ _|exact iZ.j.g.1 _ _|exact FP.2.1 _ _ _ _|exact iZ.j.f.1 _ _ _|exact iZ.j.e.1 _ _ _|exact dP.j.j.g.1 _ _|exact dP.j.j.f.1 _|exact iB.j.c.1 _ _ _|exact iB.j.2.2.1 _ _|exact iZ.j.d.1 _ _|exact iZ.j.c.1 _ _ _|exact iZ.j.2.2.1 _ _|exact FP.1 _ _ _ _ _|exact iZ.j.1 _ _ _|exact iZ.g.1 _ _ _|exact iZ.f.1 _ _|exact FN.2.2 _ _ _|exact iZ.e.1 _ _ _ _ _ _|exact iB.j.1 _ _|exact dP.j.1 _|exact mI _|exact xr _)|split))
end
end
section
open Go.Conc
variable [pn:Pn]
section
variable {fr:Zf} {cs:List Zf} {w w1:Zy} {p:Zp} {n:Next} {f:FuncId} {s:Sem Next} {es a:Array Event} {b:Bool} {g':Zg} {l:Nat} {args:Za} {d:Deferred} {ρ:Operand→Zv} {k:List Item} {w':Zy} {fn:FuncId} {t:Nat→Question→Nat}
section
variable {α β:Type} {P:aV} {F:Array Func} {X:Nat->Prop}
structure Af(P:Zp)(X:ZP)(v w' v':Zy)(es:Array Event):Prop where
 sm:Sm P X w' v'
 kept:∀x,X x->v'.heap[x]?=v.heap[x]?
 evs:∀e∈es,qI X v'.heap.size e
 grows:v.heap.size<=v'.heap.size
def Gu(P:Zp)(X:ZP)(v:Zy)(s' s:GStep):Prop:=
 ∀g' w' es',s'= .go g' w' es'->g'.dying=bN->∃v' es,s= .go g' v' es/\Af P X v w' v' es
def Nx:Next->Prop
 | .value _| .skip| .enter _ _| .round ..| .defer _| .recover=>True
 |_=>False
def Ys(P:Zp)(F:Zc)(f:FuncId):Prop:=F[f]?=P.funcs[f]?/\¬Ref F f
def Af.sub{v w' b:Zy}(h:Af P X v w' b es)(d:∀e∈a,e∈es):Af P X v w' b a:=
 ⟨h.sm,h.kept,fun e c=>h.evs e<|d e c,h.grows⟩
def CR.af{r:Result α}{c:Result α×Array Event}{v b:Zy}{a:Array Event}(h:CR P X v #[] r c b a):Af P X v (rW r) b a:=⟨h.sm,h.kept,h.evs,h.grows⟩
def CR.run{s:Sem α}{r:Result α}{v b:Zy}{a:Array Event}(h:CR P X v #[] r (s.runT P v #[]) b a):s.run P v=Ww b r/\s.events P v #[]=a:=by
 have:=h.eq;rw[zg]at this;have c:=(Prod.mk.inj this).1;have d:=(Prod.mk.inj this).2;exact⟨c,by simpa using d⟩
def zdt(h:F[f]?=P.funcs[f]?)(args:Za)(k:CallKind):bF (wf P F) f args k=bF P f args k:=by
 unfold bF;rw[show(wf P F).funcs[f]?=P.funcs[f]?from h]
def Nu{c:List ByteArray}{m:String}{w w':Zy}(h:bA es (dieOf fr c m b w)= .go g' w' a):g'.dying≠bN:=by
 unfold dieOf at h;cases h;simp
def PV{m:String}{w w':Zy}(h:bA es (endThrow fr m w)= .go g' w' a)(hd:g'.dying=bN):False:=Nu h hd
def PU{m:String}{w w':Zy}(h:bA es (endFatal p fr cs bN m w)= .go g' w' a)(hd:g'.dying=bN):False:=by
 unfold endFatal at h;dsimp only at h;split at h;exact Nu h hd;cases h;cases h
def IU{P1 P2:Zp}{w1 w v2:Zy}{r:Result Next}(hk:fr.kind≠ .early)(j:P1.follows=P2.follows)
  (o:s.run P1 w1=r)(i:s.run P2 w=Ww v2 r)(p:nR r)(z:∀n x,r= .ok n x->Nx n)(t:∀f a x k,r= .ok (.enter f a) x->bF P1 f a k=bF P2 f a k)
{q:Array Event}(h:bH P1 bL fr cs bN s w1= .go g' w' q)(hd:g'.dying=bN):
  jK r/\w'=rW r/\bH P2 bL fr cs bN s w= .go g' v2 (seen P2 fr.fn<|s.events P2 w #[]):=by
 have e:(fr.kind==CallKind.early)=bK:=by
  cases hq:fr.kind<;>simp_all
 cases r with
 |halt hh x=>
  cases hh with
  |panic y=>
   simp only[bH,zg,if_true,o,e]at h;cases h;refine⟨trivial,rfl,?_⟩;simp[bH,zg,i,Ww,e,bA]
  |blocked=>exact p.elim
  |waiting=>exact p.elim
  |goexit=>exact p.elim
  |fatal m=>
   exfalso;simp only[bH,zg,if_true,o,e]at h;exact PU h hd
  |throw m=>
   exfalso;simp only[bH,zg,if_true,o,e]at h;exact PV h hd
  |exit c=>
   exfalso;simp only[bH,zg,if_true,o,e]at h;cases h
  |stuck m=>
   exfalso;simp only[bH,zg,if_true,o,e]at h;cases h
  |unsupported u=>
   exfalso;cases u with
   |initOrder g=>exact p.elim
   |_=>
    simp only[bH,zg,if_true,o,e]at h;cases h
 |ok n x=>
  have v:=z n x rfl;cases n with
  |value y=>
   simp only[bH,zg,if_true,o,e]at h;cases h;refine⟨trivial,rfl,?_⟩;simp[bH,zg,i,Ww,e,bA]
  |skip=>
   simp only[bH,zg,if_true,o,e]at h;cases h;refine⟨trivial,rfl,?_⟩;simp[bH,zg,i,Ww,e,bA]
  |enter f a=>
   simp only[bH,zg,if_true,o,e]at h;cases h;refine⟨trivial,rfl,?_⟩;rw[t f a _ _ rfl];simp[bH,zg,i,Ww,e,bA]
  |round l f ts a b=>
   simp only[bH,zg,if_true,o,e]at h;cases h;refine⟨trivial,rfl,?_⟩;simp[bH,zg,i,Ww,e,bA]
  |defer d=>
   simp only[bH,zg,if_true,o,e]at h;cases h;refine⟨trivial,rfl,?_⟩;simp[bH,zg,i,Ww,e,bA]
  |recover=>
   simp only[bH,zg,if_true,o,e,j]at h;cases hro:fr.roundOf with
   |none=>
    cases htr:aH fr cs<;>
    ·simp only[hro,htr]at h
     cases h;refine⟨trivial,rfl,?_⟩;simp[bH,zg,i,Ww,e,bA,hro,htr]
   |some l=>
    cases j:P2.follows .rangeFuncRecover with
    |true=>
     cases htr:aH fr cs<;>
     ·simp only[hro,j,htr,if_true]at h
      cases h;refine⟨trivial,rfl,?_⟩;simp[bH,zg,i,Ww,e,bA,hro,j,htr]
    |false=>
     cases htr:tryRecoverLoop l cs<;>
     ·simp only[hro,j,htr,xu,if_false]at h
      cases h;refine⟨trivial,rfl,?_⟩;simp[bH,zg,i,Ww,e,bA,hro,j,htr]
  |_=>exact v.elim
def zza(j:BN P F X s){w v:Zy}(d:Sm P X w v)(hk:fr.kind≠ .early)
  (i:∀n w1,s.run (wf P F) w= .ok n w1->Nx n)(c:∀f a w1,s.run (wf P F) w= .ok (.enter f a) w1->Ys P F f):
  Gu P X v (bH (wf P F) bL fr cs bN s w) (bH P bL fr cs bN s v):=by
 intro z B o h hd;have b:=j.dZ w d.self;have r:=(IU (P2:=wf P F) hk rfl rfl (ET _).symm b i (fun _ _ _ _ _=>rfl) h hd).1;obtain⟨y,t,g⟩:=j.gJ w v #[] d r fun f a w1 e=>(c f a w1 e).2;obtain⟨p,q⟩:=g.run;obtain⟨_,l,m⟩:=IU (P1:=wf P F) (P2:=P) (s:=s) (w1:=w) hk rfl rfl p b i (fun f a x k e=>zdt (c f a x e).1 a k) h hd;refine⟨y,_,m,?_⟩;rw[l,q];exact g.af.sub fun e c=>mem_seen c
def DD(w:Zy)(st:Zy->GStep):Prop:=∀g' w' es',st w= .go g' w' es'->g'.dying=bN->w.drawn<=w'.drawn/\w'.tape=w.tape/\
 ∀t d,BU w (w'.drawn-w.drawn) t d->∃es,st (re w t d)= .go g' (re w' t<|d+(w'.drawn-w.drawn)) es
def Pz(e:BN P F X s){w:Zy}(b:Sm P X w w)(hk:fr.kind≠ .early)
  (c:∀n w1,s.run (wf P F) w= .ok n w1->Nx n):DD w<|bH (wf P F) bL fr cs bN s:=by
 intro m o g h hd;have a:=e.dZ w b;obtain⟨i,f,_⟩:=IU (P2:=wf P F) hk rfl rfl (ET _).symm a c (fun _ _ _ _ _=>rfl) h hd;obtain⟨l1,k,l⟩:=e.loc w b i;rw[f];refine⟨l1,k,fun t d j=>⟨_,(IU (P2:=wf P F) hk rfl rfl (l t d j) a c (fun _ _ _ _ _=>rfl) h hd).2.2⟩⟩
end
section
variable {α β:Type} {P:aV} {F:Array Func} {X:Nat->Prop}
def jm{s:Sem α}{k:α->Sem β}{b:β}(h:(s>>=k).run p w= .ok b w1):∃a w2,s.run p w= .ok a w2/\(k a).run p w2= .ok b w1:=by
 rw[show(s>>=k).run p w=_ from qh p s k w]at h;cases hs:s.run p w with
 |ok a w2=>rw[hs]at h;exact⟨a,w2,rfl,h⟩
 |halt x w2=>rw[hs]at h;cases h
def QW{s:Sem Zv}(h:(s>>=fun x=>(pure (.value x):Sem Next)).run p w= .ok n w1):Nx n:=by
 obtain⟨a,c,_,b⟩:=jm h;cases b;trivial
def TE{s:Sem Unit}(h:(s>>=fun _=>(pure .skip:Sem Next)).run p w= .ok n w1):Nx n:=by
 obtain⟨a,c,_,b⟩:=jm h;cases b;trivial
def YT(H:Fit P F X)(h:(callFunc f args).run (wf P F) w= .ok n w1):Nx n:=by
 unfold callFunc at h;obtain⟨p,d,c,a⟩:=jm h;cases c;change(match F[f]?with|none=>_|some fn=>_:Sem Next).run (wf P F) w=_ at a;cases hf:F[f]?with
 |none=>rw[hf]at a;cases a
 |some fn=>
  rw[hf]at a;simp only[H.name f fn hf]at a;cases hb:fn.body.isNone with
  |false=>
   simp only[hb]at a;cases a;trivial
  |true=>
   simp only[hb,if_true,H.next f fn hf hb]at a;obtain⟨_,g,_,b⟩:=jm a;cases he:Extern.find fn with
   |some e=>
    rw[he]at b;exact QW b
   |none=>
    rw[he]at b;dsimp only at b;split at b;cases b;trivial;cases b
def Lj(H:Fit P F X){r:Zv}{a:String}(h:(callMethod r a args).run (wf P F) w= .ok n w1):Nx n:=by
 unfold callMethod at h;split at h;obtain⟨p,f,d,b⟩:=jm h;obtain⟨y,g,e,c⟩:=jm b;exact YT H c;exact absurd h<|Yr _ _ _ _ _;cases h
def tA{b:Builtin}{d:Array Zt}{t:Zt}{c:Array Bool}{a:Za}(e:yF P b d=bL)(h:(builtin b d t c a).run p w= .ok n w1):Nx n:=by
 unfold builtin at h;cases b<;>simp only[yF,xu]at e<;>first|exact QW h|(cases h;trivial)
def I3{a:Za}(h:(Instr.yield l a).run p w= .ok n w1):Nx n:=by
 unfold Instr.yield at h;obtain⟨r,f,d,b⟩:=jm h;split at b;obtain⟨_,g,c,e⟩:=jm b;cases c;cases b;trivial
def yE(H:Fit P F X){t:Target}(d:Vn P t=bL)(h:(invoke t args).run (wf P F) w= .ok n w1):Nx n:=by
 unfold invoke at h;cases t with
 |nil=>exact absurd h<|Yr _ _ _ _ _
 |builtin b ts u c=>exact tA d h
 |collected r=>cases h
 |coroexit c=>cases d
 |fn f c=>
  cases f with
  |func f=>exact YT H h
  |method m=>
   dsimp only at h;split at h;exact Lj H h;cases h
  |methodOf t m=>
   dsimp only at h;split at h;obtain⟨p,g,e,a⟩:=jm h;exact Lj H a;cases h
  |via t p f b=>
   dsimp only at h;split at h;obtain⟨p,g,e,a⟩:=jm h;exact YT H a;cases h
  |yield l=>exact I3 h
def zig(H:Fit P F X){o:Oper}(ho:qM P o.op=bL)(h:(bG ρ o).run (wf P F) w= .ok n w1):Nx n:=by
 unfold bG at h;cases hop:o.op<;>rw[hop]at ho h<;>simp only[qM,xu]at ho
 case call c=>
  obtain⟨d,f,b,a⟩:=jm h;exact yE H (Y4 ho b) a
 case defer c=>
  obtain⟨d,f,b,a⟩:=jm h;cases a;trivial
 case move=>cases h;trivial
 case assign=>cases h;trivial
 case pick=>
  obtain⟨d,f,b,a⟩:=jm h;cases a;trivial
 case panic=>exact QW h
 case nilCheck x=>
  dsimp only at h;split at h;exact absurd h<|Yr _ _ _ _ _;exact absurd h<|Yr _ _ _ _ _;exact absurd h<|Yr _ _ _ _ _;split at h;exact absurd h<|Yr _ _ _ _ _;obtain⟨p,f,b,a⟩:=jm h;obtain⟨y,k,i,e⟩:=jm a;split at e;obtain⟨z,l,g,j⟩:=jm e;cases g;cases e;trivial;cases h;trivial;cases h;trivial
 all_goals first|exact QW h|exact TE h
end
section
variable {α β:Type} {P:aV} {F:Array Func} {X:Nat->Prop}
def tD{ops:Array Oper}(h:rT P bK ops=bL):rT P bL ops=bL:=by
 unfold rT at*;rw[Array.all_eq_true]at*;intro i a;have:=h i a;simp only[xl,Bool.false_or,Bool.true_or,and_true]at*;exact this.1
def V7:∀{c:Code},qn P bK c=bL->qn P bL c=bL
 | .region _ ops _,h=>tD h
 | .seq a b,h=>by
  simp only[qn,xl]at*;exact⟨V7 h.1,V7 h.2⟩
 | .cond _ a b,h=>by
  simp only[qn,xl]at*;exact⟨V7 h.1,V7 h.2⟩
 | .block _ a,h=>V7 (c:=a) h
 | .loop a,h=>V7 (c:=a) h
 | .scope a,h=>V7 (c:=a) h
 | .rangeFunc _ _ a b,h=>h
 | .skip,_| .exit _,_| .label _,_| .goto _,_| .ret,_| .refuse _,_=>rfl
def tB{c:Code}(h:qn P bK c=bL):qn P b c=bL:=by
 cases b with
 |false=>exact h
 |true=>exact V7 h
def Y3(P:Zp)(b:Bool):Item->Prop
 | .code c=>qn P b c=bL
 | .inLoop c=>qn P b c=bL
 | .inScope c=>qn P b c=bL
 | .inRegion ops _=>rT P b ops=bL
 | .call ..=>False
 | .extern ..=>False
 |_=>True
structure Xv(P:Zp)(fr:Zf):Prop where
 items:∀it∈fr.todo,Y3 P fr.roundOf.isNone it
 gI:∀d∈fr.defers,Vn P d.target=bL
 kind:fr.kind≠ .early/\fr.kind≠ .report
 init:P.inits.idxOf? fr.fn=bN
def Mc(P:Zp)(f:FuncId):Prop:=∃fn c,P.funcs[f]?=bO fn/\fn.body=bO c/\qn P bL c=bK
def fK(P:Zp)(fr:Zf):Prop:=Mc P fr.fn\/Xv P fr
def nP(P:Zp)(g:Zg):Prop:=fK P g.frame/\∀c∈g.callers,fK P c
def Xv.todo(h:Xv P fr)(hk:∀it∈k,Y3 P fr.roundOf.isNone it):Xv P {fr with todo:=k}:=⟨hk,h.gI,h.kind,h.init⟩
def Xv.mode(h:Xv P fr)(m:FrameMode):Xv P {fr with mode:=m}:=⟨h.items,h.gI,h.kind,h.init⟩
def Xv.raise(h:Xv P fr)(a:List PanicEntry):Xv P<|fr.raise a:=by
 unfold Frame.raise;split<;>exact h.mode _
def Xv.finish(h:Xv P fr)(v:Zv):Xv P<|fr.finish v:=by
 unfold Frame.finish;have b:=h.items;split
 rename_i ops i rest k e
 rw[e]at b;refine⟨fun c a=>?_,h.gI,h.kind,h.init⟩;simp only[xf]at a;rcases a with rfl|a
 exact b (.inRegion ops (i::rest)) (by simp);exact b c<|by simp[a]
 rename_i l k e
 rw[e]at b;refine⟨fun c a=>?_,h.gI,h.kind,h.init⟩;simp only[xf]at a;rcases a with rfl|a
 trivial;exact b c<|by simp[a]
 rename_i k e
 rw[e]at b;exact⟨fun c a=>b c<|by simp[a],h.gI,h.kind,h.init⟩
 rename_i e
 rw[e]at b;exact False.elim<|b _<|jo ..
 rename_i e
 rw[e]at b;exact False.elim<|b _<|jo ..;exact h
def fK.mode(h:fK P fr)(m:FrameMode):fK P {fr with mode:=m}:=h.imp id fun h=>h.mode m
def fK.raise(h:fK P fr)(a:List PanicEntry):fK P<|fr.raise a:=by
 unfold Frame.raise;split<;>exact h.mode _
def DM(fr:Zf)(v:Zv):(fr.finish v).fn=fr.fn:=by
 unfold Frame.finish;split<;>rfl
def fK.finish(h:fK P fr)(v:Zv):fK P<|fr.finish v:=h.imp (fun h=>by rw[DM];exact h) fun h=>h.finish v
def YH{id:Nat}:∀{k k':List Item},(∀it∈k,Y3 P b it)->exitTo id k=bO k'->∀it∈k',Y3 P b it
 |[],k',h,e=>by cases e
 |x::k,k',h,e=>by
  have hk:∀it∈k,Y3 P b it:=fun it a=>h it (by simp[a]);unfold exitTo at e;split at e
  rename_i id' k1 e1
  cases e1;split at e;cases e;exact hk;exact YH hk e
  rename_i x1 k1 _ e1
  cases e1;exact YH hk e;cases e
def YG:∀{c r:Code},qn P b c=bL->findLabel c l=bO r->qn P b r=bL
 | .seq x y,r,h,e=>by
  simp only[qn,xl]at h;unfold findLabel at e;cases hx:findLabel x l with
  |some r1=>
   rw[hx]at e;cases e;simp only[qn,xl];exact⟨YG h.1 hx,h.2⟩
  |none=>
   rw[hx]at e;exact YG h.2 e
 | .label l',r,h,e=>by
  unfold findLabel at e;split at e<;>cases e
  rfl
 | .skip,r,_,e| .region ..,r,_,e| .cond ..,r,_,e| .block ..,r,_,e| .loop _,r,_,e| .rangeFunc ..,r,_,e| .exit _,r,_,e| .scope _,r,_,e| .goto _,r,_,e| .ret,r,_,e| .refuse _,r,_,e=>by cases e
def YM:∀{k k':List Item},(∀it∈k,Y3 P b it)->gotoIn l k=bO k'->∀it∈k',Y3 P b it
 |[],k',h,e=>by cases e
 |x::k,k',h,e=>by
  have hk:∀it∈k,Y3 P b it:=fun it a=>h it (by simp[a]);unfold gotoIn at e;split at e
  rename_i body k1 e1
  cases e1;have c:qn P b body=bL:=h (.inScope body) (by simp);split at e
  rename_i r hr
  cases e;intro it a;simp only[xf]at a;rcases a with rfl|rfl|a
  exact YG c hr;exact c;exact hk it a;exact YM hk e
  rename_i x1 k1 _ e1
  cases e1;exact YM hk e;cases e
def IA:∀{cs cs':List Zf} {fr:Zf} {v:Zv},(∀c∈cs,fK P c)->aH fr cs=bO (v,cs')->∀c∈cs',fK P c
 |[],cs',fr,v,h,e=>by
  unfold aH at e;split at e<;>simp_all
 |c::cs,cs',fr,v,h,e=>by
  unfold aH at e;split at e
  rename_i caller rest hk e1
  cases e1;split at e;cases e;intro x a;simp only[xf]at a;rcases a with rfl|a
  exact(h c<|by simp).mode _;exact h x (by simp[a]);cases e
  rename_i wrapper rest hk e1
  cases e1;cases ht:aH c cs with
  |none=>rw[ht]at e;cases e
  |some y=>
   rw[ht]at e;cases e;intro x a;simp only[xf]at a;rcases a with rfl|a
   exact h _ (by simp);exact IA (fun z b=>h z<|by simp[b]) ht x a
  cases e
def Wx:∀{cs cs':List Zf} {l:Nat} {v:Zv},(∀c∈cs,fK P c)->tryRecoverLoop l cs=bO (v,cs')->∀c∈cs',fK P c
 |[],cs',l,v,h,e=>by cases e
 |c::cs,cs',l,v,h,e=>by
  have hk:∀x∈cs,fK P x:=fun x a=>h x (by simp[a]);unfold tryRecoverLoop at e;obtain⟨y,b,d⟩:=zt.1 e;cases d;intro x a;simp only[xf]at a;rcases a with rfl|a
  exact h _ (by simp);split at b;exact Wx hk b x a;split at b;exact IA hk b x a;exact Wx hk b x a;exact Wx hk b x a
end
section
variable {α β:Type} {P:aV} {F:Array Func} {X:Nat->Prop}
def vX(P:Zp):Next->Prop
 | .round _ f _ a b=>qn P bK a=bL/\qn P bK b=bL/\P.inits.idxOf? f=bN
 | .defer d=>Vn P d.target=bL
 |_=>True
def Lm{c:Call}{t:Zt}{w w':Zy}(a:(resolve ρ c t).run p w= .ok d w'):w'=w:=by
 unfold resolve at a;cases hc:c.callee with
 |builtin b=>rw[hc]at a;cases a;rfl
 |invoke r n=>rw[hc]at a;cases a;rfl
 |value f=>
  rw[hc]at a;unfold Deferred.ofValue at a;dsimp only at a;split at a<;>cases a<;>rfl
def Ot{w w':Zy}{r:Loop}(h:(Instr.getLoop l).run p w= .ok r w'):w.heap[l]?=bO (.loop r)/\w'=w:=by
 unfold Instr.getLoop at h;obtain⟨o,c,a,b⟩:=jm h;rw[Jv]at a;cases ho:w.heap[l]?with
 |none=>rw[ho]at a;cases a
 |some o'=>
  rw[ho]at a;cases o'<;>cases a<;>cases b
  exact⟨rfl,rfl⟩
def zuo(i:Nx n)(h:(callFunc f args).run p w= .ok n w1)(g:∀fn,p.funcs[f]?=bO fn->fn.body.isNone=bL->Extern.findNext fn=bN):vX P n:=by
 unfold callFunc at h;obtain⟨j,k,d,b⟩:=jm h;cases d;cases hq:p.funcs[f]?with
 |none=>rw[hq]at b;cases b
 |some fn=>
  rw[hq]at b;dsimp only at b;split at b;cases b;trivial;split at b
  rename_i hb
  rw[g fn hq hb]at b;obtain⟨_,l,_,c⟩:=jm b;dsimp only at c;split at c;obtain⟨a,m,_,e⟩:=jm c;cases e;trivial;split at c;cases c;trivial;cases c;cases b;trivial
def ZL(H:Fit P F X){t:Target}(o:Vn P t=bL)(x:Sm P X w w)(h:(invoke t args).run (wf P F) w= .ok n w1):vX P n:=by
 have B:=yE H o h;have i:∀{f:FuncId} {args:Za} {g:Zy},(callFunc f args).run (wf P F) g= .ok n w1->vX P n:=fun h=>zuo B h fun fn e b=>H.next _ fn e b;have j:∀{r:Zv} {name:String} {args:Za} {g:Zy},(callMethod r name args).run (wf P F) g= .ok n w1->vX P n:=fun h=>by
  unfold callMethod at h;split at h;obtain⟨p,g,k,d⟩:=jm h;obtain⟨y,C,q,s⟩:=jm d;exact i s;exact absurd h<|Yr _ _ _ _ _;cases h
 unfold invoke at h;cases t with
 |nil=>exact absurd h<|Yr _ _ _ _ _
 |builtin b ts u c=>
  unfold builtin at h;have z:yF P b ts=bL:=o;cases b<;>simp only[yF,xu]at z<;>first|(obtain⟨a,g,_,d⟩:=jm h;cases d;trivial)|(cases h;trivial)
 |collected r=>cases h
 |coroexit c=>cases o
 |fn f c=>
  cases f with
  |func f=>exact i h
  |method m=>
   dsimp only at h;split at h;exact j h;cases h
  |methodOf t m=>
   dsimp only at h;split at h;obtain⟨p,g,k,d⟩:=jm h;exact j d;cases h
  |via t p f b=>
   dsimp only at h;split at h;obtain⟨p,g,k,d⟩:=jm h;exact i d;cases h
  |yield l=>
   unfold Instr.yield at h;obtain⟨r,g,k,d⟩:=jm h;obtain⟨v,rfl⟩:=Ot k;split at d;obtain⟨_,C,q,s⟩:=jm d;cases q;cases d;have:=(x.oks l).loop r v;exact⟨this.1,this.2.1,this.c⟩
def sX(H:Fit P F X){o:Oper}(ho:qM P o.op=bL)(j:Sm P X w w)(h:(bG ρ o).run (wf P F) w= .ok n w1):vX P n:=by
 have m:=zig H ho h;unfold bG at h;cases hop:o.op<;>rw[hop]at ho h<;>simp only[qM,xu]at ho
 case call c=>
  obtain⟨d,g,e,b⟩:=jm h;obtain rfl:=Lm e;exact ZL H (Y4 ho e) j b
 case defer c=>
  obtain⟨d,g,e,b⟩:=jm h;cases b;exact Y4 ho e
 case move=>cases h;trivial
 case assign=>cases h;trivial
 case nilCheck x=>
  dsimp only at h;split at h;exact absurd h<|Yr _ _ _ _ _;exact absurd h<|Yr _ _ _ _ _;exact absurd h<|Yr _ _ _ _ _;split at h;exact absurd h<|Yr _ _ _ _ _;obtain⟨p,g,e,b⟩:=jm h;obtain⟨y,q,k,f⟩:=jm b;split at f;obtain⟨z,r,i,l⟩:=jm f;cases i;cases f;trivial;cases h;trivial;cases h;trivial
 all_goals (obtain⟨a,g,_,b⟩:=jm h;cases b;trivial)
def pE(P:Zp)(F:Zc):Prop:=∀f,Ys P F f->P.inits.idxOf? f=bN/\(Mc P f\/∀fn c,F[f]?=bO fn->fn.body=bO c->qn P bL c=bL)
def j_(e:pE P F)(g:Ys P F f)(h:¬Mc P f)(a:Za){k:CallKind}(hk:k≠ .early/\k≠ .report):Xv P<|bF (wf P F) f a k:=by
 refine⟨fun i b=>?_,fun d hd=>(by cases hd),hk,(e f g).1⟩;unfold bF at b;simp only[jp]at b;subst b;show qn P bL _=bL;rw[show(wf P F).funcs[f]?=F[f]?from rfl];cases hf:F[f]?with
 |none=>rfl
 |some fn=>
  cases hb:fn.body with
  |none=>simp[hb];rfl
  |some c=>simp[hb];exact(e f g).2.resolve_left h fn c hf hb
def JX(b:pE P F)(d:Ys P F f)(a:Za){k:CallKind}(hk:k≠ .early/\k≠ .report):fK P<|bF (wf P F) f a k:=
 (Classical.em<|Mc P f).imp id fun c=>j_ b d c a hk
def cN{e:Za}{a b:Code}(h:qn P bK a=bL/\qn P bK b=bL/\P.inits.idxOf? f=bN){k:CallKind}(hk:k≠ .early/\k≠ .report):Xv P<|Frame.round l f e a b k:=by
 refine⟨fun g c=>?_,fun d hd=>(by cases hd),hk,h.2.2⟩;unfold Frame.round at c;simp only[xf,Vy,or_false]at c;rcases c with rfl|rfl|rfl
 exact h.1;trivial;exact h.2.1
def QY(G:pE P F){w:Zy}(g:Xv P fr)(i:∀c∈cs,fK P c)(D:nR<|s.run (wf P F) w)(E:∀n x,s.run (wf P F) w= .ok n x->Nx n)
  (hk:∀n x,s.run (wf P F) w= .ok n x->vX P n)(q:∀f a x,s.run (wf P F) w= .ok (.enter f a) x->Ys P F f)
{r:Array Event}(h:bH (wf P F) bL fr cs bN s w= .go g' w' r)(hd:g'.dying=bN):nP P g':=by
 have j:(fr.kind==CallKind.early)=bK:=by
  have:=g.kind.1;cases hq:fr.kind<;>simp_all
 have m:∀c∈fr::cs,fK P c:=fun c z=>by
  simp only[xf]at z;rcases z with rfl|z
  exact .inr g;exact i c z
 have B:∀k:CallKind,(k=match fr.todo with| .call _ bL _ _::_=>CallKind.wrapped|_=> .normal)->k≠ .early/\k≠ .report:=fun k e=>by
  subst e;split<;>exact⟨by simp,by simp⟩
 have o:=(IU (P2:=wf P F) g.kind.1 rfl rfl (ET _).symm D E (fun _ _ _ _ _=>rfl) h hd).1;cases hr:s.run (wf P F) w with
 |halt hh x=>
  rw[hr]at o;cases hh with
  |panic y=>
   simp only[bH,zg,if_true,hr,j]at h;cases h;exact⟨.inr<|g.raise _,i⟩
  |_=>exact o.elim
 |ok n x=>
  have C:=E n x hr;have t:=hk n x hr;cases n with
  |value y=>
   simp only[bH,zg,if_true,hr,j]at h;cases h;exact⟨.inr<|g.finish _,i⟩
  |skip=>
   simp only[bH,zg,if_true,hr,j]at h;cases h;exact⟨.inr<|g.finish _,i⟩
  |enter f a=>
   simp only[bH,zg,if_true,hr,j]at h;cases h;exact⟨JX G (q f a _ hr) a<|B _ rfl,m⟩
  |round l f ts a b=>
   simp only[bH,zg,if_true,hr,j]at h;cases h;exact⟨.inr<|cN t ⟨by simp,by simp⟩,m⟩
  |defer d=>
   simp only[bH,zg,if_true,hr,j]at h;cases h;have:Xv P {fr with defers:=d::fr.defers}:=⟨g.items,fun e q=>by
    simp only[xf]at q;rcases q with rfl|q
    exact t;exact g.gI e q,g.kind,g.init⟩
   exact⟨.inr<|this.finish _,i⟩
  |recover=>
   simp only[bH,zg,if_true,hr,j]at h;have fin:∀y:Option<|Zv×List Zf,(∀v p,y=bO (v,p)->∀c∈p,fK P c)->bA (seen (wf P F) fr.fn (if bK=bL then#[]else s.events (wf P F) w #[])) (match y with
     |some (v,callers)=> .go {frame:=fr.finish v,callers,status:= .running,dying:=bN} x
     |none=> .go {frame:=fr.finish .nilIface,callers:=cs,status:= .running,dying:=bN} x)= .go g' w' r->nP P g':=fun y H h=>by
    cases y with
    |none=>cases h;exact⟨.inr<|g.finish _,i⟩
    |some y=>cases h;exact⟨.inr<|g.finish _,H _ _ rfl⟩
   refine fin _ (fun v p e=>?_) h;split at e;split at e;exact IA i e;exact Wx i e;exact IA i e
  |_=>exact C.elim
end
section
variable {α β γ:Type} {P:aV} {F:Array Func} {X:Nat->Prop}
structure G3(En:Prop)(P:Zp)(X:ZP)(w v:Zy)(st':Zy->GStep)(st:GStep):Prop where
 zN:En->Gu P X v (st' w) st
 loc:DD w st'
 ok:En->∀g' w' es',st' w= .go g' w' es'->g'.dying=bN->nP P g'
section
variable {En:Prop}
def Af.still{w v:Zy}(a:Sm P X w v):Af P X v w v #[]:=⟨a,fun _ _=>rfl,by simp,ze _⟩
def wU{w v:Zy}(g:Sm P X w v){st':Zy->GStep}{st:GStep}{g1:Zg}(b:∀w,st' w= .go g1 w #[])(h:st= .go g1 v #[])(i:g1.dying=bN->nP P g1):G3 En P X w v st' st:=by
 refine⟨fun _ c f a e hd=>?_,fun c f a e hd=>?_,fun _ c f a e hd=>?_⟩;rw[b]at e;cases e;exact⟨v,#[],h,.still g⟩;rw[b]at e;cases e;exact⟨ze _,rfl,fun t d _=>⟨#[],by rw[b];simp⟩⟩;rw[b]at e;cases e;exact i hd
def yS{w v:Zy}{st':Zy->GStep}{st:GStep}(a:∀g' w' es',st' w≠ .go g' w' es'):G3 En P X w v st' st:=
 ⟨fun _ g' w' es' e _=>absurd e<|a _ _ _,fun g' w' es' e _=>absurd e<|a _ _ _,fun _ g' w' es' e _=>absurd e<|a _ _ _⟩
def K_{s:Sem γ}(m:B P F X s){w v:Zy}(k:Sm P X w v){cont' cont:Result γ->GStep}
  (j:∀r g' w' es',cont' r= .go g' w' es'->g'.dying=bN->jK r/\w'=rW r/\es'=#[]/\∀u,cont' (Ww u r)= .go g' u #[]/\cont (Ww u r)= .go g' u #[])
  (g:∀g' w' es',cont' (s.run (wf P F) w)= .go g' w' es'->g'.dying=bN->nP P g'):
  G3 En P X w v (fun w=>bA (seen (wf P F) fn<|s.events (wf P F) w #[])<|cont'<|s.run (wf P F) w) (bA (seen P fn<|s.events P v #[])<|cont<|s.run P v):=by
 have inv:∀{i es':Array Event} {st:GStep} {g':Zg} {w':Zy},bA i st= .go g' w' es'->∃a,st= .go g' w' a:=fun {i es' st g' w'} e=>by
  cases st<;>cases e
  exact⟨_,rfl⟩
 refine⟨fun _ g' w' es' e hd=>?_,fun g' w' es' e hd=>?_,fun _ g' w' es' e hd=>?_⟩;obtain⟨a,b⟩:=inv e;obtain⟨f,rfl,_,c⟩:=j _ _ _ _ b hd;obtain⟨n,h,l⟩:=m.gJ w v #[] k f;obtain⟨o,p⟩:=l.run;refine⟨n,seen P fn h,?_,l.af.sub fun e x=>mem_seen x⟩;rw[o,p,(c n).2];simp[bA];obtain⟨a,b⟩:=inv e;obtain⟨f,rfl,_,c⟩:=j _ _ _ _ b hd;obtain⟨l1,y,z⟩:=m.loc w k.self f;refine⟨l1,y,fun t d q=>⟨seen (wf P F) fn (s.events (wf P F) (re w t d) #[])++#[],?_⟩⟩;show bA _ (cont'<|s.run (wf P F)<|re w t d)=_;rw[z t d q,(c _).1];rfl;obtain⟨a,b⟩:=inv e;exact g _ _ _ b hd
def zv4{w x:Zy}{a:Za}(c:s.run p w= .ok (.enter f a) x)(hk:fr.kind≠ .early):
  ∃k es,bH p bL fr cs bN s w= .go {frame:=bF p f a k,callers:=fr::cs,status:= .running,dying:=bN} x es:=by
 have b:(fr.kind==CallKind.early)=bK:=by cases hq:fr.kind<;>simp_all
 exact⟨_,_,by simp only[bH,zg,if_true,c,b];rfl⟩
def qR(P:Zp)(F:Zc)(n:Nat)(s:GStep):Prop:=∀g' w' es',s= .go g' w' es'->g'.callers.length=n+1->g'.frame.roundOf=bN->Ys P F g'.frame.fn
def Tw(p:pE P F){w v:Zy}(g:Sm P X w v)(b:Xv P fr)(i:∀c∈cs,fK P c)(l:BN P F X s)
  (j:∀n x,s.run (wf P F) w= .ok n x->Nx n)(hk:∀n x,s.run (wf P F) w= .ok n x->vX P n)(q:En->qR P F cs.length (bH (wf P F) bL fr cs bN s w)):
  G3 En P X w v (bH (wf P F) bL fr cs bN s) (bH P bL fr cs bN s v):=by
 have m:En->∀f a x,s.run (wf P F) w= .ok (.enter f a) x->Ys P F f:=fun d f a x e=>by
  obtain⟨k,r,h⟩:=zv4 (cs:=cs) e b.kind.1;exact q d _ _ _ h rfl rfl
 exact⟨fun d=>zza l g b.kind.1 j<|m d,Pz l g.self b.kind.1 j,fun d t y o e hd=>QY p b i (l.dZ w g.self) j hk (m d) e hd⟩
def QE{c:Zf}(hk:fr.kind≠ .early/\fr.kind≠ .report)(b:fK P c)(a:∀x∈cs,fK P x)(val:Zv):
  ∃g1,(∀p w,doReturn p bL fr (c::cs) bN val w= .go g1 w #[])/\g1.dying=bN/\nP P g1:=by
 cases hq:fr.kind with
 |normal=>exact⟨_,fun p w=>by simp[doReturn,hq];rfl,rfl,b.finish _,a⟩
 |wrapped=>exact⟨_,fun p w=>by simp[doReturn,hq];rfl,rfl,b.finish _,a⟩
 |early=>exact absurd hq hk.1
 |report=>exact absurd hq hk.2
 |deferred=>
  refine⟨_,fun p w=>by simp only[doReturn,hq];rfl,rfl,?_,a⟩;dsimp only;split;split;exact b.mode _;exact b.mode _;exact b
def IM(hk:fr.kind≠ .report)(a:p.inits.idxOf? fr.fn=bN)(val:Zv)(w:Zy):doReturn p bL fr [] bN val w= .ended (.done val) w:=by
 have h:∀o:Option Nat,o=bN->(match o with
   |some k=>GStep.go {frame:=bF p (p.initFrom<|k+1) #[] .normal,callers:=[],status:= .running,dying:=bN} w
   |none=>GStep.ended (.done val) w)= .ended (.done val) w:=fun o e=>by rw[e]
 cases hq:fr.kind with
 |report=>exact absurd hq hk
 |_=>simp only[doReturn,hq];exact h _ a
end
end
section
variable {En:Prop} {α β γ:Type} {P:aV} {F:Array Func} {X:Nat->Prop}
def Jw(p:Zp)(fr:Zf)(cs:List Zf)(jump:Option Code)(w:Zy):GStep:=
 match fr.roundOf with
 |none=>if jump matches bN|some .ret then .go {frame:={fr with mode:= .returning},callers:=cs,status:= .running,dying:=bN} w else .ended (.stuck "exit, goto: no such block or label" (fr.pos p)) w
 |some l=>bA (seen p fr.fn<|(Instr.endRound l jump).events p w #[]) (match(Instr.endRound l jump).run p w with
  | .ok v w=>doReturn p bL fr cs bN v w
  | .halt _ w=> .ended (.stuck "range over a function: no such loop" (fr.pos p)) w)
def W3{w v:Zy}(i:Sm P X w v)(f:Xv P fr)(d:∀c∈cs,fK P c)(m:cs=[]->P.inits.idxOf? fr.fn=bN)(b:Option Code)(t:∀c,b=bO c->qn P bK c=bL):
  G3 En P X w v (Jw (wf P F) fr cs b) (Jw P fr cs b v):=by
 unfold Jw;cases hro:fr.roundOf with
 |none=>
  have n:Xv P {fr with mode:= .returning,roundOf:=bN}:=by
   have:=f.mode .returning;rw[hro]at this;exact this
  cases b with
  |none=>exact wU i (fun _=>rfl) rfl fun _=>⟨.inr n,d⟩
  |some c=>
   cases c with
   |ret=>exact wU i (fun _=>rfl) rfl fun _=>⟨.inr n,d⟩
   |_=>exact yS fun _ _ _ e=>by cases e
 |some l=>
  dsimp only;refine K_ (cont':=fun r=>match r with
   | .ok v w=>doReturn (wf P F) bL fr cs bN v w
   | .halt _ w=> .ended (.stuck "range over a function: no such loop" (fr.pos<|wf P F)) w) (cont:=fun r=>match r with
   | .ok v w=>doReturn P bL fr cs bN v w
   | .halt _ w=> .ended (.stuck "range over a function: no such loop" (fr.pos P)) w) (zzi l b t) i (fun r o y h e hd=>?_) fun o y h e hd=>?_
  cases r with
  |halt x w1=>cases e
  |ok a w1=>
   dsimp only at e;cases cs with
   |nil=>rw[IM (p:=wf P F) f.kind.2<|m rfl]at e;cases e
   |cons c cs=>
    obtain⟨q,g,s,k⟩:=QE (cs:=cs) f.kind (d c<|by simp) (fun x j=>d x<|xj _ j) a;rw[g]at e;cases e;exact⟨trivial,rfl,rfl,fun u=>⟨g _ _,g _ _⟩⟩
  cases hr:(Instr.endRound l b).run (wf P F) w with
  |halt x w1=>rw[hr]at e;cases e
  |ok a w1=>
   rw[hr]at e;dsimp only at e;cases cs with
   |nil=>rw[IM (p:=wf P F) f.kind.2<|m rfl]at e;cases e
   |cons c cs=>
    obtain⟨q,g,s,k⟩:=QE (cs:=cs) f.kind (d c<|by simp) (fun x j=>d x<|xj _ j) a;rw[g]at e;cases e;exact k
def Q4{s:Sem γ}(G:B P F X s){w v:Zy}(C:Sm P X w v){K' K:γ->Zy->GStep}{E' E:Zy->GStep}
  (hk:∀a w1 v1,s.run (wf P F) w= .ok a w1->Sm P X w1 v1->G3 En P X w1 v1 (K' a) (K a v1))(J:∀w g' w' es',E' w≠ .go g' w' es'):
  G3 En P X w v (fun w=>bA (seen (wf P F) fn<|s.events (wf P F) w #[]) (match s.run (wf P F) w with| .ok a w=>K' a w| .halt _ w=>E' w))
   (bA (seen P fn<|s.events P v #[]) (match s.run P v with| .ok a w=>K a w| .halt _ w=>E w)):=by
 have inv:∀{h es':Array Event} {st:GStep} {g':Zg} {w':Zy},bA h st= .go g' w' es'->∃c,st= .go g' w' c:=fun {h es' st g' w'} e=>by
  cases st<;>cases e
  exact⟨_,rfl⟩
 cases hr:s.run (wf P F) w with
 |halt x w1=>
  refine yS fun g' w' es' e=>?_;obtain⟨c,b⟩:=inv e;rw[hr]at b;exact J _ _ _ _ b
 |ok a w1=>
  obtain⟨v1,p,g⟩:=G.gJ w v #[] C (by rw[hr];trivial);obtain⟨l1,j,o⟩:=G.loc w C.self (by rw[hr];trivial);rw[hr]at g l1 j o;simp only[rW,Ww]at l1 j o;obtain⟨r,I⟩:=g.run;simp only[Ww]at r;have n:=hk a w1 v1 hr g.sm;refine⟨fun k g' w' es' e hd=>?_,fun g' w' es' e hd=>?_,fun k g' w' es' e hd=>?_⟩;obtain⟨c,b⟩:=inv e;rw[hr]at b;obtain⟨O,h,m,f⟩:=n.zN k _ _ _ b hd;rw[r,I];dsimp only;rw[m];refine⟨O,seen P fn p++h,rfl,f.sm,fun x H=>(f.kept x H).trans<|g.kept x H,fun y L=>?_,xz g.grows f.grows⟩;rcases IE.1 L with z|z
  exact(g.evs y<|mem_seen z).mono f.grows;exact f.evs y z;obtain⟨c,b⟩:=inv e;rw[hr]at b;obtain⟨R,M,N⟩:=n.loc _ _ _ b hd;refine⟨by omega,M.trans j,fun t d D=>?_⟩;have m:=o t d (D.le<|by omega);obtain⟨l,f⟩:=N t (d+(w1.drawn-w.drawn)) (fun i q Q=>by
   have:=D (w1.drawn-w.drawn+i) q (by omega);rw[Ja,this,j,show w.drawn+(w1.drawn-w.drawn+i)=w1.drawn+i by omega])
  refine⟨seen (wf P F) fn (s.events (wf P F) (re w t d) #[])++l,?_⟩;show bA _ (match s.run (wf P F) (re w t d)with| .ok a w=>K' a w| .halt _ w=>E' w)=_;rw[m];dsimp only;rw[f,show d+(w1.drawn-w.drawn)+(w'.drawn-w1.drawn)=d+(w'.drawn-w.drawn) by omega];rfl;obtain⟨c,b⟩:=inv e;rw[hr]at b;exact n.ok k _ _ _ b hd
def YU{it:Item}(h:∀x∈it::k,Y3 P b x):∀x∈k,Y3 P b x:=fun x a=>h x<|by simp[a]
def Xp{it:Item}(h:Y3 P b it)(hk:∀x∈k,Y3 P b x):∀x∈it::k,Y3 P b x:=fun x a=>by
 simp only[xf]at a;rcases a with rfl|a
 exact h;exact hk x a
end
section
variable {En:Prop} {α β γ:Type} {P:aV} {F:Array Func} {X:Nat->Prop}
def EV(s:GStep):bA #[] s=s:=by cases s<;>simp[bA]
def G3.congr{w v:Zy}{a b:Zy->GStep}{c d:GStep}(h:G3 En P X w v b d)(e:∀w,a w=b w)(f:c=d):G3 En P X w v a c:=by
 rw[show a=b from funext e,f];exact h
def zq7(q:Question)(p:Zp)(w:Zy):(choose q).events p w #[]=#[]:=by
 unfold Sem.events choose;simp only[Sem.runT];split<;>rfl
def Jx(p:Zp)(fn:FuncId):seen p fn #[]=#[]:=by simp[seen]
def zz3{j:Option Code}(g:Sm P X w w)(h:(Instr.endLoop l).run p w= .ok j w1):∀c,j=bO c->qn P bK c=bL:=by
 unfold Instr.endLoop at h;obtain⟨r,m,e,a⟩:=jm h;obtain⟨d,rfl⟩:=Ot e;have i:=(g.oks l).loop r d;split at a;obtain⟨_,k,b,_⟩:=jm a;exact absurd b<|Yr _ _ _ _ _;obtain⟨_,k,b,f⟩:=jm a;cases f;exact i.2.2.1
def Km{m:Za}{k:Array Tmp}{a b:Code}{r:Option Nat}{mark:List Deferred}(h:(Instr.enterLoop fn m k a b r).run p w= .ok (l,mark) w1):∀d∈mark,Vn P d.target=bL:=by
 unfold Instr.enterLoop at h;cases r with
 |some l0=>
  dsimp only at h;obtain⟨x,n,i,c⟩:=jm h;obtain⟨y,o,e,f⟩:=jm c;obtain⟨z,q,j,g⟩:=jm f;cases e;cases g;intro d hd;cases hd
 |none=>
  dsimp only at h;obtain⟨x,n,i,c⟩:=jm h;obtain⟨y,o,e,f⟩:=jm c;obtain⟨z,q,j,g⟩:=jm f;cases e;cases g;intro d hd;simp only[jp]at hd;subst hd;rfl
def xmn(H:Fit P F X)(hC:pE P F){w v:Zy}(L:Sm P X w v)(g:Xv P fr)(C:∀c∈cs,fK P c)(hB:cs=[]->P.inits.idxOf? fr.fn=bN)
  (hE:En->qR P F cs.length (bI (wf P F) bL bL fr cs bN w)):
  G3 En P X w v (bI (wf P F) bL bL fr cs bN) (bI P bL bL fr cs bN v):=by
 have Y:=g.items;have G:∀{k':List Item},(∀it∈k',Y3 P fr.roundOf.isNone it)->(∀p w,bI p bL bL fr cs bN w= .go {frame:={fr with todo:=k'},callers:=cs,status:= .running,dying:=bN} w #[])->
   G3 En P X w v (bI (wf P F) bL bL fr cs bN) (bI P bL bL fr cs bN v):=fun hk h=>
  wU L (fun w=>h _ w) (h _ v) fun _=>⟨.inr<|g.todo hk,C⟩
 have W:∀q:Option Code,(∀c,q=bO c->qn P bK c=bL)->(∀p w,bI p bL bL fr cs bN w=Jw p fr cs q w)->
   G3 En P X w v (bI (wf P F) bL bL fr cs bN) (bI P bL bL fr cs bN v):=fun q hj h=>
  (W3 (F:=F) L g C hB q hj).congr (fun w=>h _ w) (h _ v)
 have ap:∀{s:Sem Next},BN P F X s->(∀n x,s.run (wf P F) w= .ok n x->Nx n)->(∀n x,s.run (wf P F) w= .ok n x->vX P n)->(∀p w,bI p bL bL fr cs bN w=bH p bL fr cs bN s w)->
   G3 En P X w v (bI (wf P F) bL bL fr cs bN) (bI P bL bL fr cs bN v):=fun hs hn hk h=>
  (Tw hC L g C hs hn hk<|by rw[<-h];exact hE).congr (fun w=>h _ w) (h _ v)
 cases hto:fr.todo with
 |nil=>
  refine W bN (fun c e=>by cases e) fun p w=>?_;simp only[bI,hto,Jw,zg];rfl
 |cons it k=>
  rw[hto]at Y;have hk:=YU Y;have m:=Y it<|jo ..;cases it with
  |call d b r s=>exact m.elim
  |extern r a=>exact m.elim
  |inBlock id=>exact G hk fun p w=>by simp only[bI,hto]
  |inScope c=>exact G hk fun p w=>by simp only[bI,hto]
  |inLoop c=>exact G (Xp (it:= .code c) m<|Xp (it:= .inLoop c) m hk) fun p w=>by simp only[bI,hto]
  |inRangeFunc l=>exact yS fun _ _ _ e=>by simp only[bI,hto]at e;cases e
  |endRangeFunc l=>
   let ct (p:Zp) (r:Result<|Option Code):GStep:=match r with
    | .ok q w=> .go {frame:={fr with todo:=(q.map Item.code).toList++k},callers:=cs,status:= .running,dying:=bN} w
    | .halt (.panic v) w=> .go {frame:=fr.raise [{v,recovered:=bK}],callers:=cs,status:= .running,dying:=bN} w
    | .halt _ w=> .ended (.stuck "range over a function: no such loop" (fr.pos p)) w
   have e:∀p w,bI p bL bL fr cs bN w=bA (seen p fr.fn<|(Instr.endLoop l).events p w #[]) (ct p<|(Instr.endLoop l).run p w):=fun p w=>by
    simp only[bI,hto,zg];cases(Instr.endLoop l).run p w with
    |ok j w1=>rfl
    |halt x w1=>cases x<;>rfl
   refine(K_ (cont':=ct<|wf P F) (cont:=ct P) (fn:=fr.fn) (GP l) L (fun r Q O I h hd=>?_) fun Q O I h hd=>?_).congr (e _)<|e _ v;cases r with
   |ok j w1=>cases h;exact⟨trivial,rfl,rfl,fun u=>⟨rfl,rfl⟩⟩
   |halt x w1=>
    cases x with
    |panic y=>cases h;exact⟨trivial,rfl,rfl,fun u=>⟨rfl,rfl⟩⟩
    |_=>cases h
   cases U:(Instr.endLoop l).run (wf P F) w with
   |ok j w1=>
    rw[U]at h;cases h;refine⟨.inr<|g.todo fun x z=>?_,C⟩;rcases Je.1 z with z|z
    cases j with
    |none=>cases z
    |some c=>
     simp only[js,Option.toList,jp]at z;subst z;exact tB<|zz3 L.self U c rfl
    exact hk x z
   |halt x w1=>
    rw[U]at h;cases x with
    |panic y=>cases h;exact⟨.inr<|g.raise _,C⟩
    |_=>cases h
  |beginRound=>
   have hb:B P F X<|fr.roundOf.elim (stuck "beginRound: no round") Instr.beginRound:=by
    cases fr.roundOf with
    |none=>exact ja _
    |some l=>exact YE l
   refine ap (s:=fr.roundOf.elim (stuck "beginRound: no round") Instr.beginRound>>=fun _=>pure .skip) (Bl.next<|xp hb fun _=>xr _) (fun n x h=>?_) (fun n x h=>?_) fun p w=>by simp only[bI,hto]
   exact TE h;obtain⟨a,w2,_,R⟩:=jm h;cases R;trivial
  |inRegion ops todo=>
   cases todo with
   |nil=>exact G hk fun p w=>by simp only[bI,hto]
   |cons i rest=>
    cases hw:((ops[i]?).map (Region.wanted · (yielded ops fr.tmps))).getD bK with
    |false=>
     refine wU L (g1:={frame:=fr.finish undef,callers:=cs,status:= .running,dying:=bN}) (fun w=>?_) ?_ fun _=>⟨.inr<|g.finish _,C⟩;simp only[bI,hto,hw];rfl;simp only[bI,hto,hw];rfl
    |true=>
     cases ho:ops[i]?with
     |none=>rw[ho]at hw;cases hw
     |some o=>
      have T:=Wk ho;have J:qM P o.op=bL/\(fr.roundOf.isNone|| !AX o.op)=bL:=by
       have N:rT P fr.roundOf.isNone ops=bL:=m;unfold rT at N;rw[qi]at N;have:=N o T;rw[xl]at this;exact this
      have Z:fr.oper?=bO o:=by simp only[Frame.oper?,hto,ho]
      refine ap (EF H fr.eval o J.1) (fun n x h=>zig H J.1 h) (fun n x h=>sX H J.1 L.self h) fun p w=>?_;simp only[bI,hto,hw,if_true,stepG.oper,Z];split
      rename_i l c hro hdf
      exfalso;rw[hro,hdf]at J;exact absurd J.2 (by simp[AX]);rfl
  |code c=>
   cases c with
   |skip=>exact G hk fun p w=>by simp only[bI,hto]
   |label l=>exact G hk fun p w=>by simp only[bI,hto]
   |ret=>
    refine W (bO .ret) (fun c e=>by cases e;rfl) fun p w=>?_;simp only[bI,hto,Jw,zg];rfl
   |seq a b=>
    simp only[Y3,qn,xl]at m;exact G (Xp (it:= .code a) m.1<|Xp (it:= .code b) m.2 hk) fun p w=>by simp only[bI,hto]
   |block id c=>exact G (Xp (it:= .code c) m<|Xp (it:= .inBlock id) trivial hk) fun p w=>by simp only[bI,hto]
   |loop c=>exact G (Xp (it:= .code c) m<|Xp (it:= .inLoop c) m hk) fun p w=>by simp only[bI,hto]
   |scope c=>exact G (Xp (it:= .code c) m<|Xp (it:= .inScope c) m hk) fun p w=>by simp only[bI,hto]
   |refuse s=>exact yS fun _ _ _ e=>by simp only[bI,hto]at e;cases e
   |cond c a b=>
    simp only[Y3,qn,xl]at m;cases hev:fr.eval c with
    |bool t=>
     refine G (k':= .code (if t then a else b)::k) (Xp ?_ hk) fun p w=>by simp only[bI,hto,hev]
     cases t;exact m.2;exact m.1
    |_=>exact yS fun _ _ _ e=>by simp only[bI,hto,hev]at e;cases e
   |exit id=>
    cases z:exitTo id k with
    |some k'=>exact G (YH hk z) fun p w=>by simp only[bI,hto,z];rfl
    |none=>
     refine W (bO<|.exit id) (fun c e=>by cases e;rfl) fun p w=>?_;simp only[bI,hto,z,Jw,zg];rfl
   |goto l=>
    cases z:gotoIn l k with
    |some k'=>exact G (YM hk z) fun p w=>by simp only[bI,hto,z];rfl
    |none=>
     refine W (bO<|.goto l) (fun c e=>by cases e;rfl) fun p w=>?_;simp only[bI,hto,z,Jw,zg];rfl
   |region id ops draw=>
    cases draw with
    |false=>exact G (Xp (it:= .inRegion ops (List.range ops.size)) m hk) fun p w=>by simp only[bI,hto];rfl
    |true=>
     have e:∀p w,bI p bL bL fr cs bN w=bA (seen p fr.fn<|(choose<|.order fr.fn id).events p w #[]) (match(choose<|.order fr.fn id).run p w with
       | .ok t w=> .go {frame:={fr with todo:= .inRegion ops (Region.schedule (p.follows .mixedOrders) ops t)::k},callers:=cs,status:= .running,dying:=bN} w
       | .halt _ w=> .ended (.stuck "order" (fr.pos p)) w):=fun p w=>by
      rw[zq7,Jx,EV];simp only[bI,hto];rfl
     refine(Q4 (fn:=fr.fn) (Yy<|.order fr.fn id) L (K':=fun t w=> .go {frame:={fr with todo:= .inRegion ops (Region.schedule ((wf P F).follows .mixedOrders) ops t)::k},callers:=cs,status:= .running,dying:=bN} w) (E':=fun w=> .ended (.stuck "order" (fr.pos<|wf P F)) w) (K:=fun t w=> .go {frame:={fr with todo:= .inRegion ops (Region.schedule (P.follows .mixedOrders) ops t)::k},callers:=cs,status:= .running,dying:=bN} w) (E:=fun w=> .ended (.stuck "order" (fr.pos P)) w)
      (fun t w1 v1 _ M=>?_) (fun w Q O I h=>by cases h)).congr (e _)<|e _ v
     exact wU M (fun _=>rfl) rfl fun _=>⟨.inr<|g.todo<|Xp (it:= .inRegion ops _) m hk,C⟩
   |rangeFunc f ps a b=>
    simp only[Y3,qn,xl]at m;let fr' (x:Nat×List Deferred):Zf:={fr with todo:= .inRangeFunc x.1::k,defers:=x.2++fr.defers};let cl (x:Nat×List Deferred):Call:={callee:= .value f,args:=#[.const<|.func (.yield x.1) #[] #[]],argTypes:=#[]};let sm (x:Nat×List Deferred):Sem Next:=resolve (fr' x).eval (cl x) 0>>=fun d=>invoke d.target d.args;have e:∀p w,bI p bL bL fr cs bN w=bA (seen p fr.fn<|(Instr.enterLoop fr.fn fr.tmps ps a b fr.roundOf).events p w #[]) (match(Instr.enterLoop fr.fn fr.tmps ps a b fr.roundOf).run p w with
      | .ok x w=>bH p bL (fr' x) cs bN (sm x) w
      | .halt _ w=> .ended (.stuck "range over a function: no such loop" (fr.pos p)) w):=fun p w=>by
     simp only[bI,hto,zg];cases(Instr.enterLoop fr.fn fr.tmps ps a b fr.roundOf).run p w with
     |ok x w1=>rfl
     |halt x w1=>rfl
    refine(Q4 (F:=F) (fn:=fr.fn) (YJ fr.fn fr.tmps ps a b fr.roundOf m.1 m.2 g.init) L (K':=fun x w=>bH (wf P F) bL (fr' x) cs bN (sm x) w) (E':=fun w=> .ended (.stuck "range over a function: no such loop" (fr.pos<|wf P F)) w) (K:=fun x w=>bH P bL (fr' x) cs bN (sm x) w) (E:=fun w=> .ended (.stuck "range over a function: no such loop" (fr.pos P)) w)
     (fun x w1 v1 z M=>?_) (fun w Q O I h=>by cases h)).congr (fun w=>(e (wf P F) w).trans<|by cases(Instr.enterLoop fr.fn fr.tmps ps a b fr.roundOf).run (wf P F) w<;>rfl)<|(e P v).trans<|by cases(Instr.enterLoop fr.fn fr.tmps ps a b fr.roundOf).run P v<;>rfl
    have hm:=Km (P:=P) (l:=x.1) (mark:=x.2) z;have S:Xv P<|fr' x:=⟨Xp (it:= .inRangeFunc x.1) trivial hk,fun d hd=>by
     rcases Je.1 hd with hd|hd;exact hm d hd;exact g.gI d hd,g.kind,g.init⟩
    have D:ES P (cl x)=bL:=rfl;refine Tw hC M S C (RB (JB _ _ _) (fun w d O U=>Y4 D U) fun d hd=>AU H _ _ hd) (fun n y h=>?_) (fun n y h=>?_) fun en Q O I h=>?_;obtain⟨d,w2,V,R⟩:=jm h;exact yE H (Y4 D V) R;obtain⟨d,w2,V,R⟩:=jm h;obtain rfl:=Lm V;exact ZL H (Y4 D V) M.self R;refine hE en Q O (seen (wf P F) fr.fn ((Instr.enterLoop fr.fn fr.tmps ps a b fr.roundOf).events (wf P F) w #[])++I) ?_;rw[e,z];dsimp only;rw[h];rfl
end
section
variable {En:Prop} {α β γ:Type} {P:aV} {F:Array Func} {X:Nat->Prop}
def o_{c:Prop}[Decidable c]{a b x:α}(h:(if c then a else b)=x):(c/\a=x)\/(¬c/\b=x):=by
 by_cases d:c;rw[aA d]at h;exact .inl ⟨d,h⟩;rw[aB d]at h;exact .inr ⟨d,h⟩
def KU{P1 P2:Zp}{w1 s v2:Zy}{r:Result Next}
  (g:(invoke d.target d.args).run P1 w1=r)(e:(invoke d.target d.args).run P2 s=Ww v2 r)(j:nR r)(t:∀n x,r= .ok n x->Nx n)(p:∀f a x k,r= .ok (.enter f a) x->bF P1 f a k=bF P2 f a k)
{o:Array Event}(h:callDeferred P1 fr cs bN d w1= .go g' w' o)(hd:g'.dying=bN):
  jK r/\w'=rW r/\callDeferred P2 fr cs bN d s= .go g' v2 (seen P2 fr.fn<|(invoke d.target d.args).events P2 s #[]):=by
 unfold callDeferred at h⊢;rcases o_ h with⟨i,h⟩|⟨i,h⟩
 cases h;rw[aB i];cases r with
 |halt hh x=>
  cases hh with
  |panic y=>
   simp only[zg,g]at h;cases h;exact⟨trivial,rfl,by simp[zg,e,Ww,bA]⟩
  |blocked=>exact j.elim
  |waiting=>exact j.elim
  |goexit=>exact j.elim
  |fatal m=>
   exfalso;simp only[zg,g]at h;exact PU h hd
  |throw m=>
   exfalso;simp only[zg,g]at h;exact PV h hd
  |exit c=>simp only[zg,g]at h;cases h
  |stuck m=>simp only[zg,g]at h;cases h
  |unsupported u=>simp only[zg,g]at h;cases h
 |ok n x=>
  have q:=t n x rfl;cases n with
  |value y=>
   simp only[zg,g]at h;cases h;exact⟨trivial,rfl,by simp[zg,e,Ww,bA]⟩
  |skip=>
   simp only[zg,g]at h;cases h;exact⟨trivial,rfl,by simp[zg,e,Ww,bA]⟩
  |defer y=>
   simp only[zg,g]at h;cases h;exact⟨trivial,rfl,by simp[zg,e,Ww,bA]⟩
  |enter f a=>
   simp only[zg,g]at h;cases h;refine⟨trivial,rfl,?_⟩;rw[p f a _ _ rfl];simp[zg,e,Ww,bA]
  |round l f ts a b=>
   simp only[zg,g]at h;cases h;exact⟨trivial,rfl,by simp[zg,e,Ww,bA]⟩
  |recover=>
   simp only[zg,g]at h;cases hm:fr.mode with
   |returning=>
    cases ht:aH fr cs<;>
    ·simp only[hm,ht]at h
     cases h;exact⟨trivial,rfl,by simp[zg,e,Ww,bA]⟩
   |run=>
    simp only[hm]at h;cases h;exact⟨trivial,rfl,by simp[zg,e,Ww,bA]⟩
   |panicking c=>
    simp only[hm]at h;cases h;exact⟨trivial,rfl,by simp[zg,e,Ww,bA]⟩
  |_=>exact q.elim
def xtp(t:pE P F){w:Zy}(g:Xv P fr)(e:∀c∈cs,fK P c)(r:nR<|(invoke d.target d.args).run (wf P F) w)(s:∀n x,(invoke d.target d.args).run (wf P F) w= .ok n x->Nx n)
  (hk:∀n x,(invoke d.target d.args).run (wf P F) w= .ok n x->vX P n)(v:∀f a x,(invoke d.target d.args).run (wf P F) w= .ok (.enter f a) x->Ys P F f)
{o:Array Event}(h:callDeferred (wf P F) fr cs bN d w= .go g' w' o)(hd:g'.dying=bN):nP P g':=by
 have i:∀c∈fr::cs,fK P c:=fun c m=>by
  simp only[xf]at m;rcases m with rfl|m
  exact .inr g;exact e c m
 have j:=(KU (P2:=wf P F) rfl (ET _).symm r s (fun _ _ _ _ _=>rfl) h hd).1;unfold callDeferred at h;rcases o_ h with⟨k,h⟩|⟨k,h⟩
 cases h;cases hr:(invoke d.target d.args).run (wf P F) w with
 |halt hh x=>
  rw[hr]at j;cases hh with
  |panic y=>
   simp only[zg,hr]at h;cases h;exact⟨.inr<|g.raise _,e⟩
  |_=>exact j.elim
 |ok n x=>
  have q:=s n x hr;have p:=hk n x hr;cases n with
  |value y=>simp only[zg,hr]at h;cases h;exact⟨.inr g,e⟩
  |skip=>simp only[zg,hr]at h;cases h;exact⟨.inr g,e⟩
  |defer y=>simp only[zg,hr]at h;cases h;exact⟨.inr g,e⟩
  |enter f a=>
   simp only[zg,hr]at h;cases h;exact⟨JX t (v f a _ hr) a ⟨by simp,by simp⟩,i⟩
  |round l f ts a b=>
   simp only[zg,hr]at h;cases h;exact⟨.inr<|cN p ⟨by simp,by simp⟩,i⟩
  |recover=>
   simp only[zg,hr]at h;cases hm:fr.mode with
   |returning=>
    cases ht:aH fr cs with
    |none=>
     simp only[hm,ht]at h;cases h;exact⟨.inr g,e⟩
    |some y=>
     simp only[hm,ht]at h;cases h;exact⟨.inr g,IA e ht⟩
   |run=>simp only[hm]at h;cases h;exact⟨.inr g,e⟩
   |panicking c=>simp only[hm]at h;cases h;exact⟨.inr g,e⟩
  |_=>exact q.elim
def xtn(H:Fit P F X)(O:pE P F){w v:Zy}(y:Sm P X w v)(D:Xv P fr)(C:∀c∈cs,fK P c)(j:Vn P d.target=bL)
  (Q:En->qR P F cs.length (callDeferred (wf P F) fr cs bN d w)):G3 En P X w v (callDeferred (wf P F) fr cs bN d)<|callDeferred P fr cs bN d v:=by
 have E:=AU H d.target d.args j;have r:∀n x,(invoke d.target d.args).run (wf P F) w= .ok n x->Nx n:=fun n x h=>yE H j h;have g:=E.dZ w y.self;by_cases q:∃m s b,callDeferred (wf P F) fr cs bN d w= .go m s b;rotate_left;exact yS fun m s b e=>q ⟨_,_,_,e⟩;obtain⟨W,Y,L,o⟩:=q;unfold callDeferred at o;rcases o_ o with⟨i,o⟩|⟨i,o⟩
 cases o;have p:En->∀f a x,(invoke d.target d.args).run (wf P F) w= .ok (.enter f a) x->Ys P F f:=fun l f a x e=>by
  have:∃G,callDeferred (wf P F) fr cs bN d w= .go {frame:=bF (wf P F) f a .deferred,callers:=fr::cs,status:= .running,dying:=bN} x G:=by
   unfold callDeferred;rw[aB i];simp only[zg,e];exact⟨_,rfl⟩
  obtain⟨G,h⟩:=this;exact Q l _ _ _ h rfl rfl
 refine⟨fun l m s b h hd=>?_,fun m s b h hd=>?_,fun l m s b h hd=>xtp O D C g r (fun n x e=>ZL H j y.self e) (p l) h hd⟩;have B:=(KU (P2:=wf P F) rfl (ET _).symm g r (fun _ _ _ _ _=>rfl) h hd).1;obtain⟨V,U,I⟩:=E.gJ w v #[] y B fun f a w1 e=>(p l f a w1 e).2;obtain⟨M,N⟩:=I.run;obtain⟨_,z,K⟩:=KU (P1:=wf P F) (P2:=P) (w1:=w) rfl M g r (fun f a x k e=>zdt (p l f a x e).1 a k) h hd;refine⟨V,_,K,?_⟩;rw[z,N];exact I.af.sub fun e p=>mem_seen p;obtain⟨B,z,_⟩:=KU (P2:=wf P F) rfl (ET _).symm g r (fun _ _ _ _ _=>rfl) h hd;obtain⟨l1,S,T⟩:=E.loc w y.self B;rw[z];exact⟨l1,S,fun t J R=>⟨_,(KU (P2:=wf P F) rfl (T t J R) g r (fun _ _ _ _ _=>rfl) h hd).2.2⟩⟩
def znj{b:Nat}{f:List Deferred}(i:Sm P X w w)(h:(Instr.takeDeferred b).run p w= .ok f w1):∀d∈f,Vn P d.target=bL:=by
 unfold Instr.takeDeferred at h;obtain⟨o,k,a,e⟩:=jm h;rw[Jv]at a;cases ho:w.heap[b]?with
 |none=>rw[ho]at a;cases a
 |some o'=>
  rw[ho]at a;have hk:=(i.oks b).calls;rw[ho]at hk;cases o'<;>cases a<;>first|(cases e;done)|skip
  rename_i c
  cases c with
  |none=>cases e
  |some ds'=>
   obtain⟨_,l,j,g⟩:=jm e;cases g;exact hk _ rfl
def QM(fn:Func)(b:Za):B P F X<|aN fn b:=by
 unfold aN;refine xp (Tk _ (fun r=>?_) _) fun c=>xr _;cases r with
 |tmp t=>exact xr _
 |cell a t=>exact xp (iZ.1 _) fun _=>iB.c.1 _ _
def Re(H:Fit P F X)(Y:pE P F){w v:Zy}(D:Sm P X w v)(i:Xv P fr)(l:∀c∈cs,fK P c)(Q:cs=[]->P.inits.idxOf? fr.fn=bN)
  (Z:En->qR P F cs.length (aI (wf P F) bL fr cs bN w)):
  G3 En P X w v (aI (wf P F) bL fr cs bN) (aI P bL fr cs bN v):=by
 cases hdf:fr.defers with
 |cons d ds=>
  have J:Xv P {fr with defers:=ds}:=⟨i.items,fun x q=>i.gI x<|by rw[hdf];exact xj _ q,i.kind,i.init⟩;have hd:=i.gI d (by rw[hdf];exact jo ..);have nc:(∀b,d.target≠ .collected b)->G3 En P X w v (aI (wf P F) bL fr cs bN) (aI P bL fr cs bN v):=fun N=>by
   have e:∀p w,aI p bL fr cs bN w=callDeferred p {fr with defers:=ds} cs bN d w:=fun p w=>by
    unfold aI;rw[hdf];obtain⟨R,S⟩:=d;cases R with
    |collected b=>exact absurd rfl<|N b
    |_=>rfl
   exact(xtn H Y D J l hd<|by rw[<-e];exact Z).congr (fun w=>e _ w)<|e _ v
  cases htg:d.target with
  |collected b=>
   have e:∀p w,aI p bL fr cs bN w=bA (seen p fr.fn<|(Instr.takeDeferred b).events p w #[]) (match(Instr.takeDeferred b).run p w with
     | .ok f w=> .go {frame:={fr with defers:=f++ds},callers:=cs,status:= .running,dying:=bN} w
     | .halt _ w=> .ended (.stuck "the deferred calls of a range-over-func loop have been taken" (fr.pos p)) w):=fun p w=>by
    unfold aI;rw[hdf];obtain⟨R,S⟩:=d;cases htg;simp only[zg];cases(Instr.takeDeferred b).run p w<;>rfl
   refine(Q4 (F:=F) (fn:=fr.fn) (dP.j.j.j.c.1 b) D (K':=fun f w=> .go {frame:={fr with defers:=f++ds},callers:=cs,status:= .running,dying:=bN} w) (E':=fun w=> .ended (.stuck "the deferred calls of a range-over-func loop have been taken" (fr.pos<|wf P F)) w)
    (K:=fun f w=> .go {frame:={fr with defers:=f++ds},callers:=cs,status:= .running,dying:=bN} w) (E:=fun w=> .ended (.stuck "the deferred calls of a range-over-func loop have been taken" (fr.pos P)) w)
    (fun f w1 v1 C M=>?_) (fun w m o g h=>by cases h)).congr (fun w=>(e (wf P F) w).trans<|by cases(Instr.takeDeferred b).run (wf P F) w<;>rfl)<|(e P v).trans<|by cases(Instr.takeDeferred b).run P v<;>rfl
   refine wU M (fun _=>rfl) rfl fun _=>⟨.inr ⟨i.items,fun x q=>?_,i.kind,i.init⟩,l⟩;rcases Je.1 q with q|q
   exact znj D.self C x q;exact J.gI x q
  |_=>exact nc fun b e=>by rw[htg]at e;cases e
 |nil=>
  cases hm:fr.mode with
  |run=>exact yS fun m o g e=>by simp only[aI,hdf,hm]at e;cases e
  |panicking chain=>
   have z:∀p:Zp,fr.catches p=bK:=fun p=>by
    unfold Frame.catches;cases htd:fr.todo with
    |nil=>cases p.funcs[fr.fn]?<;>rfl
    |cons it k=>
     have V:=i.items it (by rw[htd];exact jo ..);cases it with
     |call d b r s=>exact V.elim
     |_=>cases p.funcs[fr.fn]?<;>rfl
   cases cs with
   |cons c cs=>
    refine wU D (g1:={frame:=c.raise chain,callers:=cs,status:= .running,dying:=bN}) (fun w=>?_) ?_ fun _=>⟨(l c<|jo ..).raise _,fun x q=>l x<|xj _ q⟩;simp only[aI,hdf,hm,z];rfl;simp only[aI,hdf,hm,z];rfl
   |nil=>
    cases hgx:chain.head?.any (·.goexit)with
    |true=>
     refine wU D (g1:={frame:=fr,callers:=[],status:= .finished,dying:=bN}) (fun w=>?_) ?_ fun _=>⟨.inr i,l⟩;simp only[aI,hdf,hm,z,hgx];rfl;simp only[aI,hdf,hm,z,hgx];rfl
    |false=>
     refine⟨fun _ m o g e hd=>?_,fun m o g e hd=>?_,fun _ m o g e hd=>?_⟩
     all_goals
      exfalso;simp only[aI,hdf,hm,z,hgx]at e;cases hr:(reportChain chain bK).run (wf P F) w with
      |ok y x=>rw[hr]at e;cases e;cases hd
      |halt y x=>
       rw[hr]at e;cases y<;>cases e
  |returning=>
   have j:=H.res fr.fn;cases hf:P.funcs[fr.fn]?with
   |none=>
    have B:(wf P F).funcs[fr.fn]?=bN:=by
     rw[hf]at j;cases C:F[fr.fn]?with
     |none=>exact C
     |some y=>rw[C]at j;cases j
    cases cs with
    |nil=>
     refine yS fun m o g e=>?_;simp only[aI,hdf,hm,B]at e;rw[IM (p:=wf P F) i.kind.2<|Q rfl]at e;cases e
    |cons c cs=>
     obtain⟨g1,I,W,L⟩:=QE (cs:=cs) i.kind (l c<|jo ..) (fun x q=>l x<|xj _ q)<|fr.tmps.getD 0 undef;refine wU D (g1:=g1) (fun w=>?_) ?_ fun _=>L;simp only[aI,hdf,hm,B];exact I _ _;simp only[aI,hdf,hm,hf];exact I _ _
   |some fn=>
    obtain⟨t,B,O⟩:∃t,(wf P F).funcs[fr.fn]?=bO t/\t.results=fn.results:=by
     rw[hf]at j;cases C:F[fr.fn]?with
     |none=>rw[C]at j;cases j
     |some y=>
      rw[C]at j;exact⟨y,C,by simpa using j⟩
    have G:aN t fr.tmps=aN fn fr.tmps:=by unfold aN;rw[O]
    let ct (p:Zp) (r:Result Zv):GStep:=match r with
     | .ok v w=>doReturn p bL fr cs bN v w
     | .halt (.stuck s) w=> .ended (.stuck s<|fr.pos p) w
     | .halt _ w=> .ended (.stuck "return: the result variables cannot be read" (fr.pos p)) w
    have T:∀w,aI (wf P F) bL fr cs bN w=bA (seen (wf P F) fr.fn<|(aN fn fr.tmps).events (wf P F) w #[]) (ct (wf P F)<|(aN fn fr.tmps).run (wf P F) w):=fun w=>by
     rw[<-G];simp only[aI,hdf,hm,B,zg];cases(aN t fr.tmps).run (wf P F) w with
     |ok a x=>rfl
     |halt y x=>cases y<;>rfl
    have U:aI P bL fr cs bN v=bA (seen P fr.fn<|(aN fn fr.tmps).events P v #[]) (ct P<|(aN fn fr.tmps).run P v):=by
     simp only[aI,hdf,hm,hf,zg];cases(aN fn fr.tmps).run P v with
     |ok a x=>rfl
     |halt y x=>cases y<;>rfl
    have n:∀r m o g,ct (wf P F) r= .go m o g->jK r/\o=rW r/\g=#[]/\(∀u,ct (wf P F) (Ww u r)= .go m u #[]/\ct P (Ww u r)= .go m u #[])/\nP P m:=fun r m o g h=>by
     cases r with
     |halt y x=>cases y<;>cases h
     |ok a x=>
      cases cs with
      |nil=>
       change doReturn (wf P F) bL fr [] bN a x=_ at h;rw[IM (p:=wf P F) i.kind.2<|Q rfl]at h;cases h
      |cons c cs=>
       obtain⟨g1,I,W,L⟩:=QE (cs:=cs) i.kind (l c<|jo ..) (fun x q=>l x<|xj _ q) a;change doReturn (wf P F) bL fr (c::cs) bN a x=_ at h;rw[I]at h;cases h;exact⟨trivial,rfl,rfl,fun u=>⟨I _ _,I _ _⟩,L⟩
    exact(K_ (cont':=ct<|wf P F) (cont:=ct P) (fn:=fr.fn) (QM fn fr.tmps) D (fun r m o g h hd=>⟨(n r m o g h).1,(n r m o g h).2.1,(n r m o g h).2.2.1,(n r m o g h).c.1⟩) fun m o g h hd=>(n _ m o g h).d).congr T U
def LC(H:Fit P F X)(h:pE P F){w v:Zy}(j:Sm P X w v){g:Zg}(k:nP P g)(a:Xv P g.frame)(hd:g.dying=bN)
  (i:En->qR P F g.callers.length (aZ (wf P F) bL g w)):G3 En P X w v (aZ (wf P F) bL g)<|aZ P bL g v:=by
 obtain⟨b,f,st,l,d⟩:=g;cases hd;cases hm:b.mode with
 |run=>
  have e:∀p w,aZ p bL {frame:=b,callers:=f,status:=st,dying:=bN,offers:=d} w=bI p bL bL b f bN w:=fun p w=>by simp[aZ,hm]
  exact(xmn H h j a k.2 (fun _=>a.init)<|by rw[<-e];exact i).congr (fun w=>e _ w)<|e _ v
 |returning=>
  have e:∀p w,aZ p bL {frame:=b,callers:=f,status:=st,dying:=bN,offers:=d} w=aI p bL b f bN w:=fun p w=>by
   unfold aZ;simp[hm]
  exact(Re H h j a k.2 (fun _=>a.init)<|by rw[<-e];exact i).congr (fun w=>e _ w)<|e _ v
 |panicking c=>
  have e:∀p w,aZ p bL {frame:=b,callers:=f,status:=st,dying:=bN,offers:=d} w=aI p bL b f bN w:=fun p w=>by
   unfold aZ;simp[hm]
  exact(Re H h j a k.2 (fun _=>a.init)<|by rw[<-e];exact i).congr (fun w=>e _ w)<|e _ v
end
section
variable {Q:aV} {Stop I:aS->World->Prop}
def jC(Q:Zp)(g:Zg)(w:Zy)(g':Zg)(w':Zy):Prop:=∃es,aZ Q bL g w= .go g' w' es/\g'.dying=bN/\g'.status= .running
def jC.same{g g1 g2:Zg}{w w1 b:Zy}(h:jC Q g w g1 w1)(k:jC Q g w g2 b):g1=g2/\w1=b:=by
 obtain⟨e,d,_⟩:=h;obtain⟨c,a,_⟩:=k;rw[d]at a;cases a;exact⟨rfl,rfl⟩
def vG(Q:Zp)(Stop:Zg->Zy->Prop):Nat->Zg->Zy->Prop
 |0,g,w=>Stop g w
 |n+1,g,w=>Stop g w\/∃g' w',jC Q g w g' w'/\vG Q Stop n g' w'
structure uW(Q:Zp)(Stop I:Zg->Zy->Prop):Prop where
 dN:∀g w t d,Stop g (re w t d)↔Stop g w
 mU:∀g w t d,I g (re w t d)↔I g w
 loc:∀g w,I g w->¬Stop g w->DD w (aZ Q bL g)
 keep:∀g w g' w',I g w->¬Stop g w->jC Q g w g' w'->I g' w'
inductive Cm(Q:Zp)(Stop:Zg->Zy->Prop):Zg->Zy->Prop
 |stop {g:Zg} {w:Zy} (h:Stop g w):Cm Q Stop g w
 |step {g:Zg} {w:Zy} (goes:∀t d,∃g' w',jC Q g (re w t d) g' w') (h:∀t d g' w',jC Q g (re w t d) g' w'->Cm Q Stop g' w'):Cm Q Stop g w
def uW.move(B:uW Q Stop I){g g':Zg}{w w':Zy}{d:Nat}(j:I g w)(l:¬Stop g w)(h:jC Q g (re w t d) g' w'):
  d<=w'.drawn/\w'.tape=t/\∀t' d',(∀i q,i<w'.drawn-d->t' (d'+i) q=t (d+i) q)->jC Q g (re w t' d') g' (re w' t'<|d'+(w'.drawn-d)):=by
 obtain⟨o,c,b,e⟩:=h;obtain⟨l1,m,n⟩:=B.loc g (re w t d) ((B.mU ..).2 j) (fun x=>l<|(B.dN ..).1 x) _ _ _ c b;refine⟨l1,m,fun t' d' k=>?_⟩;obtain⟨a,f⟩:=n t' d' k;exact⟨a,f,b,e⟩
def uW.shift(B:uW Q Stop I):∀(n:Nat) (g:Zg) (w:Zy) (t t':Nat->Question->Nat) (d d':Nat),I g w->(∀i q,t (d+i) q=t' (d'+i) q)->vG Q Stop n g (re w t d)->vG Q Stop n g (re w t' d')
 |0,g,w,t,t',d,d',hI,ha,h=>(B.dN ..).2<|(B.dN ..).1 h
 |n+1,g,w,t,t',d,d',hI,ha,h=>by
  by_cases b:Stop g w;exact .inl<|(B.dN ..).2 b;rcases h with h|⟨c,a,f,j⟩
  exact absurd ((B.dN ..).1 h) b;obtain⟨l1,k,l⟩:=B.move hI b f;have hk:=B.keep g _ c a ((B.mU g w t d).2 hI) (fun x=>b<|(B.dN ..).1 x) f;refine .inr ⟨c,_,l t' d' fun i q m=>(ha i q).symm,?_⟩;have e:re a t a.drawn=a:=by rw[<-k];rfl
  rw[<-e]at j;refine B.shift n c a t t' a.drawn (d'+(a.drawn-d)) hk (fun i q=>?_) j;have:=ha (a.drawn-d+i) q;rw[show d+(a.drawn-d+i)=a.drawn+i by omega,<-Ja]at this;exact this
def uW.next(B:uW Q Stop I){g g':Zg}{w w':Zy}{d:Nat}(c:I g w)(b:¬Stop g w)(l:∀t d,∃n,vG Q Stop n g<|re w t d)(h:jC Q g (re w t d) g' w'):
  ∀t2 d2,∃n,vG Q Stop n g'<|re w' t2 d2:=by
 intro t2 d2;obtain⟨l1,p,o⟩:=B.move c b h;have hk:=B.keep g _ g' w' ((B.mU g w t d).2 c) (fun x=>b<|(B.dN ..).1 x) h;obtain⟨n,a⟩:=l (fun i q=>if i<w'.drawn-d then t (d+i) q else t2 (d2+(i-(w'.drawn-d))) q) 0;cases n with
 |zero=>exact absurd ((B.dN ..).1 a) b
 |succ n=>
  rcases a with a|⟨e,w1,f,j⟩;exact absurd ((B.dN ..).1 a) b;have k:=o (fun i q=>if i<w'.drawn-d then t (d+i) q else t2 (d2+(i-(w'.drawn-d))) q) 0 (fun i q m=>by simp[m]);obtain⟨rfl,rfl⟩:=f.same k;refine⟨n,B.shift n e w' _ t2 (0+(w'.drawn-d)) d2 hk (fun i q=>?_) j⟩;simp only[jy];rw[aB<|by omega,show w'.drawn-d+i-(w'.drawn-d)=i by omega]
structure zI(Q:Zp)(Stop I:Zg->Zy->Prop) where
 g:Zg
 w:Zy
 inv:I g w
 good:∀t d,∃n,vG Q Stop n g<|re w t d
 lost:¬Cm Q Stop g w
def zI.more(B:uW Q Stop I)(s:zI Q Stop I):¬Stop s.g s.w/\∃(t:Nat->Question->Nat) (d:Nat) (s':zI Q Stop I),jC Q s.g (re s.w t d) s'.g s'.w:=by
 have b:¬Stop s.g s.w:=fun h=>s.lost<|.stop h;refine⟨b,?_⟩;apply jr;intro f;refine s.lost<|.step (fun t d=>?_) fun t d e w1 a=>?_;obtain⟨n,c⟩:=s.good t d;cases n with
 |zero=>exact absurd ((B.dN ..).1 c) b
 |succ n=>
  rcases c with c|⟨e,w1,a,j⟩;exact absurd ((B.dN ..).1 c) b;exact⟨e,w1,a⟩
 apply jr;intro i;exact f ⟨t,d,⟨e,w1,B.keep _ _ _ _ ((B.mU s.g s.w t d).2 s.inv) (fun x=>b<|(B.dN ..).1 x) a,B.next s.inv b s.good a,i⟩,a⟩
def uW.bar(B:uW Q Stop I){g:Zg}{w:Zy}(z:I g w)(r:∀t d,∃n,vG Q Stop n g<|re w t d):Cm Q Stop g w:=by
 apply jr;intro F;have ch:∀s:zI Q Stop I,∃x:(Nat->Question->Nat)×Nat×zI Q Stop I,jC Q s.g (re s.w x.1 x.2.1) x.2.2.g x.2.2.w:=fun s=>by
  obtain⟨_,t,d,J,h⟩:=s.more B;exact⟨(t,d,J),h⟩
 let nx:zI Q Stop I->(Nat->Question->Nat)×Nat×zI Q Stop I:=fun s=>Classical.choose<|ch s;have l:∀s,jC Q s.g (re s.w (nx s).1 (nx s).2.1) (nx s).2.2.g (nx s).2.2.w:=fun s=>XZ<|ch s;let st:Nat->zI Q Stop I:=fun i=>Nat.rec ⟨g,w,z,r,F⟩ (fun _ s=>(nx s).2.2) i;have H:∀i,st (i+1)=(nx<|st i).2.2:=fun i=>rfl;let K:Nat->Nat:=fun i=>(st<|i+1).w.drawn-(nx<|st i).2.1;let D:Nat->Nat:=fun i=>Nat.rec 0 (fun j x=>x+K j) i;have k:∀i,D (i+1)=D i+K i:=fun i=>rfl;have a:∀i j,i<=j->D i<=D j:=fun i j h=>by
  induction j with
  |zero=>
       have:i=0:=by omega
       subst this;exact ze _
  |succ j ih=>
   rcases Vi i (j+1)with f|f;exact xz (ih<|by omega) (by rw[k];omega);have:i=j+1:=by omega
   subst this;exact ze _
 have e:∀i j p,D i<=p->p<D (i+1)->D j<=p->p<D (j+1)->i=j:=fun i j p f o M N=>by
  rcases Nat.lt_trichotomy i j with h|h|h;have:=a (i+1) j h;omega;exact h;have:=a (j+1) i h;omega
 classical
 let T:Nat->Question->Nat:=fun p q=>if h:∃i,D i<=p/\p<D (i+1)then(nx<|st<|Classical.choose h).1 ((nx<|st<|Classical.choose h).2.1+(p-D (Classical.choose h))) q else 0
 have C:∀i j q,j<K i->T (D i+j) q=(nx<|st i).1 ((nx<|st i).2.1+j) q:=fun i j q y=>by
  have b:∃i',D i'<=D i+j/\D i+j<D (i'+1):=⟨i,by omega,by rw[k];omega⟩;have v:=XZ b;have E:Classical.choose b=i:=e _ _ _ v.1 v.2 (by omega) (by rw[k];omega);show(if h:∃i',D i'<=D i+j/\D i+j<D (i'+1)then _ else _)=_;rw[dif_pos b,E,show D i+j-D i=j by omega]
 have m:∀i,jC Q (st i).g (re (st i).w T<|D i) (st<|i+1).g<|re (st<|i+1).w T<|D<|i+1:=fun i=>by
  have:=(B.move (st i).inv ((st i).more B).1<|l<|st i).2.2 T (D i) fun j q y=>C i j q y;exact this
 have c:∀n i,¬vG Q Stop n (st i).g (re (st i).w T<|D i):=by
  intro n;induction n with
  |zero=>intro i h;exact((st i).more B).1<|(B.dN ..).1 h
  |succ n ih=>
   intro i h;rcases h with h|⟨L,O,f,o⟩
   exact((st i).more B).1<|(B.dN ..).1 h;obtain⟨rfl,rfl⟩:=f.same<|m i;exact ih (i+1) o
 obtain⟨n,G⟩:=r T 0;exact c n 0 G
end
end
end
section
open Go.Conc
open Go.ConcN (sumTo upd sumTo_upd upd_ne upd_same)
variable [pn:Pn]
section
variable {P:aV} {F:Array Func} {X:Nat->Prop} {Shun:Loc->Prop}
def Sm.re{w v:Zy}(h:Sm P X w v)(t:Nat->Question->Nat)(d:Nat):Sm P X (re w t d)<|re v t d:=⟨h.size,h.out,h.dead,h.oks,rfl,rfl,h.os,h.output,h.pin⟩
end
end
section
open Go.Conc
variable [pn:Pn]
section
variable {w:Zy} {fr:Zf} {l:List Zf} {es:Array Event} {P p:Zp} {End:Zg→Zy→Prop} {g:Zg} {sl:Option<|Nat×Nat} {off:Option<|Array CommCase×CommShape} {f:FuncId} {k:Nat×Nat} {gs:Array Zg} {cs:List Zf} {s a:GStep} {n:List Zf}
section
variable {P Q:aV} {Stop:aS->World->Prop}
def ql{m m1:Machine}{t a:Trace}{r:Stepped×Trace}{K:Nat}:∀{N:Nat},runNT P N m t=(.next m1,a)->runNT P K m1 a=r->runNT P (N+K) m t=r:=by
 intro N;induction N generalizing m t with
 |zero=>intro h hk;simp only[runNT,qg,Stepped.next.injEq]at h;obtain⟨rfl,rfl⟩:=h;simpa using hk
 |succ N ih=>
  intro h hk;rw[show N+1+K=(N+K)+1 by omega];simp only[runNT]at h⊢;split at h;exact ih h hk
  rename_i x e
  simp only[qg]at h;exact absurd h.1<|x m1
abbrev vV:Nat×Nat->Nat×Nat->Prop:=Prod.Lex (·<·) (·<·)
def BO:WellFounded vV:=(Prod.lex Nat.lt_wfRel Nat.lt_wfRel).wf
def Cm.mB(C:Cm Q Stop g w)(Rel:Nat×Nat->Zg->Zy->Machine->Trace->Prop)
  (b:∀k g w m t,Rel k g w m t->¬Stop g w->∃N m' t',runNT P N m t=(.next m',t')/\
   ((∃k',vV k' k/\Rel k' g w m' t')\/∃tp d g' w' k',jC Q g (re w tp d) g' w'/\Rel k' g' w' m' t')):
  ∀k m t,Rel k g w m t->∃N m' t' g' w' k',runNT P N m t=(.next m',t')/\Stop g' w'/\Rel k' g' w' m' t':=by
 induction C with
 | @stop g w h=>intro k m t c;exact⟨0,m,t,g,w,k,rfl,h,c⟩
 | @step g w goes hnext ih=>
  intro k;induction k using BO.induction with
  |_ k ihk=>
   intro m t c;by_cases x:Stop g w;exact⟨0,m,t,g,w,k,rfl,x,c⟩;obtain⟨N,y,z,v,o⟩:=b k g w m t c x;rcases o with⟨k',hk,a⟩|⟨tp,d,B,w1,k',n,a⟩
   obtain⟨e,q,r,f,s,p,i,j,l⟩:=ihk k' hk y z a;exact⟨N+e,q,r,f,s,p,ql v i,j,l⟩;obtain⟨e,q,r,f,s,p,i,j,l⟩:=ih tp d B w1 n k' y z a;exact⟨N+e,q,r,f,s,p,ql v i,j,l⟩
end
section
variable {P:aV} {F:Array Func} {X:Nat->Prop} {cs1 cs2:List Frame}
def Bk:Zf->List Zf->Prop
 |fr,[]=>fr.kind= .normal
 |_,c::l=>Bk c l
def Bk.congr{fr fr':Zf}(h:Bk fr l)(hk:fr'.kind=fr.kind):Bk fr' l:=by
 cases l with
 |nil=>exact hk.trans h
 |cons c l=>exact h
def Vm(fr:Zf)(v:Zv):(fr.finish v).kind=fr.kind:=by
 unfold Frame.finish;split<;>rfl
def IR(fr:Zf)(a:List PanicEntry):(fr.raise a).kind=fr.kind:=by
 unfold Frame.raise;split<;>rfl
def Sw(cs1 cs2:List Zf)(s s2:GStep):Prop:=∀g' w' es',s= .go g' w' es'->g'.dying=bN->cs1.length<=g'.callers.length->∃l',g'.callers=l'++cs1/\Bk g'.frame l'/\s2= .go {g' with callers:=l'++cs2} w' es'
def Ws(h:∀g' w' es',s≠ .go g' w' es'):Sw cs1 cs2 s a:=fun g' w' es' e=>absurd e<|h g' w' es'
def TZ(h:∀g' w' es',s= .go g' w' es'->g'.dying=bN->False):Sw cs1 cs2 s a:=fun g' w' es' e hd=>(h g' w' es' e hd).elim
def Jy{st:GoStatus}{a:Option Dying}(c:Bk fr l):
  Sw cs1 cs2 (.go {frame:=fr,callers:=l++cs1,status:=st,dying:=a,offers:=off} w es) (.go {frame:=fr,callers:=l++cs2,status:=st,dying:=a,offers:=off} w es):=fun d g b e hd f=>by
 cases e;exact⟨l,rfl,c,rfl⟩
def RU{fr a:Zf}{st:GoStatus}{b:Option Dying}(c:Bk a l):
  Sw cs1 cs2 (.go {frame:=fr,callers:=a::(l++cs1),status:=st,dying:=b,offers:=off} w es) (.go {frame:=fr,callers:=a::(l++cs2),status:=st,dying:=b,offers:=off} w es):=Jy (l:=a::l) c
def Ji(es:Array Event)(h:Sw cs1 cs2 s a):Sw cs1 cs2 (bA es s)<|bA es a:=fun k l b e hd i=>by
 cases s with
 |go g w es0=>
  simp only[bA,GStep.go.injEq]at e;obtain⟨rfl,rfl,rfl⟩:=e;obtain⟨j,c,f,d⟩:=h _ _ _ rfl hd i;exact⟨j,c,f,by rw[d];rfl⟩
 |_=>simp[bA]at e
def YC:∀(l:List Zf) (fr:Zf),Bk fr l->
  (aH fr (l++cs1)=bN/\aH fr (l++cs2)=bN)\/∃v l',aH fr (l++cs1)=bO (v,l'++cs1)/\aH fr (l++cs2)=bO (v,l'++cs2)/\∀fr':Zf,fr'.kind=fr.kind->Bk fr' l'
 |[],fr,h=>by
  have f:fr.kind= .normal:=h;left;constructor<;>(unfold aH;simp[f])
 |c::l,fr,h=>by
  have i:=YC l c h;cases hk:fr.kind with
  |deferred=>
   cases hm:c.mode with
   |panicking ch=>
    cases ch with
    |nil=>left;constructor<;>(unfold aH;simp[hk,hm])
    |cons e older=>
     obtain⟨v,r,d⟩:=e;cases r<;>cases d
     right;exact⟨v,{c with mode:= .panicking ({v,recovered:=bL}::older)}::l,by unfold aH;simp[hk,hm],by unfold aH;simp[hk,hm],fun fr' _=>show Bk {c with mode:= .panicking ({v,recovered:=bL}::older)} l from Bk.congr (fr:=c) h rfl⟩
     all_goals left;constructor<;>(unfold aH;simp[hk,hm])
   |_=>left;constructor<;>(unfold aH;simp[hk,hm])
  |wrapped=>
   rcases i with⟨a,b⟩|⟨v,l',a,b,g⟩;left;constructor<;>(unfold aH;simp[hk,a,b])
   right;exact⟨v,c::l',by unfold aH;simp[hk,a],by unfold aH;simp[hk,b],fun fr' _=>g c rfl⟩
  |_=>left;constructor<;>(unfold aH;simp[hk])
def Tg{p:Zp}{s:Sem Next}(hk:fr.kind≠ .early)(k:Bk fr l)(B:p.follows .rangeFuncRecover=bL)
  (i:nR<|s.run p w)(C:∀n x,s.run p w= .ok n x->Nx n):Sw cs1 cs2 (bH p bL fr (l++cs1) bN s w)<|bH p bL fr (l++cs2) bN s w:=by
 have e:(fr.kind==CallKind.early)=bK:=by
  cases hq:fr.kind<;>simp_all
 cases hr:s.run p w with
 |halt hh x=>
  rw[hr]at i;cases hh with
  |panic y=>
   simp only[bH,zg,if_true,hr,e];exact Ji _<|Jy<|k.congr<|IR ..
  |blocked=>exact i.elim
  |waiting=>exact i.elim
  |goexit=>exact i.elim
  |fatal m=>
   simp only[bH,zg,if_true,hr,e];exact TZ fun q t j h hd=>PU h hd
  |throw m=>
   simp only[bH,zg,if_true,hr,e];exact TZ fun q t j h hd=>PV h hd
  |exit c=>
   simp only[bH,zg,if_true,hr,e];exact Ws fun q t j h=>by cases h
  |stuck m=>
   simp only[bH,zg,if_true,hr,e];exact Ws fun q t j h=>by cases h
  |unsupported u=>
   cases u with
   |initOrder g=>exact i.elim
   |_=>
    simp only[bH,zg,if_true,hr,e];exact Ws fun q t j h=>by cases h
 |ok n x=>
  have z:=C n x hr;cases n with
  |value y=>
   simp only[bH,zg,if_true,hr,e];exact Ji _<|Jy<|k.congr<|Vm ..
  |skip=>
   simp only[bH,zg,if_true,hr,e];exact Ji _<|Jy<|k.congr<|Vm ..
  |enter f a=>
   simp only[bH,zg,if_true,hr,e];exact Ji _<|RU k
  |round r f ts a b=>
   simp only[bH,zg,if_true,hr,e];exact Ji _<|RU k
  |defer d=>
   simp only[bH,zg,if_true,hr,e];exact Ji _<|Jy<|k.congr<|Vm ..
  |recover=>
   have o:Sw cs1 cs2 (match aH fr (l++cs1)with
     |some (v,callers)=> .go {frame:=fr.finish v,callers,status:= .running,dying:=bN} x
     |none=> .go {frame:=fr.finish .nilIface,callers:=l++cs1,status:= .running,dying:=bN} x) (match aH fr (l++cs2)with
     |some (v,callers)=> .go {frame:=fr.finish v,callers,status:= .running,dying:=bN} x
     |none=> .go {frame:=fr.finish .nilIface,callers:=l++cs2,status:= .running,dying:=bN} x):=by
    rcases YC (cs1:=cs1) (cs2:=cs2) l fr k with⟨h1,h2⟩|⟨v,l',h1,h2,h3⟩;rw[h1,h2];exact Jy<|k.congr<|Vm ..;rw[h1,h2];exact Jy<|h3 _<|Vm ..
   cases hq:fr.roundOf with
   |none=>
    simp only[bH,zg,if_true,hr,e,hq];exact Ji _ o
   |some r=>
    simp only[bH,zg,if_true,hr,e,hq,B];exact Ji _ o
  |_=>exact z.elim
def YL{p:Zp}(hk:fr.kind≠ .early/\fr.kind≠ .report)(b:Bk fr l)(val:Zv)(w:Zy)(e:l≠[]\/cs1≠[]):
  Sw cs1 cs2 (doReturn p bL fr (l++cs1) bN val w) (doReturn p bL fr (l++cs2) bN val w):=by
 cases l with
 |cons c l=>
  cases hq:fr.kind with
  |early=>exact absurd hq hk.1
  |report=>exact absurd hq hk.2
  |normal=>simp only[jc,doReturn,hq];exact Jy<|Bk.congr (fr:=c) b<|Vm ..
  |wrapped=>simp only[jc,doReturn,hq];exact Jy<|Bk.congr (fr:=c) b<|Vm ..
  |deferred=>
   simp only[jc,doReturn,hq];refine Jy<|Bk.congr (fr:=c) b ?_;split;split<;>rfl
   rfl
 |nil=>
  cases hc:cs1 with
  |nil=>
      rcases e with h|h;exact absurd rfl h;exact absurd hc h
  |cons c cs=>
   intro f g d h hd a;exfalso;cases hq:fr.kind with
   |early=>exact absurd hq hk.1
   |report=>exact absurd hq hk.2
   |normal=>simp only[jk,doReturn,hq]at h;cases h;exact absurd a<|PL _
   |wrapped=>simp only[jk,doReturn,hq]at h;cases h;exact absurd a<|PL _
   |deferred=>simp only[jk,doReturn,hq]at h;cases h;exact absurd a<|PL _
end
section
variable {P:aV} {F:Array Func} {X:Nat->Prop} {cs1 cs2:List Frame}
def Ew{c:Prop}[Decidable c]{a b d b2:GStep}(e:Sw cs1 cs2 a d)(f:Sw cs1 cs2 b b2):Sw cs1 cs2 (if c then a else b) (if c then d else b2):=by
 by_cases h:c;rw[aA h,aA h];exact e;rw[aB h,aB h];exact f
def As{p:Zp}(b:Xv P fr)(c:Bk fr l)(d:cs1≠[])(a:Option Code)(w:Zy):Sw cs1 cs2 (Jw p fr (l++cs1) a w)<|Jw p fr (l++cs2) a w:=by
 unfold Jw;cases fr.roundOf with
 |none=>
  exact Ew (Jy<|c.congr rfl)<|Ws fun _ _ _ e=>by cases e
 |some r=>
  dsimp only;refine Ji _ ?_;cases(Instr.endRound r a).run p w with
  |ok v x=>exact YL b.kind c v x<|.inr d
  |halt y x=>exact Ws fun _ _ _ e=>by cases e
def xmp(H:Fit P F X)(R:Sm P X w w)(q:Xv P fr)(g:Bk fr l)(C:P.follows .rangeFuncRecover=bL)(U:cs1≠[]):
  Sw cs1 cs2 (bI (wf P F) bL bL fr (l++cs1) bN w) (bI (wf P F) bL bL fr (l++cs2) bN w):=by
 have N:=q.items;have I:∀v:Option Code,(∀m,bI (wf P F) bL bL fr m bN w=Jw (wf P F) fr m v w)->
   Sw cs1 cs2 (bI (wf P F) bL bL fr (l++cs1) bN w) (bI (wf P F) bL bL fr (l++cs2) bN w):=fun v h=>by
  rw[h,h];exact As q g U v w
 have Q:∀{s:Sem Next},BN P F X s->(∀n x,s.run (wf P F) w= .ok n x->Nx n)->(∀m,bI (wf P F) bL bL fr m bN w=bH (wf P F) bL fr m bN s w)->
   Sw cs1 cs2 (bI (wf P F) bL bL fr (l++cs1) bN w) (bI (wf P F) bL bL fr (l++cs2) bN w):=fun Y V h=>by
  rw[h,h];exact Tg q.kind.1 g C (Y.dZ w R) V
 cases hto:fr.todo with
 |nil=>
  refine I bN fun m=>?_;simp only[bI,hto,Jw,zg];rfl
 |cons it k=>
  rw[hto]at N;have hk:=YU N;have E:=N it<|jo ..;cases it with
  |call d b r s=>exact E.elim
  |extern r a=>exact E.elim
  |inBlock id=>simp only[bI,hto];exact Jy<|g.congr rfl
  |inScope c=>simp only[bI,hto];exact Jy<|g.congr rfl
  |inLoop c=>simp only[bI,hto];exact Jy<|g.congr rfl
  |inRangeFunc r=>exact Ws fun _ _ _ e=>by simp only[bI,hto]at e;cases e
  |endRangeFunc r=>
   simp only[bI,hto,zg];refine Ji _ ?_;cases(Instr.endLoop r).run (wf P F) w with
   |ok j w1=>exact Jy<|g.congr rfl
   |halt x w1=>
    cases x with
    |panic y=>exact Jy<|g.congr<|IR ..
    |_=>exact Ws fun _ _ _ e=>by cases e
  |beginRound=>
   have g:B P F X<|fr.roundOf.elim (stuck "beginRound: no round") Instr.beginRound:=by
    cases fr.roundOf with
    |none=>exact ja _
    |some l=>exact YE l
   exact Q (s:=fr.roundOf.elim (stuck "beginRound: no round") Instr.beginRound>>=fun _=>pure .skip) (Bl.next<|xp g fun _=>xr _) (fun n x h=>TE h) fun m=>by simp only[bI,hto]
  |inRegion ops todo=>
   cases todo with
   |nil=>simp only[bI,hto];exact Jy<|g.congr rfl
   |cons i rest=>
    cases hw:((ops[i]?).map (Region.wanted · (yielded ops fr.tmps))).getD bK with
    |false=>simp only[bI,hto,hw];exact Jy<|g.congr<|Vm ..
    |true=>
     cases ho:ops[i]?with
     |none=>rw[ho]at hw;cases hw
     |some o=>
      have G:=Wk ho;have z:qM P o.op=bL/\(fr.roundOf.isNone|| !AX o.op)=bL:=by
       have D:rT P fr.roundOf.isNone ops=bL:=E;unfold rT at D;rw[qi]at D;have:=D o G;rw[xl]at this;exact this
      have O:fr.oper?=bO o:=by simp only[Frame.oper?,hto,ho]
      refine Q (EF H fr.eval o z.1) (fun n x h=>zig H z.1 h) fun m=>?_;simp only[bI,hto,hw,if_true,stepG.oper,O];split
      rename_i l c C hdf
      exfalso;rw[C,hdf]at z;exact absurd z.2 (by simp[AX]);rfl
  |code c=>
   cases c with
   |skip=>simp only[bI,hto];exact Jy<|g.congr rfl
   |label l=>simp only[bI,hto];exact Jy<|g.congr rfl
   |ret=>
    refine I (bO .ret) fun m=>?_;simp only[bI,hto,Jw,zg];rfl
   |seq a b=>simp only[bI,hto];exact Jy<|g.congr rfl
   |block id c=>simp only[bI,hto];exact Jy<|g.congr rfl
   |loop c=>simp only[bI,hto];exact Jy<|g.congr rfl
   |scope c=>simp only[bI,hto];exact Jy<|g.congr rfl
   |refuse s=>exact Ws fun _ _ _ e=>by simp only[bI,hto]at e;cases e
   |cond c a b=>
    cases hev:fr.eval c with
    |bool t=>simp only[bI,hto,hev];exact Jy<|g.congr rfl
    |_=>exact Ws fun _ _ _ e=>by simp only[bI,hto,hev]at e;cases e
   |exit id=>
    cases hx:exitTo id k with
    |some k'=>simp only[bI,hto,hx];exact Jy<|g.congr rfl
    |none=>
     refine I (bO<|.exit id) fun m=>?_;simp only[bI,hto,hx,Jw,zg];rfl
   |goto r=>
    cases hx:gotoIn r k with
    |some k'=>simp only[bI,hto,hx];exact Jy<|g.congr rfl
    |none=>
     refine I (bO<|.goto r) fun m=>?_;simp only[bI,hto,hx,Jw,zg];rfl
   |region id ops draw=>
    cases draw with
    |false=>simp only[bI,hto];exact Jy<|g.congr rfl
    |true=>
     simp only[bI,hto];cases hq:(choose<|.order fr.fn id).run (wf P F) w with
     |ok t x=>exact Jy<|g.congr rfl
     |halt y x=>exact Ws fun _ _ _ e=>by cases e
   |rangeFunc f ps a b=>
    simp only[Y3,qn,xl]at E;let fr' (x:Nat×List Deferred):Zf:={fr with todo:= .inRangeFunc x.1::k,defers:=x.2++fr.defers};let cl (x:Nat×List Deferred):Call:={callee:= .value f,args:=#[.const<|.func (.yield x.1) #[] #[]],argTypes:=#[]};let sm (x:Nat×List Deferred):Sem Next:=resolve (fr' x).eval (cl x) 0>>=fun d=>invoke d.target d.args;have e:∀m,bI (wf P F) bL bL fr m bN w=bA (seen (wf P F) fr.fn<|(Instr.enterLoop fr.fn fr.tmps ps a b fr.roundOf).events (wf P F) w #[]) (match(Instr.enterLoop fr.fn fr.tmps ps a b fr.roundOf).run (wf P F) w with
      | .ok x w=>bH (wf P F) bL (fr' x) m bN (sm x) w
      | .halt _ w=> .ended (.stuck "range over a function: no such loop" (fr.pos<|wf P F)) w):=fun m=>by
     simp only[bI,hto,zg];cases(Instr.enterLoop fr.fn fr.tmps ps a b fr.roundOf).run (wf P F) w with
     |ok x w1=>rfl
     |halt x w1=>rfl
    rw[e,e];refine Ji _ ?_;have K:=YJ (P:=P) (F:=F) (X:=X) fr.fn fr.tmps ps a b fr.roundOf E.1 E.2 q.init;cases hq:(Instr.enterLoop fr.fn fr.tmps ps a b fr.roundOf).run (wf P F) w with
    |halt y x=>exact Ws fun _ _ _ e=>by cases e
    |ok x w1=>
     have p:ES P (cl x)=bL:=rfl;obtain⟨v',Z,M⟩:=K.gJ w w #[] R (by rw[hq];trivial);have J:Sm P X w1 w1:=by
      have:=M.sm.self;rw[hq]at this;exact this
     have L:BN P F X<|sm x:=RB (JB _ _ _) (fun w d w' W=>Y4 p W) fun d hd=>AU H _ _ hd;refine Tg (fr:=fr' x) q.kind.1 (g.congr rfl) C (L.dZ w1 J) fun n y h=>?_;obtain⟨d,w2,S,T⟩:=jm h;exact yE H (Y4 p S) T
def xtq(H:Fit P F X)(s:Sm P X w w)(j:Bk fr l){d:Deferred}(k:Vn P d.target=bL):
  Sw cs1 cs2 (callDeferred (wf P F) fr (l++cs1) bN d w) (callDeferred (wf P F) fr (l++cs2) bN d w):=by
 have z:=AU H d.target d.args k;have t:∀n x,(invoke d.target d.args).run (wf P F) w= .ok n x->Nx n:=fun n x h=>yE H k h;have i:=z.dZ w s;unfold callDeferred;refine Ew (Ws fun _ _ _ e=>by cases e) ?_;simp only[zg];cases hr:(invoke d.target d.args).run (wf P F) w with
 |halt y x=>
  rw[hr]at i;cases y with
  |panic y=>exact Ji _<|Jy<|j.congr<|IR ..
  |blocked=>exact i.elim
  |waiting=>exact i.elim
  |goexit=>exact i.elim
  |fatal m=>exact TZ fun q B o h hd=>PU h hd
  |throw m=>exact TZ fun q B o h hd=>PV h hd
  |exit c=>exact Ws fun _ _ _ e=>by cases e
  |stuck m=>exact Ws fun _ _ _ e=>by cases e
  |unsupported u=>
   cases u with
   |initOrder g=>exact i.elim
   |_=>exact Ws fun _ _ _ e=>by cases e
 |ok n x=>
  have p:=t n x hr;cases n with
  |value y=>exact Ji _<|Jy j
  |skip=>exact Ji _<|Jy j
  |enter f a=>exact Ji _<|RU j
  |round r f ts a b=>exact Ji _<|RU j
  |defer d=>exact Ji _<|Jy j
  |recover=>
   refine Ji _ ?_;dsimp only;rcases YC (cs1:=cs1) (cs2:=cs2) l fr j with⟨h1,h2⟩|⟨v,l',h1,h2,h3⟩
   rw[h1,h2];cases fr.mode<;>exact Jy j
   rw[h1,h2];cases fr.mode;exact Jy j;exact Jy<|h3 _ rfl;exact Jy j
  |_=>exact p.elim
def Sq(H:Fit P F X)(z:Sm P X w w)(f:Xv P fr)(h:Bk fr l)(m:cs1≠[]):
  Sw cs1 cs2 (aI (wf P F) bL fr (l++cs1) bN w) (aI (wf P F) bL fr (l++cs2) bN w):=by
 cases hdf:fr.defers with
 |cons d ds=>
  have hd:=f.gI d (by rw[hdf];exact jo ..);have C:(∀b,d.target≠ .collected b)->Sw cs1 cs2 (aI (wf P F) bL fr (l++cs1) bN w) (aI (wf P F) bL fr (l++cs2) bN w):=fun n=>by
   have e:∀g,aI (wf P F) bL fr g bN w=callDeferred (wf P F) {fr with defers:=ds} g bN d w:=fun g=>by
    unfold aI;rw[hdf];obtain⟨o,q⟩:=d;cases o with
    |collected b=>exact absurd rfl<|n b
    |_=>rfl
   rw[e,e];exact xtq H z (fr:={fr with defers:=ds}) (h.congr rfl) hd
  cases htg:d.target with
  |collected b=>
   have e:∀g,aI (wf P F) bL fr g bN w=bA (seen (wf P F) fr.fn<|(Instr.takeDeferred b).events (wf P F) w #[]) (match(Instr.takeDeferred b).run (wf P F) w with
     | .ok calls w=> .go {frame:={fr with defers:=calls++ds},callers:=g,status:= .running,dying:=bN} w
     | .halt _ w=> .ended (.stuck "the deferred calls of a range-over-func loop have been taken" (fr.pos<|wf P F)) w):=fun g=>by
    unfold aI;rw[hdf];obtain⟨o,q⟩:=d;cases htg;simp only[zg];cases(Instr.takeDeferred b).run (wf P F) w<;>rfl
   rw[e,e];refine Ji _ ?_;cases(Instr.takeDeferred b).run (wf P F) w with
   |ok a x=>exact Jy<|h.congr rfl
   |halt y x=>exact Ws fun _ _ _ e=>by cases e
  |_=>exact C fun b e=>by rw[htg]at e;cases e
 |nil=>
  cases hm:fr.mode with
  |run=>exact Ws fun t D j e=>by simp only[aI,hdf,hm]at e;cases e
  |panicking chain=>
   have i:∀p:Zp,fr.catches p=bK:=fun p=>by
    unfold Frame.catches;cases htd:fr.todo with
    |nil=>cases p.funcs[fr.fn]?<;>rfl
    |cons it k=>
     have v:=f.items it (by rw[htd];exact jo ..);cases it with
     |call d b r s=>exact v.elim
     |_=>cases p.funcs[fr.fn]?<;>rfl
   cases l with
   |cons c l=>
    simp only[aI,hdf,hm,i,jc];exact Jy<|Bk.congr (fr:=c) h<|IR ..
   |nil=>
    cases h1:cs1 with
    |nil=>exact absurd h1 m
    |cons c g=>
     intro t D j e hd B;simp only[aI,hdf,hm,i,jk]at e;cases e;exact absurd B<|PL _
  |returning=>
   cases hf:(wf P F).funcs[fr.fn]?with
   |none=>
    simp only[aI,hdf,hm,hf];exact YL f.kind h _ w<|.inr m
   |some fn=>
    simp only[aI,hdf,hm,hf,zg];refine Ji _ ?_;cases(aN fn fr.tmps).run (wf P F) w with
    |ok a x=>exact YL f.kind h a x<|.inr m
    |halt y x=>
     cases y<;>exact Ws fun _ _ _ e=>by cases e
def Bp(H:Fit P F X)(h:Sm P X w w)(d:Xv P g.frame)(hd:g.dying=bN)(m:g.callers=l++cs1)(i:Bk g.frame l)(k:P.follows .rangeFuncRecover=bL)(j:cs1≠[]):
  Sw cs1 cs2 (aZ (wf P F) bL g w) (aZ (wf P F) bL {g with callers:=l++cs2} w):=by
 obtain⟨b,a,st,n,f⟩:=g;cases hd;cases m;cases hm:b.mode with
 |run=>
  have e:∀a,aZ (wf P F) bL {frame:=b,callers:=a,status:=st,dying:=bN,offers:=f} w=bI (wf P F) bL bL b a bN w:=fun a=>by simp[aZ,hm]
  rw[e,e];exact xmp H h d i k j
 |returning=>
  have e:∀a,aZ (wf P F) bL {frame:=b,callers:=a,status:=st,dying:=bN,offers:=f} w=aI (wf P F) bL b a bN w:=fun a=>by
   unfold aZ;simp[hm]
  rw[e,e];exact Sq H h d i j
 |panicking c=>
  have e:∀a,aZ (wf P F) bL {frame:=b,callers:=a,status:=st,dying:=bN,offers:=f} w=aI (wf P F) bL b a bN w:=fun a=>by
   unfold aZ;simp[hm]
  rw[e,e];exact Sq H h d i j
end
section
variable {P:aV} {F:Array Func} {X:Nat->Prop} {cs1 cs2:List Frame} {J:Nat×Nat->Array aS->World->Trace->Prop}
structure BD(P:Zp)(X:ZP)(J:Nat×Nat->Array Zg->Zy->Trace->Prop):Prop where
 awake:∀k gs v t,J k gs v t->∀(i:Nat) g,0<i->gs[i]?=bO g->awake g
 drawn:∀k gs v t d,J k gs v t->J k gs (v.at d) t
 other:∀k gs v t (i:Nat) g g0 sl,J k gs v t->0<i->gs[i]?=bO g->g.status= .running->gs[0]?=bO g0->g0.status= .running->g0.dying=bN->
  ∃gs' v' sl' ops k',runT P (crowd gs v sl) i=(.next<|crowd gs' v' sl',ops)/\vV k' k/\gs'[0]?=bO g0/\J k' gs' v' (t++ops)/\∀w,Sm P X (re w v.tape v.drawn) v->Sm P X (re w v'.tape v'.drawn) v'
 own:∀k gs v t g0 g' v' es,J k gs v t->gs[0]?=bO g0->aZ P bL g0 v= .go g' v' es->g0.status= .running->g'.status= .running->(∀x,X x->v'.heap[x]?=v.heap[x]?)->(∀e∈es,qI X v'.heap.size e)->v.heap.size<=v'.heap.size->
  J k ((gs.map<|woken P g0 g' v').setIfInBounds 0 g') v' (t++bD 0 g0.frame.fn g0.frame.place es)
structure Duo(P:Zp)(X:ZP)(cs1 cs2:List Zf)(g:Zg)(w:Zy)(g2:Zg)(v:Zy):Prop where
 top:∃l,g.callers=l++cs1/\g2={g with callers:=l++cs2}/\((cs1=[]/\cs2=[])\/(cs1≠[]/\Bk g.frame l))
 run:g.status= .running
 dy:g.dying=bN
 ok1:nP P g
 ok2:nP P g2
 sm:Sm P X (re w v.tape v.drawn) v
def zip(E:BD P X J){v w:Zy}{t:Trace}{g g2:Zg}
  (e:Duo P X cs1 cs2 g w g2 v)
  (T:∀d,Sm P X (re w v.tape d) (v.at d)->∃g' w' l' v1 es,jC (wf P F) g (re w v.tape d) g' w'/\g'.callers=l'++cs1/\((cs1=[]/\cs2=[])\/(cs1≠[]/\Bk g'.frame l'))/\aZ P bL g2 (v.at d)= .go {g' with callers:=l'++cs2} v1 es/\Af P X (v.at d) w' v1 es/\nP P g'/\nP P {g' with callers:=l'++cs2})
  (R:J k gs v t)(q:gs[0]?=bO g2):
  ∃gs' v' sl' t',runNT P 1 (crowd gs v sl) t=(.next<|crowd gs' v' sl',t')/\
   ((∃k',vV k' k/\J k' gs' v' t'/\gs'[0]?=bO g2/\Duo P X cs1 cs2 g w g2 v')\/
    ∃tp d g' w' g2',jC (wf P F) g (re w tp d) g' w'/\J k gs' v' t'/\gs'[0]?=bO g2'/\Duo P X cs1 cs2 g' w' g2' v'/\v.heap.size<=v'.heap.size/\∀x,X x->v'.heap[x]?=v.heap[x]?):=by
 obtain⟨l,U,j,z⟩:=e.top;have a:g2.status= .running:=by rw[j];exact e.run
 have y:g2.dying=bN:=by rw[j];exact e.dy
 have I:∀g∈gs,awake g:=by
  intro f h;obtain⟨i,m,rfl⟩:=Z1.1 h;rcases jl i with rfl|b
  have:gs[0]=g2:=by simpa[xg m]using q
  rw[this];exact awake_of<|.inl a;exact E.awake k gs v t R i _ b<|xg m
 obtain⟨i,f,d,sl',m,h,D⟩:=crowd_pick (P:=P) (w:=v) (sl:=sl) I ⟨0,g2,q,a⟩;have r:=E.drawn k gs v t d R;have s:Sm P X (re w v.tape d)<|v.at d:=e.sm.re v.tape d;rcases jl i with rfl|b
 obtain rfl:f=g2:=by rw[q]at m;exact(jf m).symm
 obtain⟨g',w1,l',v1,es,⟨H,S,O,G⟩,K,n,Q,c,B,C⟩:=T d s;have o:=runT_crowd_go (P:=P) (sl:=sl') (i:=0) m (show aZ P (0==0) f (v.at d)=_ from Q);have L:0<gs.size:=(za.1 q).1;have p:re w1 v1.tape v1.drawn=w1:=by rw[c.sm.tape,c.sm.drawn];rfl
 refine⟨_,v1,sl',t++bD 0 f.frame.fn f.frame.place es,by simp only[runNT,D,o],.inr ⟨v.tape,d,g',w1,{g' with callers:=l'++cs2},⟨H,S,O,G⟩,
  E.own k gs (v.at d) t f _ v1 es r q Q a G c.kept c.evs c.grows,by simp[L],⟨⟨l',K,rfl,n⟩,G,O,B,C,by rw[p];exact c.sm⟩,c.grows,c.kept⟩⟩
 obtain⟨gs',v',N,M,k',V,W,Y,Z,r5⟩:=E.other k gs (v.at d) t i f g2 sl' r b m h q a y;exact⟨gs',v',N,t++M,by simp only[runNT,D,V],.inl ⟨k',W,Z,Y,⟨⟨l,U,j,z⟩,e.run,e.dy,e.ok1,e.ok2,r5 w s⟩⟩⟩
def Md(U:BD P X J)(H:Fit P F X)(Q:pE P F)(N:P.follows .rangeFuncRecover=bL){v w:Zy}{t:Trace}{g g2:Zg}
  (j:Duo P X cs1 cs2 g w g2 v)(K:Xv P g.frame)(s:∀t d,∃g' w',jC (wf P F) g (re w t d) g' w'/\cs1.length<=g'.callers.length)(R:∀t d,qR P F g.callers.length<|aZ (wf P F) bL g<|re w t d)
  (hJ:J k gs v t)(h0:gs[0]?=bO g2):
  ∃gs' v' sl' t',runNT P 1 (crowd gs v sl) t=(.next<|crowd gs' v' sl',t')/\
   ((∃k',vV k' k/\J k' gs' v' t'/\gs'[0]?=bO g2/\Duo P X cs1 cs2 g w g2 v')\/
    ∃tp d g' w' g2',jC (wf P F) g (re w tp d) g' w'/\J k gs' v' t'/\gs'[0]?=bO g2'/\Duo P X cs1 cs2 g' w' g2' v'/\v.heap.size<=v'.heap.size/\∀x,X x->v'.heap[x]?=v.heap[x]?):=by
 refine zip U j (fun d m=>?_) hJ h0;obtain⟨l,E,h,D⟩:=j.top;have y:g2.dying=bN:=by rw[h];exact j.dy
 have z:g2.frame=g.frame:=by rw[h]
 obtain⟨g',w1,M,C⟩:=s v.tape d;obtain⟨i,q,r,Z⟩:=M;have O:∃o,g'.callers=o++cs1/\((cs1=[]/\cs2=[])\/(cs1≠[]/\Bk g'.frame o))/\aZ (wf P F) bL g2 (re w v.tape d)= .go {g' with callers:=o++cs2} w1 i:=by
  rcases D with⟨p,G⟩|⟨p,hb⟩;refine⟨g'.callers,by rw[p,Xq],.inl ⟨p,G⟩,?_⟩;have:g2=g:=by
   rw[h,G,Xq];rw[p,Xq]at E;rw[<-E]
  rw[this,q,G,Xq];obtain⟨o,V,W,Y⟩:=Bp (cs2:=cs2) H m.self K j.dy E hb N p _ _ _ q r C;exact⟨o,V,.inr ⟨p,W⟩,by rw[h];exact Y⟩
 obtain⟨o,B,n,f⟩:=O;have I:qR P F g2.callers.length<|aZ (wf P F) bL g2<|re w v.tape d:=fun a b c e T hr=>by
  rw[f]at e;cases e;refine R v.tape d g' w1 i q ?_ hr;have q1:g2.callers=l++cs2:=by rw[h]
  rw[q1]at T;simp only[zj]at T;rw[B,E];simp only[zj];omega
 have S:=LC (En:=True) H Q m j.ok2 (by rw[z];exact K) y fun _=>I;have L:=LC (En:=True) H Q m.self j.ok1 K j.dy fun _=>R v.tape d;obtain⟨v1,es,f1,f2⟩:=S.zN trivial _ _ _ f r;exact⟨g',w1,o,v1,es,⟨i,q,r,Z⟩,B,n,f1,f2,L.ok trivial _ _ _ q r,S.ok trivial _ _ _ f r⟩
end
section
variable {P:aV} {F:Array Func} {X:Nat->Prop} {cs:List Frame}
def T_(cs:List Zf)(g':Zg):Prop:=∀c l,cs=c::l->g'.callers.length=l.length->(∃v,g'.frame=c.finish v)\/∃m,g'.frame={c with mode:=m}
def Low(P:Zp)(cs:List Zf)(g':Zg):Prop:=(∀c∈cs,Xv P c)->∀c∈g'.callers,Xv P c
def Kd(P p:Zp)(cs:List Zf)(s:GStep):Prop:=(∃g' w' es,s= .go g' w' es/\g'.dying=bN/\g'.status= .running/\g'.offers=bN/\(g'.callers.length=cs.length+1->g'.frame.roundOf=bN->∃f a k,(k≠ .early/\k≠ .report)/\g'.frame=bF p f a k)/\T_ cs g'/\cs.length<=g'.callers.length+1/\Low P cs g')\/∃o w' es,s= .ended o w' es
def UF{g':Zg}(h:g'.callers.length+1≠cs.length):T_ cs g':=fun c l e a=>absurd (by rw[e,a];rfl) h
def Vb{a:List Zf}:Kd P p a<|.go {frame:=fr,callers:=a,status:= .running,dying:=bN} w es:= .inl ⟨_,_,_,rfl,rfl,rfl,rfl,fun e=>absurd e<|by simp only;omega,UF<|by simp only;omega,by simp only;omega,fun h=>h⟩
def UB{c fr:Zf}(h:(∃v,fr=c.finish v)\/∃m,fr={c with mode:=m}):Kd P p (c::l)<|.go {frame:=fr,callers:=l,status:= .running,dying:=bN} w es:=
 .inl ⟨_,_,_,rfl,rfl,rfl,rfl,fun e=>absurd e<|by simp only[zh];omega,fun b l1 e _=>(by cases e;exact h),by simp only[zh];omega,fun h c a=>h c<|xj _ a⟩
def Uv{P:Zp}{a:List Zf}{fr b:Zf}(e:Xv P b):Low P a {frame:=fr,callers:=b::a,status:= .running,dying:=bN}:=fun h c d=>by
 simp only[xf]at d;rcases d with rfl|d
 exact e;exact h c d
def Uq{b:List Zf}{a:Za}{k:CallKind}{c:Zf}(d:Xv P c)(hk:k≠ .early/\k≠ .report):Kd P p b<|.go {frame:=bF p f a k,callers:=c::b,status:= .running,dying:=bN} w es:= .inl ⟨_,_,_,rfl,rfl,rfl,rfl,fun _ _=>⟨f,a,k,hk,rfl⟩,UF<|by simp only[zh];omega,by simp only[zh];omega,Uv d⟩
def Ur{c:List Zf}{r:Nat}{h:Za}{a b:Code}{k:CallKind}{d:Zf}(g:Xv P d):Kd P p c<|.go {frame:=Frame.round r f h a b k,callers:=d::c,status:= .running,dying:=bN} w es:= .inl ⟨_,_,_,rfl,rfl,rfl,rfl,fun _ e=>(by cases e),UF<|by simp only[zh];omega,by simp only[zh];omega,Uv g⟩
def Kw:∀{cs cs':List Zf} {fr:Zf} {v:Zv},aH fr cs=bO (v,cs')->cs'.length=cs.length
 |[],cs',fr,v,e=>by
  unfold aH at e;split at e<;>simp_all
 |c::cs,cs',fr,v,e=>by
  unfold aH at e;split at e
  rename_i h1 h2
  cases h2;split at e;cases e;rfl;cases e
  rename_i h1 h2
  cases h2;obtain⟨⟨f,a⟩,b,d⟩:=zt.1 e;cases d;simp[Kw b];cases e
def Kr{P:Zp}:∀{cs cs':List Zf} {fr:Zf} {v:Zv},(∀c∈cs,Xv P c)->aH fr cs=bO (v,cs')->∀c∈cs',Xv P c
 |[],cs',fr,v,h,e=>by
  unfold aH at e;split at e<;>simp_all
 |c::cs,cs',fr,v,h,e=>by
  unfold aH at e;split at e
  rename_i caller rest hk e1
  cases e1;split at e;cases e;intro x a;simp only[xf]at a;rcases a with rfl|a
  exact(h c<|by simp).mode _;exact h x (by simp[a]);cases e
  rename_i wrapper rest hk e1
  cases e1;cases ht:aH c cs with
  |none=>rw[ht]at e;cases e
  |some y=>
   rw[ht]at e;cases e;intro x a;simp only[xf]at a;rcases a with rfl|a
   exact h _ (by simp);exact Kr (fun z b=>h z<|by simp[b]) ht x a
  cases e
def Ed{a cs:List Zf}{fr b:Zf}{v:Zv}(h:aH b a=bO (v,cs)):Kd P p a<|.go {frame:=fr,callers:=cs,status:= .running,dying:=bN} w es:=by
 have d:=Kw h;exact .inl ⟨_,_,_,rfl,rfl,rfl,rfl,fun e=>absurd e<|by simp only;omega,UF<|by simp only;omega,by simp only;omega,fun c=>Kr c h⟩
def Wo{o:Outcome}:Kd P p n<|.ended o w es:= .inr ⟨_,_,_,rfl⟩
def Jg{s:GStep}(es:Array Event)(h:Kd P p n s):Kd P p n<|bA es s:=by
 rcases h with⟨e,d,a,rfl,b,c⟩|⟨o,d,a,rfl⟩;exact .inl ⟨_,_,_,rfl,b,c⟩;exact .inr ⟨_,_,_,rfl⟩
def Ec{c:Prop}[Decidable c]{a b:GStep}(d:Kd P p n a)(e:Kd P p n b):Kd P p n (if c then a else b):=by
 by_cases h:c;rw[aA h];exact d;rw[aB h];exact e
def Tf{p:Zp}{s:Sem Next}(i:Xv P fr)(hk:fr.kind≠ .early)(l:p.follows .rangeFuncRecover=bL)
  (h:nR<|s.run p w)(o:∀n x,s.run p w= .ok n x->Nx n):Kd P p cs<|bH p bL fr cs bN s w:=by
 have e:(fr.kind==CallKind.early)=bK:=by
  cases hq:fr.kind<;>simp_all
 cases hr:s.run p w with
 |halt hh x=>
  rw[hr]at h;cases hh with
  |panic y=>
   simp only[bH,zg,if_true,hr,e];exact Jg _ Vb
  |blocked=>exact h.elim
  |waiting=>exact h.elim
  |goexit=>exact h.elim
  |fatal m=>
   simp only[bH,zg,if_true,hr,e];exact h.elim
  |throw m=>
   simp only[bH,zg,if_true,hr,e];exact h.elim
  |exit c=>
   simp only[bH,zg,if_true,hr,e];exact Wo
  |stuck m=>
   simp only[bH,zg,if_true,hr,e];exact Wo
  |unsupported u=>
   cases u with
   |initOrder g=>exact h.elim
   |_=>
    simp only[bH,zg,if_true,hr,e];exact Wo
 |ok n x=>
  have k:=o n x hr;cases n with
  |value y=>
   simp only[bH,zg,if_true,hr,e];exact Jg _ Vb
  |skip=>
   simp only[bH,zg,if_true,hr,e];exact Jg _ Vb
  |enter f a=>
   simp only[bH,zg,if_true,hr,e];exact Jg _<|Uq i (by(split<;>simp))
  |round r f ts a b=>
   simp only[bH,zg,if_true,hr,e];exact Jg _<|Ur i
  |defer d=>
   simp only[bH,zg,if_true,hr,e];exact Jg _ Vb
  |recover=>
   have j:Kd P p cs (match aH fr cs with
     |some (v,callers)=> .go {frame:=fr.finish v,callers,status:= .running,dying:=bN} x
     |none=> .go {frame:=fr.finish .nilIface,callers:=cs,status:= .running,dying:=bN} x):=by
    cases hy:aH fr cs with
    |none=>exact Vb
    |some y=>exact Ed hy
   cases hq:fr.roundOf with
   |none=>
    simp only[bH,zg,if_true,hr,e,hq];exact Jg _ j
   |some r=>
    simp only[bH,zg,if_true,hr,e,hq,l];exact Jg _ j
  |_=>exact k.elim
def YK{p:Zp}(hk:fr.kind≠ .early/\fr.kind≠ .report)(val:Zv)(w:Zy)(a:cs≠[]):
  Kd P p cs (doReturn p bL fr cs bN val w):=by
 cases cs with
 |nil=>exact absurd rfl a
 |cons c l=>
  cases hq:fr.kind with
  |early=>exact absurd hq hk.1
  |report=>exact absurd hq hk.2
  |normal=>simp only[doReturn,hq];exact UB<|.inl ⟨val,rfl⟩
  |wrapped=>simp only[doReturn,hq];exact UB<|.inl ⟨val,rfl⟩
  |deferred=>
   simp only[doReturn,hq];refine UB<|.inr ?_;split;split;exact⟨_,rfl⟩;exact⟨_,rfl⟩;exact⟨c.mode,rfl⟩
def An{p:Zp}(b:Xv P fr)(c:cs≠[])(a:Option Code)(w:Zy):Kd P p cs<|Jw p fr cs a w:=by
 unfold Jw;cases fr.roundOf with
 |none=>
  exact Ec Vb<|Wo
 |some r=>
  dsimp only;refine Jg _ ?_;cases(Instr.endRound r a).run p w with
  |ok v x=>exact YK b.kind v x c
  |halt y x=>exact Wo
def xmo(H:Fit P F X)(N:Sm P X w w)(g:Xv P fr)(v:P.follows .rangeFuncRecover=bL)(S:cs≠[]):
  Kd P (wf P F) cs (bI (wf P F) bL bL fr cs bN w):=by
 have K:=g.items;have E:∀p:Option Code,(∀cs,bI (wf P F) bL bL fr cs bN w=Jw (wf P F) fr cs p w)->
   Kd P (wf P F) cs (bI (wf P F) bL bL fr cs bN w):=fun p h=>by
  rw[h];exact An g S p w
 have M:∀{s:Sem Next},BN P F X s->(∀n x,s.run (wf P F) w= .ok n x->Nx n)->(∀cs,bI (wf P F) bL bL fr cs bN w=bH (wf P F) bL fr cs bN s w)->
   Kd P (wf P F) cs (bI (wf P F) bL bL fr cs bN w):=fun V T h=>by
  rw[h];exact Tf g g.kind.1 v (V.dZ w N) T
 cases hto:fr.todo with
 |nil=>
  refine E bN fun cs=>?_;simp only[bI,hto,Jw,zg];rfl
 |cons it k=>
  rw[hto]at K;have hk:=YU K;have C:=K it<|jo ..;cases it with
  |call d b r s=>exact C.elim
  |extern r a=>exact C.elim
  |inBlock id=>simp only[bI,hto];exact Vb
  |inScope c=>simp only[bI,hto];exact Vb
  |inLoop c=>simp only[bI,hto];exact Vb
  |inRangeFunc r=>exact(by simp only[bI,hto];exact Wo)
  |endRangeFunc r=>
   simp only[bI,hto,zg];refine Jg _ ?_;cases(Instr.endLoop r).run (wf P F) w with
   |ok j w1=>exact Vb
   |halt x w1=>
    cases x with
    |panic y=>exact Vb
    |_=>exact Wo
  |beginRound=>
   have R:B P F X<|fr.roundOf.elim (stuck "beginRound: no round") Instr.beginRound:=by
    cases fr.roundOf with
    |none=>exact ja _
    |some l=>exact YE l
   exact M (s:=fr.roundOf.elim (stuck "beginRound: no round") Instr.beginRound>>=fun _=>pure .skip) (Bl.next<|xp R fun _=>xr _) (fun n x h=>TE h) fun cs=>by simp only[bI,hto]
  |inRegion ops todo=>
   cases todo with
   |nil=>simp only[bI,hto];exact Vb
   |cons i rest=>
    cases hw:((ops[i]?).map (Region.wanted · (yielded ops fr.tmps))).getD bK with
    |false=>simp only[bI,hto,hw];exact Vb
    |true=>
     cases ho:ops[i]?with
     |none=>rw[ho]at hw;cases hw
     |some o=>
      have q:qM P o.op=bL/\(fr.roundOf.isNone|| !AX o.op)=bL:=by
       have z:rT P fr.roundOf.isNone ops=bL:=C;unfold rT at z;rw[qi]at z;have:=z o<|Wk ho;rw[xl]at this;exact this
      have L:fr.oper?=bO o:=by simp only[Frame.oper?,hto,ho]
      refine M (EF H fr.eval o q.1) (fun n x h=>zig H q.1 h) fun cs=>?_;simp only[bI,hto,hw,if_true,stepG.oper,L];split
      rename_i l c v hdf
      exfalso;rw[v,hdf]at q;exact absurd q.2 (by simp[AX]);rfl
  |code c=>
   cases c with
   |skip=>simp only[bI,hto];exact Vb
   |label l=>simp only[bI,hto];exact Vb
   |ret=>
    refine E (bO .ret) fun cs=>?_;simp only[bI,hto,Jw,zg];rfl
   |seq a b=>simp only[bI,hto];exact Vb
   |block id c=>simp only[bI,hto];exact Vb
   |loop c=>simp only[bI,hto];exact Vb
   |scope c=>simp only[bI,hto];exact Vb
   |refuse s=>exact(by simp only[bI,hto];exact Wo)
   |cond c a b=>
    cases hev:fr.eval c with
    |bool t=>simp only[bI,hto,hev];exact Vb
    |_=>exact(by simp only[bI,hto,hev];exact Wo)
   |exit id=>
    cases hx:exitTo id k with
    |some k'=>simp only[bI,hto,hx];exact Vb
    |none=>
     refine E (bO<|.exit id) fun cs=>?_;simp only[bI,hto,hx,Jw,zg];rfl
   |goto r=>
    cases hx:gotoIn r k with
    |some k'=>simp only[bI,hto,hx];exact Vb
    |none=>
     refine E (bO<|.goto r) fun cs=>?_;simp only[bI,hto,hx,Jw,zg];rfl
   |region id ops draw=>
    cases draw with
    |false=>simp only[bI,hto];exact Vb
    |true=>
     simp only[bI,hto];cases hq:(choose<|.order fr.fn id).run (wf P F) w with
     |ok t x=>exact Vb
     |halt y x=>exact Wo
   |rangeFunc f ps a b=>
    simp only[Y3,qn,xl]at C;let fr' (x:Nat×List Deferred):Zf:={fr with todo:= .inRangeFunc x.1::k,defers:=x.2++fr.defers};let cl (x:Nat×List Deferred):Call:={callee:= .value f,args:=#[.const<|.func (.yield x.1) #[] #[]],argTypes:=#[]};let sm (x:Nat×List Deferred):Sem Next:=resolve (fr' x).eval (cl x) 0>>=fun d=>invoke d.target d.args;have e:∀cs,bI (wf P F) bL bL fr cs bN w=bA (seen (wf P F) fr.fn<|(Instr.enterLoop fr.fn fr.tmps ps a b fr.roundOf).events (wf P F) w #[]) (match(Instr.enterLoop fr.fn fr.tmps ps a b fr.roundOf).run (wf P F) w with
      | .ok x w=>bH (wf P F) bL (fr' x) cs bN (sm x) w
      | .halt _ w=> .ended (.stuck "range over a function: no such loop" (fr.pos<|wf P F)) w):=fun cs=>by
     simp only[bI,hto,zg];cases(Instr.enterLoop fr.fn fr.tmps ps a b fr.roundOf).run (wf P F) w with
     |ok x w1=>rfl
     |halt x w1=>rfl
    rw[e];refine Jg _ ?_;cases hq:(Instr.enterLoop fr.fn fr.tmps ps a b fr.roundOf).run (wf P F) w with
    |halt y x=>exact Wo
    |ok x w1=>
     have m:ES P (cl x)=bL:=rfl;obtain⟨Y,W,J⟩:=(YJ (P:=P) (F:=F) (X:=X) fr.fn fr.tmps ps a b fr.roundOf C.1 C.2 g.init).gJ w w #[] N (by rw[hq];trivial);have G:Sm P X w1 w1:=by
      have:=J.sm.self;rw[hq]at this;exact this
     have I:BN P F X<|sm x:=RB (JB _ _ _) (fun w d Z U=>Y4 m U) fun d hd=>AU H _ _ hd;have D:Xv P<|fr' x:=⟨Xp (it:= .inRangeFunc x.1) trivial hk,fun d hd=>by
      rcases Je.1 hd with hd|hd;exact(Km (P:=P) (l:=x.1) (mark:=x.2) hq) d hd;exact g.gI d hd,g.kind,g.init⟩
     refine Tf (fr:=fr' x) D g.kind.1 v (I.dZ w1 G) fun n y h=>?_;obtain⟨d,w2,O,Q⟩:=jm h;exact yE H (Y4 m O) Q
def xto(H:Fit P F X)(l:Sm P X w w)(j:Xv P fr){d:Deferred}(i:Vn P d.target=bL):
  Kd P (wf P F) cs (callDeferred (wf P F) fr cs bN d w):=by
 have o:∀n x,(invoke d.target d.args).run (wf P F) w= .ok n x->Nx n:=fun n x h=>yE H i h;have e:=(AU H d.target d.args i).dZ w l;unfold callDeferred;refine Ec (Wo) ?_;simp only[zg];cases hr:(invoke d.target d.args).run (wf P F) w with
 |halt y x=>
  rw[hr]at e;cases y with
  |panic y=>exact Jg _ Vb
  |blocked=>exact e.elim
  |waiting=>exact e.elim
  |goexit=>exact e.elim
  |fatal m=>exact e.elim
  |throw m=>exact e.elim
  |exit c=>exact Wo
  |stuck m=>exact Wo
  |unsupported u=>
   cases u with
   |initOrder g=>exact e.elim
   |_=>exact Wo
 |ok n x=>
  have k:=o n x hr;cases n with
  |value y=>exact Jg _ Vb
  |skip=>exact Jg _ Vb
  |enter f a=>exact Jg _<|Uq j<|by simp
  |round r f ts a b=>exact Jg _<|Ur j
  |defer d=>exact Jg _ Vb
  |recover=>
   refine Jg _ ?_;dsimp only;cases fr.mode<;>cases hy:aH fr cs<;>first|exact Vb|exact Ed hy
  |_=>exact k.elim
def Rf(H:Fit P F X)(q:Sm P X w w)(f:Xv P fr)(g:cs≠[]):
  Kd P (wf P F) cs (aI (wf P F) bL fr cs bN w):=by
 cases hdf:fr.defers with
 |cons d ds=>
  have hd:=f.gI d (by rw[hdf];exact jo ..);have v:(∀b,d.target≠ .collected b)->Kd P (wf P F) cs (aI (wf P F) bL fr cs bN w):=fun j=>by
   have e:∀cs,aI (wf P F) bL fr cs bN w=callDeferred (wf P F) {fr with defers:=ds} cs bN d w:=fun cs=>by
    unfold aI;rw[hdf];obtain⟨m,n⟩:=d;cases m with
    |collected b=>exact absurd rfl<|j b
    |_=>rfl
   rw[e];have i:Xv P {fr with defers:=ds}:=⟨f.items,fun x t=>f.gI x<|by rw[hdf];exact xj _ t,f.kind,f.init⟩;exact xto H q (fr:={fr with defers:=ds}) i hd
  cases htg:d.target with
  |collected b=>
   have e:∀cs,aI (wf P F) bL fr cs bN w=bA (seen (wf P F) fr.fn<|(Instr.takeDeferred b).events (wf P F) w #[]) (match(Instr.takeDeferred b).run (wf P F) w with
     | .ok calls w=> .go {frame:={fr with defers:=calls++ds},callers:=cs,status:= .running,dying:=bN} w
     | .halt _ w=> .ended (.stuck "the deferred calls of a range-over-func loop have been taken" (fr.pos<|wf P F)) w):=fun cs=>by
    unfold aI;rw[hdf];obtain⟨m,n⟩:=d;cases htg;simp only[zg];cases(Instr.takeDeferred b).run (wf P F) w<;>rfl
   rw[e];refine Jg _ ?_;cases(Instr.takeDeferred b).run (wf P F) w with
   |ok a x=>exact Vb
   |halt y x=>exact Wo
  |_=>exact v fun b e=>by rw[htg]at e;cases e
 |nil=>
  cases hm:fr.mode with
  |run=>simp only[aI,hdf,hm];exact Wo
  |panicking chain=>
   have h:∀p:Zp,fr.catches p=bK:=fun p=>by
    unfold Frame.catches;cases htd:fr.todo with
    |nil=>cases p.funcs[fr.fn]?<;>rfl
    |cons it k=>
     have o:=f.items it (by rw[htd];exact jo ..);cases it with
     |call d b r s=>exact o.elim
     |_=>cases p.funcs[fr.fn]?<;>rfl
   cases cs with
   |nil=>exact absurd rfl g
   |cons c l=>
    simp only[aI,hdf,hm,h];refine UB<|.inr ?_;unfold Frame.raise;split;exact⟨_,rfl⟩;exact⟨_,rfl⟩
  |returning=>
   cases hf:(wf P F).funcs[fr.fn]?with
   |none=>
    simp only[aI,hdf,hm,hf];exact YK f.kind _ w g
   |some fn=>
    simp only[aI,hdf,hm,hf,zg];refine Jg _ ?_;cases(aN fn fr.tmps).run (wf P F) w with
    |ok a x=>exact YK f.kind a x g
    |halt y x=>
     cases y<;>exact Wo
def xom(H:Fit P F X)(h:Sm P X w w)(b:Xv P g.frame)(hd:g.dying=bN)(j:P.follows .rangeFuncRecover=bL)(i:g.callers≠[]):Kd P (wf P F) g.callers<|aZ (wf P F) bL g w:=by
 obtain⟨a,f,st,k,d⟩:=g;cases hd;cases hm:a.mode with
 |run=>
  have e:aZ (wf P F) bL {frame:=a,callers:=f,status:=st,dying:=bN,offers:=d} w=bI (wf P F) bL bL a f bN w:=by simp[aZ,hm]
  rw[e];exact xmo H h b j i
 |returning=>
  have e:aZ (wf P F) bL {frame:=a,callers:=f,status:=st,dying:=bN,offers:=d} w=aI (wf P F) bL a f bN w:=by
   unfold aZ;simp[hm]
  rw[e];exact Rf H h b i
 |panicking c=>
  have e:aZ (wf P F) bL {frame:=a,callers:=f,status:=st,dying:=bN,offers:=d} w=aI (wf P F) bL a f bN w:=by
   unfold aZ;simp[hm]
  rw[e];exact Rf H h b i
end
section
variable {P:aV} {F:Array Func} {X:Nat->Prop}
def Ft(b:Bool)(ops:Array Oper):rT (wf P F) b ops=rT P b ops:=rfl
def Xm:∀(b:Bool) (c:Code),qn (wf P F) b c=qn P b c
 |b,.region i ops d=>rfl
 |b,.seq x y=>by simp only[qn,Xm b x,Xm b y]
 |b,.cond o x y=>by simp only[qn,Xm b x,Xm b y]
 |b,.block i x=>by simp only[qn,Xm b x]
 |b,.loop x=>by simp only[qn,Xm b x]
 |b,.scope x=>by simp only[qn,Xm b x]
 |b,.rangeFunc f ps x y=>by simp only[qn,Xm bK x,Xm bK y]
 |b,.skip=>rfl
 |b,.label _=>rfl
 |b,.ret=>rfl
 |b,.exit _=>rfl
 |b,.goto _=>rfl
 |b,.refuse _=>rfl
def Rv(b:Bool)(it:Item):Y3 (wf P F) b it↔Y3 P b it:=by
 cases it<;>simp only[Y3,Xm,Ft]
def QF(t:Target):Vn (wf P F) t=Vn P t:=by
 cases t<;>rfl
def uT:Xv (wf P F) fr↔Xv P fr:=
 ⟨fun h=>⟨fun b a=>(Rv ..).1<|h.items b a,fun d hd=>by rw[<-QF (F:=F)];exact h.gI d hd,h.kind,h.init⟩,fun h=>⟨fun b a=>(Rv ..).2<|h.items b a,fun d hd=>by rw[QF];exact h.gI d hd,h.kind,h.init⟩⟩
def xqy{o:Option Obj}(h:dL P o):dL (wf P F) o:=
 ⟨h.pend,fun f e d hd=>by rw[QF];exact h.calls f e d hd,fun l e=>by
  obtain⟨a,b,c,d⟩:=h.loop l e;exact⟨by rw[Xm];exact a,by rw[Xm];exact b,fun x g=>by rw[Xm];exact c x g,d⟩⟩
def WH{w v:Zy}(h:Sm P X w v):Sm (wf P F) X w v:=⟨h.size,h.out,h.dead,fun r=>xqy<|h.oks r,h.tape,h.drawn,h.os,h.output,h.pin⟩
def Z0(fr:Zf)(cs:List Zf):Zg:={frame:=fr,callers:=cs,status:= .running,dying:=bN}
def zA(P:Zp)(F:Zc)(X:ZP)(I:Zf->Zy->Prop)(fr:Zf)(w:Zy):Prop:=
 (∀cs,∃o w' es,aZ (wf P F) bL (Z0 fr cs) w= .ended o w' es)\/
 (∃ch,fr.mode= .panicking ch/\fr.defers=[]/\∀p,fr.catches p=bK)\/
 ∃fr' w',(I fr' w'\/Xv P fr')/\fr'.kind=fr.kind/\(∀cs,DD w<|aZ (wf P F) bL<|Z0 fr cs)/\
  (∃es,∀cs,aZ (wf P F) bL (Z0 fr cs) w= .go (Z0 fr' cs) w' es)/\
  ∀v,Sm P X w v->∃v' es,(∀cs,aZ P bL (Z0 fr cs) v= .go (Z0 fr' cs) v' es)/\Af P X v w' v' es
structure zL(P:Zp)(F:Zc)(I:ZP->Zf->Zy->Prop)(Fo:Zc):Prop where
 enter:∀X f a k w,Ys P F f->Mc P f->k≠ .early/\k≠ .report->I X (bF (wf P F) f a k) w
 mc:∀X fr w,I X fr w->Mc P fr.fn
 re:∀X fr w t d,I X fr w->I X fr (re w t d)
 step:∀X fr w,Sm P X w w->I X fr w->zA P F X (I X) fr w
 fit:∀X,Fit (wf P Fo) F X
 codes:pE (wf P Fo) F
 plain:∀f,Ys P F f->¬Mc P f->Ys (wf P Fo) F f
 zO:∀f,¬Mc (wf P Fo) f
structure J0(P:Zp)(F:Zc):Prop where
 fit:∀X,Fit P F X
 vea:∀X,Fit (wf P F) F X
 codes:pE P F
 two:∀f,F[f]?=P.funcs[f]?\/Ref F f
 ro:P.follows .rangeFuncRecover=bL
 odd:∃I Fo,zL P F I Fo
def J0.plain(K:J0 P F)(h:¬Ref F f):Ys P F f:=⟨(K.two f).resolve_right h,h⟩
def J0.uA(K:J0 P F):pE (wf P F) F:=fun f e=>by
 obtain⟨a,b⟩:=K.codes f<|K.plain e.2;refine⟨a,b.imp ?_ fun b d c g h=>by rw[Xm];exact b d c g h⟩;rintro⟨d,c,i,j,k⟩;exact⟨d,c,by rw[<-i];exact(K.plain e.2).1,j,by rw[Xm];exact k⟩
def xqx{o:Option Obj}(h:dL (wf P F) o):dL P o:=
 ⟨h.pend,fun f e d hd=>by rw[<-QF (F:=F)];exact h.calls f e d hd,fun l e=>by
  obtain⟨a,b,c,d⟩:=h.loop l e;exact⟨by rw[<-Xm (F:=F)];exact a,by rw[<-Xm (F:=F)];exact b,fun x g=>by rw[<-Xm (F:=F)];exact c x g,d⟩⟩
def WG{w v:Zy}(h:Sm (wf P F) X w v):Sm P X w v:=⟨h.size,h.out,h.dead,fun r=>xqx<|h.oks r,h.tape,h.drawn,h.os,h.output,h.pin⟩
def ZR(fr:Zf)(ch:List PanicEntry):∃m,fr.raise ch={fr with mode:=m}:=by
 unfold Frame.raise;split<;>exact⟨_,rfl⟩
def AY{p:Zp}{fr c:Zf}{ch:List PanicEntry}(b:fr.mode= .panicking ch)(hd:fr.defers=[])(a:fr.catches p=bK)(w:Zy):
  aZ p bL (Z0 fr (c::cs)) w= .go (Z0 (c.raise ch) cs) w #[]:=by
 simp[aZ,Z0,aI,b,hd,a]
def gN(p:Zp)(fr:Zf):Prop:=fr.todo=[.code<|.refuse ""]/\fr.defers=[⟨.fn (.method "") #[],#[]⟩]/\fr.kind= .normal/\fr.roundOf=bN/\p.inits.idxOf? fr.fn=bN
def U8(f:FuncId):Zf:={fn:=f,tmps:=#[],todo:=[.code<|.refuse ""],defers:=[⟨.fn (.method "") #[],#[]⟩],mode:= .run,kind:= .normal}
def xqw(h:P.inits.idxOf? f=bN):gN P<|U8 f:=⟨rfl,rfl,rfl,rfl,h⟩
def gN.FV(h:gN P fr):Xv P fr:=by
 obtain⟨b,c,e,g,f⟩:=h;refine⟨fun i a=>?_,fun d hd=>?_,?_,f⟩;rw[b]at a;simp only[jp]at a;subst a;rfl;rw[c]at hd;simp only[jp]at hd;subst hd;rfl;rw[e];simp
def gN.finish(h:gN P fr)(v:Zv):fr.finish v=fr:=by
 unfold Frame.finish;rw[h.1]
def gN.mode(h:gN P fr)(m:FrameMode):gN P {fr with mode:=m}:=h
def sW(p:Zp)(g:Zg):Prop:=g.dying=bN/\((g.frame.mode= .run/\∃s k,g.frame.todo= .code (.refuse s)::k)\/gN p g.frame)
def ZB{p:Zp}(h:sW p g)(w:Zy):∃o w' es,aZ p bL g w= .ended o w' es:=by
 obtain⟨b,i,st,n,f⟩:=g;obtain⟨hd,h⟩:=h;cases hd;have run:∀s k,b.mode= .run->b.todo= .code (.refuse s)::k->∃o w' es,aZ p bL {frame:=b,callers:=i,status:=st,dying:=bN,offers:=f} w= .ended o w' es:=fun s k d j=>by
  have e:aZ p bL {frame:=b,callers:=i,status:=st,dying:=bN,offers:=f} w=bI p bL bL b i bN w:=by simp[aZ,d]
  rw[e];simp only[bI,j];exact⟨_,_,_,rfl⟩
 rcases h with⟨d,s,k,j⟩|⟨j,l,hk,_⟩;exact run s k d j;have m:b.mode≠ .run->∃o w' es,aI p bL b i bN w= .ended o w' es:=fun d=>by
  unfold aI;rw[l];simp only[callDeferred,zg];have e:(invoke (.fn (.method "") #[]) #[]).run p w= .halt (.stuck "call: a method without a receiver") w:=rfl;rw[e];simp[bA]
 cases d:b.mode with
 |run=>exact run _ _ d j
 |returning=>
  have e:aZ p bL {frame:=b,callers:=i,status:=st,dying:=bN,offers:=f} w=aI p bL b i bN w:=by
   unfold aZ;simp[d]
  rw[e];exact m<|by rw[d];simp
 |panicking c=>
  have e:aZ p bL {frame:=b,callers:=i,status:=st,dying:=bN,offers:=f} w=aI p bL b i bN w:=by
   unfold aZ;simp[d]
  rw[e];exact m<|by rw[d];simp
def Qi{p:Zp}{g g':Zg}{w w':Zy}(h:sW p g):¬jC p g w g' w':=by
 rintro⟨c,e,_⟩;obtain⟨o,w1,b,a⟩:=ZB h w;rw[a]at e;cases e
structure Gd(P:Zp)(F:Zc)(X:ZP)(I:Zf->Zy->Prop)(dm:Zf)(g:Zg)(w:Zy):Prop where
 top:Xv P g.frame\/I g.frame w
 tY:∀c∈g.callers,Xv P c
 sm:Sm (wf P F) X w w
 dy:g.dying=bN
 run:g.status= .running
 off:g.offers=bN
 low:∃l,g.callers=l++[dm]/\Bk g.frame l
variable {dm:Frame} {I:(Nat->Prop)->Frame->World->Prop} {Fo:Array Func}
def Gd.re(a:zL P F I Fo)(h:Gd P F X (I X) dm g w)(t:Nat->Question->Nat)(d:Nat):Gd P F X (I X) dm g<|re w t d:=⟨h.top.imp id<|a.re X _ _ t d,h.tY,h.sm.re t d,h.dy,h.run,h.off,h.low⟩
def Gd.eq(h:Gd P F X (I X) dm g w):g=Z0 g.frame g.callers:=by
 obtain⟨i,e,st,f,d⟩:=g;obtain⟨_,_,_,a,b,c,_⟩:=h;cases a;cases b;cases c;rfl
def Gd.step(K:J0 P F)(E:zL P F I Fo)(r:gN P dm)(h:Gd P F X (I X) dm g w):
  (∃o w' es,aZ (wf P F) bL g w= .ended o w' es)\/∃g' w' es,aZ (wf P F) bL g w= .go g' w' es/\g'.dying=bN/\g'.status= .running/\g'.offers=bN/\(sW P g'\/(Gd P F X (I X) dm g' w'/\qR P F g.callers.length (aZ (wf P F) bL g w))):=by
 obtain⟨l,p,hb⟩:=h.low;have bg:g.callers≠[]:=by rw[p];simp
 rcases h.top with y|hI;rotate_left
 ·
  have hg:=h.eq;have hS:=WG h.sm;rcases E.step X g.frame w hS hI with b|⟨ch,b,C,J⟩|⟨bb,w',b,C,J,⟨es,Z⟩,h5⟩
  left;rw[hg];exact b _;right;cases l with
  |nil=>
   have e:aZ (wf P F) bL g w= .go (Z0 (dm.raise ch) []) w #[]:=by
    rw[hg,p];exact AY b C (J _) w
   refine⟨_,_,_,e,rfl,rfl,rfl,.inl ⟨rfl,.inr ?_⟩⟩;obtain⟨m,R⟩:=ZR dm ch;show gN P<|dm.raise ch;rw[R];exact r.mode m
  |cons c l=>
   have e:aZ (wf P F) bL g w= .go (Z0 (c.raise ch)<|l++[dm]) w #[]:=by
    rw[hg,p];exact AY b C (J _) w
   have bd:Bk c l:=hb;obtain⟨m,R⟩:=ZR c ch;refine⟨_,_,_,e,rfl,rfl,rfl,.inr ⟨⟨.inl<|(h.tY c<|by rw[p];simp).raise _,fun x hx=>h.tY x<|by rw[p];exact xj _ hx,h.sm,rfl,rfl,rfl,l,rfl,?_⟩,fun H M d i n _=>?_⟩⟩;show Bk (c.raise ch) l;rw[R];exact bd.congr rfl;rw[e]at i;cases i;rw[p]at n;simp only[Z0,zj,zh,jn]at n;omega
  right;have e:aZ (wf P F) bL g w= .go (Z0 bb g.callers) w' es:=by rw[hg];exact Z _
  obtain⟨v1,ba,_,f2⟩:=h5 w hS;refine⟨_,_,_,e,rfl,rfl,rfl,.inr ⟨⟨b.symm,h.tY,WH f2.sm.self,rfl,rfl,rfl,l,p,hb.congr C⟩,fun H M d i n _=>?_⟩⟩;rw[e]at i;cases i;simp only[Z0]at n;omega
 have t:Xv (wf P F) g.frame:=uT.2 y;have be:nP (wf P F) g:=⟨.inr t,fun c q=> .inr (uT.2<|h.tY c q)⟩;rcases xom (P:=wf P F) (F:=F) (K.vea X) h.sm t h.dy K.ro bg with⟨g',w',es,e,b,C,J,Z,h5,h6,h7⟩|⟨o,w',es,e⟩
 rotate_left;exact .inl ⟨o,w',es,e⟩;have O:aZ (wf P F) bL g w= .go g' w' es:=e;refine .inr ⟨g',w',es,O,b,C,J,?_⟩;by_cases Q:g'.callers.length=0;left;refine⟨b,.inr ?_⟩;have bf:l=[]:=by
  rw[p]at h6;simp only[zj,jd]at h6;exact xa<|by omega
 subst bf;rcases h5 dm [] (by simpa using p) (by simpa using Q)with⟨v,B⟩|⟨m,B⟩
 rw[B,r.finish];exact r;rw[B];exact r;obtain⟨l',a1,a2,a3⟩:=Bp (P:=wf P F) (F:=F) (cs1:=[dm]) (cs2:=[dm]) (K.vea X) h.sm t h.dy p hb K.ro (by simp) _ _ _ e b (by simp only[jd];omega);by_cases j:g'.callers.length=g.callers.length+1/\g'.frame.roundOf=bN/\Ref F g'.frame.fn;left;refine⟨b,.inl ?_⟩;obtain⟨W,Y,N⟩:=j;obtain⟨f,a,k,_,B⟩:=Z W Y;rw[B]at N⊢;obtain⟨fn,s,r1,r2,_⟩:=N;have bh:F[f]?=bO fn:=r1;refine⟨rfl,s,[],?_⟩;simp[bF,show(wf (wf P F) F).funcs[f]?=bO fn from bh,r2];right;have hE:qR (wf P F) F g.callers.length<|aZ (wf (wf P F) F) bL g w:=fun H M d i n L=>by
  rw[e]at i;cases i;exact⟨rfl,fun hr=>j ⟨n,L,hr⟩⟩
 obtain⟨v1,ba,f1,f2⟩:=(LC (En:=True) (P:=wf P F) (F:=F) (K.vea X) K.uA h.sm be t h.dy fun _=>hE).zN trivial _ _ _ e b;have D:qR P F g.callers.length<|aZ (wf P F) bL g w:=fun H M d i n L=>K.plain fun hr=>j (by
  rw[O]at i;cases i;exact⟨n,L,hr⟩)
 have V:(Xv P g'.frame\/I X g'.frame w')/\∀c∈g'.callers,Xv P c:=by
  by_cases S:g'.callers.length=g.callers.length+1/\g'.frame.roundOf=bN/\Mc P g'.frame.fn;obtain⟨W,Y,N⟩:=S;obtain⟨f,a,k,hk,B⟩:=Z W Y;have U:=D g' w' es O W Y;refine⟨.inr ?_,fun c q=>uT.1<|h7 (fun c q=>uT.2<|h.tY c q) c q⟩;rw[B]at U N⊢;exact E.enter X f a k w' U N hk;have bc:qR (wf P Fo) F g.callers.length<|aZ (wf (wf P Fo) F) bL g w:=fun H M d i n L=>by
   have G:aZ (wf P F) bL g w= .go H M d:=i;refine E.plain _ (D H M d G n L) fun R=>S ?_;rw[O]at G;cases G;exact⟨n,L,R⟩
  have z:Xv (wf P Fo) g.frame:=uT.2 y;have T:=(LC (En:=True) (P:=wf P Fo) (F:=F) (E.fit X) E.codes (WH<|WG h.sm) ⟨.inr z,fun c q=> .inr (uT.2<|h.tY c q)⟩ z h.dy fun _=>bc).ok trivial _ _ _ O b;exact⟨.inl<|uT.1<|T.1.resolve_left<|E.zO _,fun c q=>uT.1<|(T.2 c q).resolve_left<|E.zO _⟩
 exact⟨⟨V.1,V.2,f2.sm.self,b,C,J,l',a1,a2⟩,D⟩
def Gd.loc(K:J0 P F)(z:zL P F I Fo)(B:gN P dm)(h:Gd P F X (I X) dm g w):DD w<|aZ (wf P F) bL g:=by
 rcases h.top with a|y;exact(LC (En:=False) (P:=wf P F) (F:=F) (K.vea X) K.uA h.sm ⟨.inr<|uT.2 a,fun c p=> .inr (uT.2<|h.tY c p)⟩ (uT.2 a) h.dy fun x=>x.elim).loc;have q:=h.eq;obtain⟨l,C,E⟩:=h.low;rcases z.step X g.frame w (WG h.sm) y with j|⟨ch,j,s,k⟩|⟨v,m,_,_,k,_⟩;intro n m b e _;obtain⟨o,w1,D,r⟩:=j g.callers;have i:aZ (wf P F) bL g w= .go n m b:=e;rw[<-q,i]at r;cases r;have:∃c f,g.callers=c::f:=by
  rw[C];cases l with
  |nil=>exact⟨dm,[],rfl⟩
  |cons c l=>exact⟨c,l++[dm],rfl⟩
 obtain⟨c,f,p⟩:=this;rw[q,p];intro n m b e _;have i:aZ (wf P F) bL (Z0 g.frame (c::f)) w= .go n m b:=e;rw[AY j s (k _) w]at i;cases i;exact⟨ze _,rfl,fun t d _=>⟨#[],by
  show aZ (wf P F) bL (Z0 g.frame (c::f)) (A.re w t d)=_;rw[AY j s<|k _];simp⟩⟩
 rw[q];exact k _
def xlz(K:J0 P F)(f:zL P F I Fo)(b:gN P dm)(k:∀g w t d,End g (re w t d)↔End g w):uW (wf P F) End (fun g w=>Gd P F X (I X) dm g w\/sW P g) where
 dN:=k
 mU g w t d:=⟨fun h=>h.imp (fun h=>by have:=Gd.re f h w.tape w.drawn;rw[vK,KX]at this;exact this) id,fun h=>h.imp (fun h=>Gd.re f h t d) id⟩
 loc g w hI _:=by
  rcases hI with h|h;exact h.loc K f b;intro m n l e;obtain⟨o,w1,j,c⟩:=ZB (p:=wf P F) h w;have i:aZ (wf P F) bL g w= .go m n l:=e;rw[c]at i;cases i
 keep g w m n hI _ hgo:=by
  rcases hI with h|h;obtain⟨l,c,i,s⟩:=hgo;rcases h.step K f b with⟨o,w1,j,a⟩|⟨v,x,q,a,_,_,_,r⟩;rw[c]at a;cases a;rw[c]at a;cases a;exact r.elim .inr fun h=> .inl h.1;exact absurd hgo<|Qi (p:=wf P F) h
def zpr(K:J0 P F)(s:zL P F I Fo)(k:gN P dm){fr':Zf}{cs':List Zf}{w':Zy}(l:End (Z0 fr' cs') w'):
  ∀(n:Nat) (fr:Zf) (cs:List Zf) (w:Zy),runN (wf P F) n (lone fr cs w)= .next (lone fr' cs' w')->(Gd P F X (I X) dm (Z0 fr cs) w\/sW P (Z0 fr cs))->vG (wf P F) End n (Z0 fr cs) w:=by
 intro n;induction n with
 |zero=>
  intro fr cs w h _;simp only[runN,Stepped.next.injEq,lone,Machine.mk.injEq]at h;obtain⟨j,d,_⟩:=h;subst j;simp only[Array.mk.injEq,List.cons.injEq,Goroutine.mk.injEq,and_true]at d;obtain⟨rfl,rfl⟩:=d;exact l
 |succ n ih=>
  intro fr cs w h c;have ended:∀{o w1 b},aZ (wf P F) bL (Z0 fr cs) w= .ended o w1 b->False:=fun {o w1 b} e=>by
   have a:=step_lone_ended (by
    have g:aZ (wf P F) bL {frame:=fr,callers:=cs,status:= .running,dying:=bN} w=_:=e;rw[g];rfl)
   simp only[runN,a]at h;cases h
  rcases c with c|c;rcases c.step K s k with⟨o,w1,b,e⟩|⟨m,w1,b,e,j,d,q,r⟩;exact(ended e).elim;obtain⟨i,f,st,v,t⟩:=m;cases j;cases d;cases q;have a:=step_lone_go (by
   have g:aZ (wf P F) bL {frame:=fr,callers:=cs,status:= .running,dying:=bN} w=_:=e;rw[g];rfl)
  simp only[runN,a]at h;exact .inr ⟨_,w1,⟨b,e,rfl,rfl⟩,ih i f w1 h<|r.elim .inr fun h=> .inl h.1⟩;obtain⟨o,w1,b,e⟩:=ZB (p:=wf P F) c w;exact(ended e).elim
def Lo(Q:Zp)(End:Zg->Zy->Prop)(g:Zg)(w:Zy):Prop:=∀t d,∃n,vG Q End n g<|re w t d
def Ce(e:∀g w t d,End g (re w t d)↔End g w)(a:∀g w,End g w->¬sW P g)(h:Lo (wf P F) End g w):¬sW P g:=by
 intro hd;obtain⟨n,b⟩:=h w.tape w.drawn;cases n with
 |zero=>exact a _ _ b hd
 |succ n=>
  rcases b with b|⟨f,i,c,_⟩;exact a _ _ b hd;exact Qi (p:=wf P F) hd c
variable {J:Nat×Nat->Array aS->World->Trace->Prop}
def lift(K:J0 P F)(s:gN P dm)(Co:BD P X J)(i:∀g w t d,End g (re w t d)↔End g w)(bc:∀g w,End g w->¬sW P g)
(bn:Xv P fr\/∃f a,Ys P F f/\Mc P f/\fr=bF (wf P F) f a .normal)(hk:fr.kind= .normal)(bi:∀t d,∃fr' cs' w',Steps (wf P F) (lone fr [dm]<|re w t d) (lone fr' cs' w')/\End (Z0 fr' cs') w')
{v:Zy}{t:Trace}(bm:∀c∈cs,fK P c)(hJ:J k gs v t)(h0:gs[0]?=bO (Z0 fr cs))(hS:Sm P X (re w v.tape v.drawn) v):
  ∃N gs' v' sl' t' k' g' w' g2,runNT P N (crowd gs v sl) t=(.next<|crowd gs' v' sl',t')/\J k' gs' v' t'/\gs'[0]?=bO g2/\End g' w'/\Duo P X [dm] cs g' w' g2 v':=by
 obtain⟨I,Fo,q⟩:=K.odd;have G:Xv P fr\/I X fr w:=bn.imp id fun⟨f,a,b,h,T⟩=>by rw[T];exact q.enter X f a .normal w b h ⟨by simp,by simp⟩
 have H:fK P fr:=G.symm.imp (q.mc X fr w) id;have bk:Sm P X w w:=(hS.self).re w.tape w.drawn;have M:Gd P F X (I X) dm (Z0 fr [dm]) w:=⟨G,fun c E=>by
  simp only[Z0,jp]at E;subst E;exact s.FV,WH bk,rfl,rfl,rfl,[],rfl,hk⟩
 have bd:Lo (wf P F) End (Z0 fr [dm]) w:=fun t d=>by
  obtain⟨fr',cs',w',⟨n,U⟩,hE⟩:=bi t d;exact⟨n,zpr (X:=X) K q s hE n fr [dm] (A.re w t d) U<|.inl<|Gd.re q M t d⟩
 have B:=xlz (X:=X) K q s i;have bj:=(B.bar (.inl M) bd).mB (P:=P) (fun k g w m t=>Lo (wf P F) End g w/\Gd P F X (I X) dm g w/\∃gs v sl g2,m=crowd gs v sl/\J k gs v t/\gs[0]?=bO g2/\Duo P X [dm] cs g w g2 v) (by
  rintro k g w m t ⟨hL,j,gs,v,sl,g2,rfl,hJ,h0,hD⟩ hs;have next:∀t d g' w',jC (wf P F) g (A.re w t d) g' w'->Lo (wf P F) End g' w'/\Gd P F X (I X) dm g' w':=fun t d g' w' y=>by
   have b:=B.next (.inl j) hs hL y;refine⟨b,?_⟩;rcases B.keep g _ g' w' (.inl<|Gd.re q j t d) (fun x=>hs<|(i ..).1 x) y with h|h
   exact h;exact absurd h<|Ce i bc b
  have p:∀t d,∃g' w',jC (wf P F) g (A.re w t d) g' w'/\[dm].length<=g'.callers.length:=fun t d=>by
   obtain⟨n,U⟩:=hL t d;cases n with
   |zero=>exact absurd ((i ..).1 U) hs
   |succ n=>
    rcases U with U|⟨g',w',b,_⟩;exact absurd ((i ..).1 U) hs;obtain⟨l,Q,_⟩:=(next t d g' w' b).2.low;exact⟨g',w',b,by rw[Q];simp⟩
  have hE:∀t d,qR P F g.callers.length<|aZ (wf P F) bL g<|A.re w t d:=fun t d=>by
   obtain⟨g',w',b,_⟩:=p t d;have h:=next t d g' w' b;obtain⟨es,W,Y,e3⟩:=b;rcases(Gd.re q j t d).step K q s with⟨o,w1,bb,S⟩|⟨g3,w3,bp,S,_,_,_,L⟩
   rw[W]at S;cases S;rcases L with L|L
   rw[W]at S;cases S;exact absurd L<|Ce i bc h.1;exact L.2
  have r:=show∃gs' v' sl' t',runNT P 1 (crowd gs v sl) t=(.next<|crowd gs' v' sl',t')/\
   ((∃k',vV k' k/\J k' gs' v' t'/\gs'[0]?=bO g2/\Duo P X [dm] cs g w g2 v')\/
    ∃tp d g' w' z,jC (wf P F) g (A.re w tp d) g' w'/\J k gs' v' t'/\gs'[0]?=bO z/\Duo P X [dm] cs g' w' z v'/\v.heap.size<=v'.heap.size/\∀x,X x->v'.heap[x]?=v.heap[x]?)from by
   rcases j.top with hF|hI;exact Md (sl:=sl) Co (K.fit X) K.codes K.ro hD hF p hE hJ h0;refine zip Co hD (fun d O=>?_) hJ h0;obtain⟨l,Q,bo,bh⟩:=hD.top;have hb:Bk g.frame l:=by
    rcases bh with⟨b,_⟩|⟨_,b⟩;cases b;exact b
   have C:=j.eq;have e:g2=Z0 g.frame (l++cs):=by
    rw[bo];obtain⟨fr,cs,st,dy,off⟩:=g;cases j.dy;cases j.run;cases j.off;rfl
   obtain⟨g',w',y,bg⟩:=p v.tape d;rcases q.step X g.frame _ O.self (q.re X _ _ _ _ hI)with b|⟨ch,b,h,T⟩|⟨fr',w1,b,h,T,⟨es,h4⟩,L⟩
   obtain⟨o,w1,es,W⟩:=b g.callers;obtain⟨ba,Y,_⟩:=y;rw[<-C,Y]at W;cases W;obtain⟨ba,Y,e3,S⟩:=y;cases l with
   |nil=>
    rw[C,Q]at Y;have e5:aZ (wf P F) bL (Z0 g.frame (dm::[])) (A.re w v.tape d)=_:=AY b h (T _) _;have Z:aZ (wf P F) bL (Z0 g.frame (dm::[])) (A.re w v.tape d)= .go g' w' ba:=Y;rw[e5]at Z;cases Z;simp only[Z0,jn,jd]at bg;omega
   |cons c l=>
    have E:=j.tY c (by rw[Q];simp);have bl:Bk c l:=hb;obtain⟨m,hm⟩:=ZR c ch;have f0:aZ (wf P F) bL g (A.re w v.tape d)= .go (Z0 (c.raise ch)<|l++[dm]) (A.re w v.tape d) #[]:=by
     rw[C,Q];exact AY b h (T _) _
    have be:∀x∈l++[dm],Xv P x:=fun x D=>j.tY x (by rw[Q];exact xj _ D);refine⟨Z0 (c.raise ch)<|l++[dm],A.re w v.tape d,l,v.at d,#[],⟨#[],f0,rfl,rfl⟩,rfl,.inr ⟨by simp,?_⟩,?_,.still O,⟨.inr<|E.raise _,fun x D=> .inr (be x D)⟩,⟨.inr<|E.raise _,fun x D=>?_⟩⟩;show Bk (c.raise ch) l;rw[hm];exact bl.congr rfl;rw[e];exact AY b h (T _) _;have R:x∈l++cs:=D;have:=hD.ok2.2 x;rw[e]at this;exact this<|xj _ R
   obtain⟨v1,bb,f1,f2⟩:=L _ O;have f0:aZ (wf P F) bL g (A.re w v.tape d)= .go (Z0 fr' g.callers) w1 es:=by rw[C];exact h4 _
   have bf:fK P fr':=b.imp (q.mc X fr' w1) id;refine⟨Z0 fr' g.callers,w1,l,v1,bb,⟨es,f0,rfl,rfl⟩,Q,.inr ⟨by simp,hb.congr h⟩,?_,f2,⟨bf,fun x D=> .inr (j.tY x D)⟩,⟨bf,fun x D=>?_⟩⟩;rw[e];exact f1 _;have R:x∈l++cs:=D;have:=hD.ok2.2 x;rw[e]at this;exact this R
  obtain⟨gs',v',sl',t',r1,r2⟩:=r;rcases r2 with⟨k',V,a2,a3,a4⟩|⟨tp,d,g',w',z,V,a2,a3,a4,_⟩
  exact⟨1,_,t',r1,.inl ⟨k',V,hL,j,gs',v',sl',g2,rfl,a2,a3,a4⟩⟩;exact⟨1,_,t',r1,.inr ⟨tp,d,g',w',k,V,(next tp d g' w' V).1,(next tp d g' w' V).2,gs',v',sl',z,rfl,a2,a3,a4⟩⟩)
 obtain⟨N,m',t',g',w',k',r1,r2,_,_,gs',v',sl',g2,rfl,r3,r4,r5⟩:=bj k (crowd gs v sl) t ⟨bd,M,gs,v,sl,Z0 fr cs,rfl,hJ,h0,⟨[],rfl,rfl,.inr ⟨by simp,hk⟩⟩,rfl,rfl,⟨H,fun c E=>by
  simp only[Z0,jp]at E;subst E;exact .inr s.FV⟩,⟨H,bm⟩,hS⟩
 exact⟨N,gs',v',sl',t',k',g',w',g2,r1,r3,r4,r2,r5⟩
end
end
end
section
open Go.Conc
open Go.ConcN (sumTo upd sumTo_upd upd_ne upd_same)
variable [pn:Pn]
section
variable {P:aV} {F:Array Func} {X:Nat->Prop}
def oI(X:ZP)(l:Loc):Prop:=∃a,l= .cell a/\X a.block
def rZ(X:ZP)(l:Loc):Prop:=∃r,l= .obj r/\X r
structure qD(X:ZP)(B:Nat)(t:Trace):Prop where
 clean:∀said,¬Race said t
 known:∀i a,touchAt t i=bO a->a.loc.isMemory=bL->Knows t 0 i\/(oI X a.loc/\a.kind= .atomic)\/(rZ X a.loc/\a.write=bK)
 over:t.HandedOver
 hears:Deaf t 0=0
 seen:∀i a,touchAt t i=bO a->a.loc.low B
def xR(X:ZP)(B:Nat)(e:Event):Prop:=(∀x,(aU e).touch?=bO x->(oI X x.loc->x.kind≠ .plain)/\(rZ X x.loc->x.write=bK)/\x.loc.low B)/\e.loc≠ .mark .disable/\e.loc≠ .mark .enable
def IV{n:Nat}{e:Event}(h:qI X n e){x:Touch}(hx:(aU e).touch?=bO x):x.loc.low n/\(x.loc.isMemory=bL->¬oI X x.loc/\∀r,x.loc= .obj r->X r->x.write=bK):=by
 obtain⟨l,f,g⟩:=e;cases l with
 |cell a=>
  have c:¬X a.block/\a.block<n:=h;simp only[ofEvent_cell0,aR,zp]at hx;subst hx;exact⟨c.2,fun _=>⟨fun⟨b,e,d⟩=>by cases e;exact c.1 d,fun r e=>by cases e⟩⟩
 |obj r=>
  have c:(X r->f=bK)/\r<n:=h;cases f<;>cases g
  simp only[aU,aR,zp]at hx;subst hx;exact⟨c.2,fun _=>⟨fun⟨b,e,d⟩=>(by cases e),fun r e hx=>rfl⟩⟩;simp only[aU,aR,zp]at hx;subst hx;exact⟨c.2,fun _=>⟨fun⟨b,e,d⟩=>(by cases e),fun r e hx=>rfl⟩⟩;simp only[aU,aR,zp]at hx;subst hx;exact⟨c.2,fun _=>⟨fun⟨b,e,d⟩=>(by cases e),fun r e hx=>by cases e;exact c.1 hx⟩⟩;simp[aU,aR]at hx
 |output=>
  simp only[aU,aR,zp]at hx;subst hx;exact⟨trivial,fun h=>by cases h⟩
 |goroutines=>exact h.elim
 |mark m=>cases m<;>first|exact h.elim|simp[aU,aR]at hx
def JF{n:Nat}{e:Event}(h:qI X n e):e.loc≠ .mark .disable/\e.loc≠ .mark .enable/\∀a,e.loc≠ .mark (.release a):=by
 obtain⟨l,c,b⟩:=e;cases l with
 |mark m=>cases m<;>first|exact h.elim|simp
 |_=>simp
def xR.pV{n:Nat}{e:Event}(h:qI X n e):xR X n e:=by
 refine⟨fun x c=>⟨fun b=>?_,fun b=>?_,(IV h c).1⟩,(JF h).1,(JF h).2.1⟩;exact absurd b ((IV h c).2<|by obtain⟨a,e,_⟩:=b;rw[e];rfl).1;obtain⟨r,e,d⟩:=b;exact((IV h c).2<|by rw[e];rfl).2 r e d
section
variable {B B':Nat} {t u:Trace}
def qD.mono(h:qD X B t)(b:B<=B'):qD X B' t:=⟨h.clean,h.known,h.over,h.hears,fun i a c=>Loc.low_mono b<|h.seen i a c⟩
def Zo{i:Nat}{a:Touch}(h:touchAt (t++u) i=bO a):(i<t.size/\touchAt t i=bO a)\/(t.size<=i/\∃op∈u,(t++u)[i]?=bO op/\op.act.touch?=bO a):=by
 obtain⟨x,f,b⟩:=touch_of h;rcases getElem?_append_cases f with⟨c,d⟩|⟨c,e⟩
 exact .inl ⟨c,by rw[touchAt_of d];exact b⟩;exact .inr ⟨c,x,e,f,b⟩
def qD.own(h:qD X B t){fn:FuncId}{pos:String}{es:Array Event}(k:∀e∈es,xR X B e):qD X B<|t++bD 0 fn pos es:=by
 have s:∀d∈bD 0 fn pos es,d.g=0:=fun d c=>by obtain⟨e,_,rfl⟩:=zy c;rfl
 have r:∀d∈bD 0 fn pos es,∀x,d.act.touch?=bO x->(oI X x.loc->x.kind≠ .plain)/\(rZ X x.loc->x.write=bK)/\x.loc.low B:=fun d c x q=>by
  obtain⟨e,p,rfl⟩:=zy c;exact(k e p).1 x q
 refine⟨fun said=>noRace_append (h.clean said) s fun i a n d c b w o=>?_,fun i a n y=>?_,handedOver_app h.over fun d c=> .inl (s d c),?_,fun i a n=>?_⟩;rcases h.known i a n o.2.1 with hk|⟨m,f⟩|⟨m,f⟩
 exact hk;have l:=(r d c b w).1<|o.1▸m;rcases o.c with x|x|⟨_,x,_⟩
 rw[f]at x;cases x;exact absurd x l;rw[f]at x;cases x;have l:=(r d c b w).2.1<|o.1▸m;rcases o.2.2.1 with x|x
 rw[f]at x;cases x;rw[l]at x;cases x;rcases Zo n with⟨_,j⟩|⟨_,d,c,q,_⟩
 exact(h.known i a j y).imp (·.app _) id;have:=knows_own q;rw[s d c]at this;exact .inl this;rw[Deaf_own,deafBehind_still fun e p=>⟨(k e p).2.1,(k e p).2.2⟩];exact h.hears;rcases Zo n with⟨_,j⟩|⟨_,d,c,q,v⟩
 exact h.seen i a j;exact(r d c a v).2.2
def qD.mute(h:qD X B t){g:Nat}(q:g≠0){fn:FuncId}{pos:String}{es:Array Event}(m:∀e∈es,e.mute=bL):qD X B<|t++bD g fn pos es:=by
 have o:∀d∈bD g fn pos es,d.g=g:=fun d c=>by obtain⟨e,_,rfl⟩:=zy c;rfl
 have k:∀d∈bD g fn pos es,d.act.touch?=bN:=fun d c=>by obtain⟨e,p,rfl⟩:=zy c;exact touch_mute<|m e p
 refine⟨fun said=>noRace_append (h.clean said) o fun i a _ d c b n _=>(by rw[k d c]at n;cases n),fun i a l m=>?_,handedOver_app h.over fun d c=> .inr (k d c),(aG t q _ o).trans h.hears,fun i a l=>?_⟩;rcases Zo l with⟨_,j⟩|⟨_,d,c,r,f⟩
 exact(h.known i a j m).imp (·.app _) id;rw[k d c]at f;cases f;rcases Zo l with⟨_,j⟩|⟨_,d,c,r,f⟩
 exact h.seen i a j;rw[k d c]at f;cases f
end
def JL(P:Zp)(X:ZP)(k:Nat×Nat)(gs:Array Zg)(v:Zy)(t:Trace):Prop:=
 ∃q,Leavers P t gs q/\qD X v.heap.size t/\(0,sumTo gs.size q)=k
def J5:BD P X (JL P X) where
 awake k gs v t hJ i g hi hg:=by
  obtain⟨q,f,_⟩:=hJ;exact awake_of<|(f.old i _ hi hg).status.elim .inl fun x=> .inr (.inr x)
 drawn k gs v t d hJ:=hJ
 other k gs v t i g1 g0 sl hJ hpos hi hg1 h0 hrun hdy:=by
  obtain⟨q,f,z,rfl⟩:=hJ;have n:=f.old i g1 hpos hi;have B:(i==0)=bK:=by simp;omega
  have l:i<gs.size:=(za.1 hi).1;cases hqi:q i with
  |zero=>rw[hqi]at n;rw[n.1]at hg1;cases hg1
  |succ k=>
   rw[hqi]at n;rcases n with⟨J,_⟩|⟨_,g',H,K,s,C⟩
   rw[J]at hg1;cases hg1;have o:=runT_crowd_go (P:=P) (sl:=sl) (i:=i) hi (by rw[B];exact s v);have D:((gs.map<|woken P g1 g' v).setIfInBounds i g').size=gs.size:=by simp
   have G:sumTo gs.size (upd q i k)+(k+1)=sumTo gs.size q+k:=by
    have:=sumTo_upd q k id l;simpa[hqi]using this
   refine⟨_,v,sl,_,(0,sumTo gs.size<|upd q i k),o,.right _<|by omega,?_,⟨upd q i k,⟨fun j x b p=>?_,fun j b=>?_⟩,z.mute (by omega) K,by rw[D]⟩,fun w h=>h⟩;have m:i≠0:=by omega
   rw[zd m,jj,h0];simp[woken_run hrun];by_cases c:i=j;subst c;rw[zx<|by simpa using l]at p;obtain rfl:=jf p;rw[upd_same,Deaf_own];exact C;rw[zd c,jj]at p;obtain⟨y,E,rfl⟩:=zt.1 p;have r:=f.old j y b E;rw[woken_quitsD r,upd_ne q k<|Ne.symm c,aG t c _ fun F a=>by obtain⟨e,_,rfl⟩:=zy a;rfl];exact r;rw[aG t (g':=i) (by simp at b;omega) _ fun F a=>by obtain⟨e,_,rfl⟩:=zy a;rfl];exact f.above j<|by simpa using b
 own k gs v t g0 g' v' H hJ h0 hst hrun hrun' hk hes hg:=by
  obtain⟨q,f,z,rfl⟩:=hJ;have l:0<gs.size:=(za.1 h0).1;refine⟨q,⟨fun j x b p=>?_,fun j b=>?_⟩,(z.mono hg).own fun e I=> .pV (hes e I),by simp⟩;have m:0≠j:=by omega
  rw[zd m,jj]at p;obtain⟨y,E,rfl⟩:=zt.1 p;have n:=f.old j y b E;rw[woken_quitsD n,aG t (by omega) _ fun F a=>by obtain⟨e,_,rfl⟩:=zy a;rfl];exact n;rw[aG t (g':=0) (by simp at b;omega) _ fun F a=>by obtain⟨e,_,rfl⟩:=zy a;rfl];exact f.above j<|by simpa using b
end
end
section
open Go.Conc
variable [pn:Pn]
section
variable {w:Zy} {g:Zg} {cs:List Zf}
section
variable {P:aV} {F:Array Func} {X:Nat->Prop} {dm:Frame} {G G':aS->World->Prop}
structure vR(P:Zp)(X:ZP)(g:Zg)(w:Zy)(m:Machine)(t:Trace):Prop where
 crowd:∃gs v sl k,m=Conc.crowd gs v sl/\gs[0]?=bO g/\JL P X k gs v t/\Sm P X (re w v.tape v.drawn) v
 ok:nP P g
 run:g.status= .running
 dy:g.dying=bN
def RX(P:Zp)(g:Zg)(w:Zy)(G:Zg->Zy->Prop):Prop:=
 ∀X m t,vR P X g w m t->∃N m' t' X' g' w',runNT P N m t=(.next m',t')/\(∀x,X x->X' x)/\vR P X' g' w' m' t'/\G g' w'
theorem RX.refl(h:G g w):RX P g w G:=fun X m t a=>⟨0,m,t,X,g,w,rfl,fun _ h=>h,a,h⟩
def RX.trans(h:RX P g w G)(k:∀g' w',G g' w'->RX P g' w' G'):RX P g w G':=fun X m t r=>by
 obtain⟨N,v,z,b,p,w1,d,e,f,i⟩:=h X m t r;obtain⟨a,y,B,c,q,C,j,l,n,o⟩:=k p w1 i b v z f;exact⟨N+a,y,B,c,q,C,ql d j,fun x s=>l x<|e x s,n,o⟩
def RX.mono(h:RX P g w G)(k:∀g' w',G g' w'->G' g' w'):RX P g w G':=h.trans fun g' w' a=> .refl (k g' w' a)
def vR.re{m:Machine}{t:Trace}(h:vR P X g w m t)(tp:Nat->Question->Nat)(d:Nat):vR P X g (re w tp d) m t:=⟨h.crowd,h.ok,h.run,h.dy⟩
def RX.re{tp:Nat->Question->Nat}{d:Nat}(h:RX P g (A.re w tp d) G):RX P g w G:=fun X m t a=>h X m t<|a.re tp d
def RX.lift(K:J0 P F)(j:gN P dm){End:Zg->Zy->Prop}(n:∀g w t d,End g (A.re w t d)↔End g w)(i:∀g w,End g w->¬sW P g)
  {fr:Zf}(s:¬Mc P fr.fn)(hk:fr.kind= .normal)(b:∀t d,∃fr' cs' w',Steps (wf P F) (lone fr [dm]<|A.re w t d) (lone fr' cs' w')/\End (Z0 fr' cs') w'):
  RX P (Z0 fr cs) w (fun g2 w'=>∃g' l,End g' w'/\g'.callers=l++[dm]/\g2={g' with callers:=l++cs}):=by
 rintro X m t ⟨⟨H,v,sl,k,rfl,q,r,x⟩,a,_,_⟩;obtain⟨N,f,G,o,E,y,g',w',g2,z,B,C,D,c⟩:=A.lift (sl:=sl) K j J5 n i (.inl<|a.1.resolve_left s) hk b a.2 r q x;obtain⟨l,p,e,_⟩:=c.top;exact⟨N,_,E,X,g2,w',z,fun _ h=>h,⟨⟨f,G,o,y,rfl,C,B,c.sm⟩,c.ok2,by rw[e];exact c.run,by rw[e];exact c.dy⟩,g',l,D,p,e⟩
def RX.move{g g':Zg}{es:Array Event}(h:∀v,aZ P bL g v= .go g' v es)(K:nP P g->nP P g')(hr:g'.status= .running)(hd:g'.dying=bN)(H:∀(X:ZP) (n:Nat),∀e∈es,xR X n e):RX P g w fun g1 w1=>g1=g'/\w1=w:=by
 rintro X m t ⟨⟨c,v,sl,k,rfl,s,O,Z⟩,ok,b,G⟩;induction k using BO.induction generalizing c v sl t with
 |_ k ih=>
  have F:∀g∈c,awake g:=by
   intro g1 l;obtain⟨i,o,rfl⟩:=Z1.1 l;rcases jl i with rfl|a
   have:c[0]=g:=by simpa[xg o]using s
   rw[this];exact awake_of<|.inl b;exact J5.awake k c v t O i _ a<|xg o
  obtain⟨i,g1,d,f,o,l,C⟩:=crowd_pick (P:=P) (w:=v) (sl:=sl) F ⟨0,g,s,b⟩;have z:=J5.drawn k c v t d O;have B:Sm P X (A.re w v.tape d)<|v.at d:=Z.re v.tape d;rcases jl i with rfl|a
  obtain rfl:g1=g:=by rw[s]at o;exact(jf o).symm
  have r:=runT_crowd_go (P:=P) (sl:=f) (i:=0) o (show aZ P (0==0) g1 (v.at d)=_ from h<|v.at d);have I:0<c.size:=(za.1 s).1;obtain⟨q,Q,Y,rfl⟩:=z;refine⟨1,crowd ((c.map<|woken P g1 g'<|v.at d).setIfInBounds 0 g') (v.at d) f,t++bD 0 g1.frame.fn g1.frame.place es,X,g',w,by simp only[runNT,C,r],fun _ h=>h,⟨⟨(c.map<|woken P g1 g'<|v.at d).setIfInBounds 0 g',v.at d,f,(0,ConcN.sumTo c.size q),rfl,by simp[I],⟨q,⟨fun j x D S=>?_,fun j D=>?_⟩,?_,by simp⟩,B⟩,K ok,hr,hd⟩,rfl,rfl⟩;have J:0≠j:=by omega
  rw[zd J,jj]at S;obtain⟨y,hy,rfl⟩:=zt.1 S;have R:=Q.old j y D hy;rw[woken_quitsD R,aG t (by omega) _ fun op p=>by obtain⟨e,_,rfl⟩:=zy p;rfl];exact R;rw[aG t (g':=0) (by simp at D;omega) _ fun op p=>by obtain⟨e,_,rfl⟩:=zy p;rfl];exact Q.above j (by simpa using D);exact Y.own<|H _ _;obtain⟨E,v',M,L,k',r1,r2,r3,r4,r5⟩:=J5.other k c (v.at d) t i g1 g f z a o l s b G;obtain⟨N,m',t',T,W,w2,U,V⟩:=ih k' r2 (t++L) E v' M r3 r4<|r5 w B;exact⟨1+N,m',t',T,W,w2,ql (by simp only[runNT,C,r1]) U,V⟩
end
section
variable {P:aV} {F:Array Func} {X:Nat->Prop} {dm:Frame} {G G':aS->World->Prop}
def RX.one(K:J0 P F)(R:¬Mc P g.frame.fn)(e:∀X,Sm P X w w->∀t d,(∃g' w',jC (wf P F) g (A.re w t d) g' w'/\G g' w')/\qR P F g.callers.length (aZ (wf P F) bL g<|A.re w t d)):RX P g w G:=by
 rintro X m t ⟨⟨M,v,sl,k,rfl,O,Q,x⟩,r,i,q⟩;have c:Sm P X w w:=x.self.re w.tape w.drawn;induction k using BO.induction generalizing M v sl t with
 |_ k ih=>
  obtain⟨f,B,j,z,y,U⟩:=Md (sl:=sl) (cs1:=[]) (cs2:=[]) J5 (K.fit X) K.codes K.ro (g:=g) (g2:=g) (w:=w) ⟨⟨g.callers,by simp,by simp,.inl ⟨rfl,rfl⟩⟩,i,q,r,r,x⟩ (r.1.resolve_left R)
   (fun t d=>by obtain⟨⟨g',w',a,_⟩,_⟩:=e X c t d;exact⟨g',w',a,by simp⟩) (fun t d=>(e X c t d).2) Q O
  rcases U with⟨S,n,o,p,b⟩|⟨W,d,g',w',g2,n,o,p,b,_⟩;obtain⟨N,T,V,C,g2,Y,D,E⟩:=ih S n z f B j p o b.sm;exact⟨1+N,T,V,C,g2,Y,ql y D,E⟩;obtain⟨⟨L,w1,H,I⟩,_⟩:=e X c W d;obtain⟨rfl,rfl⟩:=H.same n;obtain⟨l,s,J,_⟩:=b.top;have:g2=L:=by
   rw[J,Xq];rw[Xq]at s;rw[<-s]
  subst this;exact⟨1,_,z,X,g2,w1,y,fun _ h=>h,⟨⟨f,B,j,k,rfl,p,o,b.sm⟩,b.ok2,b.run,b.dy⟩,I⟩
def zK(P:Zp)(F:Zc)(fr:Zf)(w:Zy)(e:Ending):Prop:=e≠ .outgrown/\∃t d,fr.leaving (wf P F) (re w t d) e
def CX(P:Zp)(F:Zc)(f:FuncId)(args:Za)(w:Zy)(R:Ending->Zy->Prop):Prop:=
 ∀cs,RX P (Z0 (bF P f args .normal) cs) w fun g' w'=>∃e fr,R e w'/\g'=Z0 fr cs/\fr.fn=f/\zK P F fr w' e
def CX.jL(K:J0 P F)(r:gN P dm){f:FuncId}{args:Za}{R:(Nat->Question->Nat)->Nat->Ending->Zy->Prop}(D:Ys P F f)(z:¬Mc P f)(x:∀t d w',¬R t d .outgrown w')
  (h:∀t d,bE (wf P F) f args (re w t d)<|R t d):CX P F f args w fun e w'=>∃t d t1 d1,R t d e<|re w' t1 d1:=by
 intro cs;have C:∀p,(bF p f args .normal).fn=f:=fun _=>rfl;have B:bF (wf P F) f args .normal=bF P f args .normal:=zdt D.1 args .normal;refine(RX.lift (fr:=bF P f args .normal) (cs:=cs) (w:=w) (dm:=dm) K r
  (End:=fun m w'=>∃e fr t d t1 d1,R t d e (A.re w' t1 d1)/\e≠ .outgrown/\m=Z0 fr [dm]/\fr.fn=f/\fr.leaving (wf P F) (A.re w' t1 d1) e) (fun m w' t d=>Iff.rfl) ?_ z rfl ?_).mono ?_
 rintro m w' ⟨e,fr,t,d,t1,d1,_,i,rfl,_,k⟩ ⟨_,hd⟩;cases e with
 |outgrown=>exact i rfl
 |returned v=>
  obtain⟨a,b,_⟩:=k;rcases hd with⟨j,_⟩|⟨_,j,_⟩
  have g:fr.mode= .run:=j;rw[a]at g;cases g;have g:fr.defers=[_]:=j;rw[b]at g;cases g
 |panicked c=>
  obtain⟨a,b,_⟩:=k;rcases hd with⟨j,_⟩|⟨_,j,_⟩
  have g:fr.mode= .run:=j;rw[a]at g;cases g;have g:fr.defers=[_]:=j;rw[b]at g;cases g
 intro t d;obtain⟨e,w',fr,n,o,s,k⟩:=h t d [dm];rw[B]at o;have i:e≠ .outgrown:=by rintro rfl;exact x _ _ _ n
 refine⟨fr,[dm],w',?_,e,fr,t,d,w'.tape,w'.drawn,n,i,rfl,s,k⟩;cases e with
 |outgrown=>exact absurd rfl i
 |returned v=>exact o
 |panicked c=>exact o
 rintro E w' ⟨m,l,⟨e,fr,t,d,t1,d1,n,i,rfl,s,k⟩,q,rfl⟩;have:l=[]:=by
  have y:[dm]=l++[dm]:=q;have:=congrArg List.length y;simp only[zj,jd]at this;exact xa<|by omega
 subst this;exact⟨e,fr,⟨t,d,t1,d1,n⟩,rfl,s,i,t1,d1,k⟩
def Oo{fn:Func}{c:Za}{v:Zv}(g:Sm P X w w){b:Nat->Question->Nat}{a:Nat}(h:(aN fn c).run (wf P F) (re w b a)= .ok v (re w b a))(t:Nat->Question->Nat)(d:Nat):
  (aN fn c).run (wf P F) (re w t d)= .ok v (re w t d):=by
 have f:=(QM (P:=P) (F:=F) (X:=X) fn c).loc (re w b a) (g.re b a) (by rw[h];trivial);rw[h]at f;have:=f.2.2 t d (fun i q j=>by
  have:(re w b a).drawn-(re w b a).drawn=0:=V9 _;have k:i<(re w b a).drawn-(re w b a).drawn:=j;omega)
 have e:(re w b a).drawn-(re w b a).drawn=0:=V9 _;rw[vK]at this;rw[this];show Result.ok v (re (re w b a) t<|d+((re w b a).drawn-(re w b a).drawn))=_;rw[e];rfl
def RX.ret(K:J0 P F){fr c:Zf}{v:Zv}(n:¬Mc P fr.fn)(h:zK P F fr w<|.returned v):RX P (Z0 fr (c::cs)) w fun g' w'=>∃t d,g'=Z0 (c.finish v) cs/\w'=A.re w t d:=by
 obtain⟨_,r,q,f,g,i,fn,j,k⟩:=h;refine RX.one K n fun X o t d=>?_;have m:=Oo o k t d;have e:∃a,aZ (wf P F) bL (Z0 fr (c::cs)) (A.re w t d)= .go (Z0 (c.finish v) cs) (A.re w t d) a:=by
  simp only[aZ,Z0,aI,doReturn,f,g,i,j,zg,m];exact⟨_,rfl⟩
 obtain⟨a,e⟩:=e;refine⟨⟨_,_,⟨a,e,rfl,rfl⟩,t,d,rfl,rfl⟩,fun g' w' l b p=>?_⟩;rw[e]at b;cases b;simp only[Z0,zh]at p;omega
def RX.raise{fr c:Zf}{a:List PanicEntry}(h:zK P F fr w<|.panicked a)(b:∃fn,P.funcs[fr.fn]?=bO fn):RX P (Z0 fr (c::cs)) w fun g' w'=>g'=Z0 (c.raise a) cs/\w'=w:=by
 obtain⟨_,j,i,f,g,_⟩:=h;obtain⟨fn,b⟩:=b;refine RX.move (es:=#[]) (fun v=>?_) (fun d=>⟨(d.2 c<|by simp[Z0]).raise _,fun x e=>d.2 x<|by simp[Z0]at e⊢;exact .inr e⟩) rfl rfl (by simp);simp[aZ,Z0,aI,Frame.catches,f,g,b]
end
end
end
section
variable [pn:Pn]
section
variable {α β:Type} {P:aV} {F:Array Func} {X:Nat->Prop}
def US(t:Zt)(r:Nat):B P F X<|Extern.MapsClone.clone #[.iface t<|.map<|bO r]:=by
 show B P F X (getObj r>>=fun o=>match o with
  | .map entries clock=>newObj (.map entries clock)>>=fun x=>(pure (Value.iface t<|Value.map<|bO x):Sem Zv)
  |_=>stuck "maps.clone: a map expected")
 refine yP (fun o f b=>?_) fun o b w=>?_;split;exact xp (xH _ ⟨fun c e h=>(by cases h),fun d h=>(by cases h),fun l h=>(by cases h)⟩) fun _=>xr _;exact ja _;cases o<;>first|(cases b;done)|exact⟨id,trivial⟩
def Tr(a:Za):B P F X<|Extern.MapsClone.clone a:=by
 obtain⟨l⟩:=a
 match l with
 |[]=>exact ja _
 |_::_::_=>exact ja _
 |[x]=>
  cases x with
  |iface t y=>
   cases y with
   |map r=>
    cases r with
    |none=>exact Jk _ trivial
    |some r=>exact US t r
   |_=>exact ja _
  |_=>exact ja _
def GO(n:String):B P F X<|cutType n:=by
 unfold cutType;refine Xc rfl ?_;split;exact xr _;exact ja _
def t6(t:Zt):B P F X<|Extern.Rtype.handle t:=by
 unfold Extern.Rtype.handle;exact Xc rfl<|xr _
def zzl(h:Zv):B P F X<|Extern.Rtype.ofHandle h:=by
 unfold Extern.Rtype.ofHandle;refine Xc rfl ?_;split;exact xr _;exact ja _
def B6(a:Za):B P F X<|Extern.ReflectliteType.typeOf a:=by
 obtain⟨l⟩:=a
 match l with
 |[]=>exact ja _
 |_::_::_=>exact ja _
 |[x]=>
  cases x with
  |nilIface=>exact xr _
  |iface t y=>
   show B P F X<|Extern.ReflectliteType.toType t;unfold Extern.ReflectliteType.toType;exact xp (GO _) fun _=>xp (t6 _) fun _=>xr _
  |_=>exact ja _
def t9(s:String)(t:Zt):B P F X<|Extern.Rtype.noPack s t:=by
 unfold Extern.Rtype.noPack;refine Xc ?_<|Yo (Jk _ trivial)<|xr _;simp only[Gc]
def ztu(s:String)(t:Zt):B P F X<|Extern.Rtype.noPackHeld s t:=by
 unfold Extern.Rtype.noPackHeld;refine Xc ?_<|Xc ?_<|Yo (Jk _ trivial)<|xr _;funext;simp only[AB];simp only[AB,Y8]
def GW(r:Zv):B P F X<|Extern.ReflectliteType.ofRtype r:=by
 cases r with
 |agg a=>
  obtain⟨l⟩:=a
  match l with
  |[]=>exact ja _
  |_::_::_=>exact ja _
  |[h]=>exact xp (zzl h) fun t=>xp (t9 _ t) fun _=>xr _
 |_=>exact ja _
def ID(f:Zt->Sem Zv)(b:∀t,B P F X<|f t)(a:Za):B P F X<|Extern.ReflectliteType.method f a:=by
 obtain⟨l⟩:=a
 match l with
 |[]=>exact ja _
 |_::_::_=>exact ja _
 |[r]=>exact xp (GW r) b
def ztp(a:Za):B P F X<|Extern.ReflectliteType.method (fun t=>do Extern.Rtype.noPackHeld "Comparable" t;pure (.bool (<-typeInfo t).comparable)) a:=
 ID _ (fun t=>xp (ztu _ t) fun _=>xp (vH t) fun _=>xr _) a
def ztt(e f:Array Zt)(a:Za):B P F X<|Extern.BytealgMakeNoZero.makeNoZero e f a:=by
 obtain⟨l⟩:=a
 match l with
 |[]=>exact ja _
 |_::_::_=>exact ja _
 |[x]=>
  cases x with
  |int k n=>
   cases k with
   |i64=>
    have c:∀b,B P F X<|choose (.appendCap n.toNat 0 b)>>=fun d=>askRoom d>>=fun _=>choose (.extern "internal/bytealg.MakeNoZero.bytes" 0)>>=fun bytes=>newRow b (Extern.BytealgMakeNoZero.digits d bytes #[])>>=fun a=>(pure (Value.slice (bO a) n.toNat d):Sem Zv):=fun b=>
     xp (Yy _) fun _=>xp (R7 _) fun _=>xp (Yy _) fun _=>xp (dP.2.2.1 _ _) fun _=>xr _
    unfold Extern.BytealgMakeNoZero.makeNoZero;dsimp only;split;refine xp (Ya _) fun u=>?_;split;exact Yo (xp (mI _) fun _=>c _)<|c _;exact ja _;exact ja _
   |_=>exact ja _
  |_=>exact ja _
end
end
section
open Go.Conc
section
variable {i:Nat} {f:Func}
def xw0:List Nat:=[0,1,2,136,209,210,213,242,244,245,246,248,249,250,251,252,253,254,257,259,296,297,298,299,300,319,320,321,322,323,324,325,326,327,328,329,330,331,332,333,336,337,338,339,341,342,343,344,345,346,347,348,349,350,351,353,354,355,356,357,358]
def kJ(i:Nat):Bool:=xw0.contains i
def vC(f:Func):Func:={f with body:=bO<|.refuse ""}
def vB(i:Nat)(f:Func):Func:=if kJ i then vC f else f
noncomputable def Tryq.funcs:Zc:=Tryz.prog.funcs.mapIdx vB
noncomputable def Tryq.prog:Zp:=wf bM Tryq.funcs
def zx8:Tryq.prog.funcs=Tryq.funcs:=by kernel_rfl
def zuz:Tryq.prog.toTables=Tryz.prog.toTables:=by kernel_rfl
def vP(i:Nat):Tryq.funcs[i]?=(Tryz.prog.funcs[i]?).map (vB i):=by
 unfold Tryq.funcs;simp
def MK(h:kJ i=bK)(a:Tryz.prog.funcs[i]?=bO f):Tryq.prog.funcs[i]?=bO f:=by
 rw[zx8,vP,a];simp only[js,vB,h,xu,if_false]
def xut(h:kJ i=bK)(e:Tryz.prog.funcs[i]?=bO f)(g:(f.name== "runtime.NumGoroutine")=bK)(a:f.body.isNone=bK)(args:Za)(w:Zy):(callFunc i args).run Tryq.prog w= .ok (.enter i args) w:=by
 have b:¬f.name= "runtime.NumGoroutine":=by simpa using g
 have d:=MK h e;cases hb':f.body with
 |none=>rw[hb']at a;cases a
 |some c=>simp[callFunc,d,b,hb']
def Au(h:kJ i=bL)(a:Tryz.prog.funcs[i]?=bO f)(b:(f.name== "runtime.NumGoroutine")=bK):Ref Tryq.funcs i:=⟨vC f,"",by rw[vP,a];simp[vB,h],rfl,b⟩
def xob:Tryz.prog.funcs.size=360:=by kernel_rfl
def Dz(f:Func):Bool:=!(f.name== "runtime.NumGoroutine")
noncomputable def FR(i:Nat):Bool:=match Tryz.prog.funcs[i]?with
 |none=>bL
 |some fn=>Dz fn&&(kJ i||match fn.body with
  |none=>i==141||i==203||i==275||i==276||i==340
  |some c=>i==220||qn bM bL c)
def Of:(List.range 360).all FR=bL:=by kernel_rfl
def S_(h:i<360):FR i=bL:=PY.1 Of i<|List.mem_range.2 h
def zuc(h:Tryz.prog.funcs[i]?=bO f):i<360:=by
 have:=(za.1 h).1;rwa[xob]at this
def KR(h:Tryz.prog.funcs[i]?=bO f):(f.name== "runtime.NumGoroutine")=bK:=by
 have:=S_<|zuc h;unfold FR at this;rw[h]at this;simp only[Dz,xl,Bool.not_eq_true']at this;exact this.1
def Ay{c:Code}(h:Tryz.prog.funcs[i]?=bO f)(a:kJ i=bK)(d:i≠220)(b:f.body=bO c):qn bM bL c=bL:=by
 have:=S_<|zuc h;unfold FR at this;rw[h]at this;simp only[a,b,xl,Bool.false_or,Yk,Ju,d,false_or]at this;exact this.2
def xnl(h:Tryz.prog.funcs[i]?=bO f)(a:kJ i=bK)(b:f.body=bN):i=141\/i=203\/i=275\/i=276\/i=340:=by
 have:=S_<|zuc h;unfold FR at this;rw[h]at this;simp only[a,b,xl,Bool.false_or,Yk,Ju]at this;omega
def Ck{fn:Func}(h:Tryq.funcs[i]?=bO fn):∃f,Tryz.prog.funcs[i]?=bO f/\((kJ i=bL/\fn=vC f)\/(kJ i=bK/\fn=f)):=by
 rw[vP]at h;obtain⟨f,a,rfl⟩:=zt.1 h;refine⟨f,a,?_⟩;unfold vB;cases hb:kJ i<;>simp
def Em{fn:Func}(h:Tryq.funcs[i]?=bO fn)(b:fn.body.isNone=bL):(i=141/\fn=Tryz.f141)\/(i=203/\fn=Tryz.f203)\/(i=275/\fn=Tryz.f275)\/(i=276/\fn=Tryz.f276)\/(i=340/\fn=Tryz.f340):=by
 obtain⟨f,a,⟨_,rfl⟩|⟨c,rfl⟩⟩:=Ck h;simp[vC]at b;have d:fn.body=bN:=by simpa using b
 rcases xnl a c d with rfl|rfl|rfl|rfl|rfl;rw[Tryz.func141]at a;cases a;exact .inl ⟨rfl,rfl⟩;rw[Tryz.func203]at a;cases a;exact .inr<|.inl ⟨rfl,rfl⟩;rw[Tryz.func275]at a;cases a;exact .inr<|.inr<|.inl ⟨rfl,rfl⟩;rw[Tryz.func276]at a;cases a;exact .inr<|.inr<|.inr<|.inl ⟨rfl,rfl⟩;rw[Tryz.func340]at a;cases a;exact .inr<|.inr<|.inr<|.inr ⟨rfl,rfl⟩
def pC:Extern.find Tryz.f141=bO Extern.MapsClone.clone:=by kernel_rfl
def xxo:Extern.find Tryz.f203=bO Extern.ReflectliteType.typeOf:=by kernel_rfl
def xxp:Extern.find Tryz.f276=bO (Extern.BytealgMakeNoZero.makeNoZero Tryz.f276.params Tryz.f276.resultTypes):=by kernel_rfl
def xxq:Extern.find Tryz.f340=bO (Extern.ReflectliteType.method fun t=>do Extern.Rtype.noPackHeld "Comparable" t;pure (.bool (<-typeInfo t).comparable)):=by kernel_rfl
def Io:Extern.find Tryz.f275=bO Extern.AbiNoEscape.same:=by kernel_rfl
def n71:Extern.findNext Tryz.f141=bN:=by kernel_rfl
def xxb:Extern.findNext Tryz.f203=bN:=by kernel_rfl
def Gt:Extern.findNext Tryz.f275=bN:=by kernel_rfl
def xxc:Extern.findNext Tryz.f276=bN:=by kernel_rfl
def xxd:Extern.findNext Tryz.f340=bN:=by kernel_rfl
end
end
section
open Tryq Go.Conc
section
variable (P:aV) (F:Array Func) (t:TypeId) (w:World)
def YP:(typeInfo t).run (wf P F) w=(typeInfo t).run P w:=by
 unfold typeInfo;simp[go_sem,BG];cases P.info? t<;>simp[go_sem]
def AK:(sizeOf t).run (wf P F) w=(sizeOf t).run P w:=by
 unfold sizeOf;simp[go_sem,YP]
def Sv:(underlying t).run (wf P F) w=(underlying t).run P w:=by
 unfold underlying;simp[go_sem,Jz];cases P.underlying t<;>simp[go_sem]
def i8:(isAgg t).run (wf P F) w=(isAgg t).run P w:=by
 unfold isAgg;simp[go_sem,Sv];cases(underlying t).run P w with
 |ok d w'=>cases d<;>simp[go_sem]
 |halt h w'=>simp[go_sem]
def Is:(zeroValue t).run (wf P F) w=(zeroValue t).run P w:=by
 unfold zeroValue;simp[go_sem,YP];cases(typeInfo t).run P w with
 |ok d w'=>cases h:d.zero<;>simp[go_sem,h]
 |halt h w'=>simp[go_sem]
end
@[simp]def Tryq.CY:prog.toTables=Tryz.prog.toTables:=zuz
@[simp]def Tryq.cK(t:Zt):prog.underlying t=Tryz.prog.underlying t:=by
 unfold prog;exact Jz bM funcs t
@[simp]def Tryq.zS(t:Zt)(w:Zy):(typeInfo t).run prog w=(typeInfo t).run bM w:=by
 unfold prog;exact YP bM funcs t w
@[simp]def Tryq.uM(t:Zt)(w:Zy):(sizeOf t).run prog w=(sizeOf t).run bM w:=by
 unfold prog;exact AK bM funcs t w
@[simp]def Tryq.zR(t:Zt)(w:Zy):(underlying t).run prog w=(underlying t).run bM w:=by
 unfold prog;exact Sv bM funcs t w
@[simp]def Tryq.wE(t:Zt)(w:Zy):(isAgg t).run prog w=(isAgg t).run bM w:=by
 unfold prog;exact i8 bM funcs t w
@[simp]def Tryq.zT(t:Zt)(w:Zy):(zeroValue t).run prog w=(zeroValue t).run bM w:=by
 unfold prog;exact Is bM funcs t w
@[simp]def Tryq.UW(t:Zt):prog.stoodInHeld t=Tryz.prog.stoodInHeld t:=by
 unfold prog;exact wW bM funcs t
@[simp]def Tryq.MV(t:Zt):prog.eqGuardType prog.depth t=Tryz.prog.eqGuardType Tryz.prog.depth t:=by
 unfold prog;rw[Y8];exact DX bM funcs _ t
def qf{i:Nat}{f:Func}(a:Tryz.prog.funcs[i]?=bO f)(h:kJ i=bK:=by exact rfl):prog.funcs[i]?=bO f:=MK h a
def qc{i:Nat}{f:Func}(a:Tryz.prog.funcs[i]?=bO f)(h:(kJ i||f.name== "runtime.NumGoroutine" ||f.body.isNone)=bK:=by exact rfl)(args:Za)(w:Zy):(callFunc i args).run prog w= .ok (.enter i args) w:=by
 simp only[Bool.or_eq_false_iff]at h;exact xut h.1.1 a h.1.2 h.2 args w
def qd{i:Nat}{f:Func}(a:Tryz.prog.funcs[i]?=bO f)(g:kJ i=bK:=by exact rfl)(h:(kJ i||f.name== "runtime.NumGoroutine" ||f.body.isNone)=bK:=by exact rfl):prog.funcs[i]?=bO f/\∀(args:Za) (w:Zy),(callFunc i args).run prog w= .ok (.enter i args) w:=⟨qf a g,qc a h⟩
namespace Tryq
@[simp]def func9:=qd Tryz.func9
@[simp]def func10:=qd Tryz.func10
@[simp]def func29:=qd Tryz.func29
@[simp]def func11:=qd Tryz.func11
@[simp]def func16:=qd Tryz.func16
@[simp]def func18:=qd Tryz.func18
@[simp]def func15:=qd Tryz.func15
@[simp]def func24:=qd Tryz.func24
@[simp]def func98:=qd Tryz.func98
@[simp]def func25:=qd Tryz.func25
@[simp]def func23:=qd Tryz.func23
@[simp]def func14:=qd Tryz.func14
@[simp]def func41:=qd Tryz.func41
@[simp]def func13:=qd Tryz.func13
@[simp]def func12:=qd Tryz.func12
@[simp]def func17:=qd Tryz.func17
@[simp]def func35:=qd Tryz.func35
@[simp]def func36:=qd Tryz.func36
@[simp]def func21:=qd Tryz.func21
@[simp]def func39:=qd Tryz.func39
@[simp]def func50:=qd Tryz.func50
@[simp]def func40:=qd Tryz.func40
@[simp]def func46:=qd Tryz.func46
@[simp]def func47:=qd Tryz.func47
@[simp]def func48:=qd Tryz.func48
@[simp]def func45:=qd Tryz.func45
@[simp]def func20:=qd Tryz.func20
@[simp]def func49:=qd Tryz.func49
@[simp]def func83:=qd Tryz.func83
@[simp]def func84:=qd Tryz.func84
@[simp]def func85:=qd Tryz.func85
@[simp]def func86:=qd Tryz.func86
@[simp]def func37:=qd Tryz.func37
@[simp]def func38:=qd Tryz.func38
@[simp]def func72:=qd Tryz.func72
@[simp]def func73:=qd Tryz.func73
@[simp]def func74:=qd Tryz.func74
@[simp]def func43:=qd Tryz.func43
@[simp]def func44:=qd Tryz.func44
@[simp]def func19:=qd Tryz.func19
@[simp]def func79:=qd Tryz.func79
@[simp]def func80:=qd Tryz.func80
@[simp]def func100:=qd Tryz.func100
@[simp]def func101:=qd Tryz.func101
@[simp]def func81:=qd Tryz.func81
@[simp]def func82:=qd Tryz.func82
@[simp]def func99:=qd Tryz.func99
@[simp]def func42:=qd Tryz.func42
@[simp]def func141:=qf Tryz.func141
@[simp]def func142:=qd Tryz.func142
@[simp]def func143:=qd Tryz.func143
@[simp]def func144:=qd Tryz.func144
@[simp]def func75:=qd Tryz.func75
@[simp]def func76:=qd Tryz.func76
@[simp]def func77:=qd Tryz.func77
@[simp]def func78:=qd Tryz.func78
@[simp]def func129:=qd Tryz.func129
@[simp]def func130:=qd Tryz.func130
@[simp]def func133:=qd Tryz.func133
@[simp]def func160:=qd Tryz.func160
@[simp]def func89:=qd Tryz.func89
@[simp]def func161:=qd Tryz.func161
@[simp]def func153:=qd Tryz.func153
@[simp]def func154:=qd Tryz.func154
@[simp]def func145:=qd Tryz.func145
@[simp]def func147:=qd Tryz.func147
@[simp]def func90:=qd Tryz.func90
@[simp]def func134:=qd Tryz.func134
@[simp]def func135:=qd Tryz.func135
@[simp]def func137:=qd Tryz.func137
@[simp]def func138:=qd Tryz.func138
@[simp]def func139:=qd Tryz.func139
@[simp]def func140:=qd Tryz.func140
@[simp]def func87:=qd Tryz.func87
@[simp]def func88:=qd Tryz.func88
@[simp]def func91:=qd Tryz.func91
@[simp]def func92:=qd Tryz.func92
@[simp]def func93:=qd Tryz.func93
@[simp]def func94:=qd Tryz.func94
@[simp]def func57:=qd Tryz.func57
@[simp]def func95:=qd Tryz.func95
@[simp]def func96:=qd Tryz.func96
@[simp]def func97:=qd Tryz.func97
@[simp]def func217:=qd Tryz.func217
@[simp]def func218:=qd Tryz.func218
@[simp]def func219:=qd Tryz.func219
@[simp]def func131:=qd Tryz.func131
@[simp]def func132:=qd Tryz.func132
@[simp]def func166:=qd Tryz.func166
@[simp]def func167:=qd Tryz.func167
@[simp]def func109:=qd Tryz.func109
@[simp]def func105:=qd Tryz.func105
@[simp]def func196:=qd Tryz.func196
@[simp]def func197:=qd Tryz.func197
@[simp]def func156:=qd Tryz.func156
@[simp]def func198:=qd Tryz.func198
@[simp]def func199:=qd Tryz.func199
@[simp]def func203:=qf Tryz.func203
@[simp]def func204:=qd Tryz.func204
@[simp]def func222:=qd Tryz.func222
@[simp]def func148:=qd Tryz.func148
@[simp]def func157:=qd Tryz.func157
@[simp]def func158:=qd Tryz.func158
@[simp]def func150:=qd Tryz.func150
@[simp]def func159:=qd Tryz.func159
@[simp]def func215:=qd Tryz.func215
@[simp]def func216:=qd Tryz.func216
@[simp]def func55:=qd Tryz.func55
@[simp]def func205:=qd Tryz.func205
@[simp]def func206:=qd Tryz.func206
@[simp]def func152:=qd Tryz.func152
@[simp]def func207:=qd Tryz.func207
@[simp]def func208:=qd Tryz.func208
@[simp]def func214:=qd Tryz.func214
@[simp]def func146:=qd Tryz.func146
@[simp]def func149:=qd Tryz.func149
@[simp]def func151:=qd Tryz.func151
@[simp]def func108:=qd Tryz.func108
@[simp]def func155:=qd Tryz.func155
@[simp]def func264:=qd Tryz.func264
@[simp]def func265:=qd Tryz.func265
@[simp]def func266:=qd Tryz.func266
@[simp]def func267:=qd Tryz.func267
@[simp]def func268:=qd Tryz.func268
@[simp]def func269:=qd Tryz.func269
@[simp]def func270:=qd Tryz.func270
@[simp]def func271:=qd Tryz.func271
@[simp]def func272:=qd Tryz.func272
@[simp]def func273:=qd Tryz.func273
@[simp]def func274:=qd Tryz.func274
@[simp]def func200:=qd Tryz.func200
@[simp]def func201:=qd Tryz.func201
@[simp]def func202:=qd Tryz.func202
@[simp]def func116:=qd Tryz.func116
@[simp]def func103:=qd Tryz.func103
@[simp]def func170:=qd Tryz.func170
@[simp]def func107:=qd Tryz.func107
@[simp]def func236:=qd Tryz.func236
@[simp]def func237:=qd Tryz.func237
@[simp]def func238:=qd Tryz.func238
@[simp]def func221:=qd Tryz.func221
@[simp]def func61:=qd Tryz.func61
@[simp]def func53:=qd Tryz.func53
@[simp]def func263:=qd Tryz.func263
@[simp]def func106:=qd Tryz.func106
@[simp]def func104:=qd Tryz.func104
@[simp]def func241:=qd Tryz.func241
@[simp]def func260:=qd Tryz.func260
@[simp]def func261:=qd Tryz.func261
@[simp]def func262:=qd Tryz.func262
@[simp]def func102:=qd Tryz.func102
@[simp]def func171:=qd Tryz.func171
@[simp]def func303:=qd Tryz.func303
@[simp]def func304:=qd Tryz.func304
@[simp]def func305:=qd Tryz.func305
@[simp]def func306:=qd Tryz.func306
@[simp]def func307:=qd Tryz.func307
@[simp]def func308:=qd Tryz.func308
@[simp]def func239:=qd Tryz.func239
@[simp]def func240:=qd Tryz.func240
@[simp]def func282:=qd Tryz.func282
@[simp]def func112:=qd Tryz.func112
@[simp]def func114:=qd Tryz.func114
@[simp]def func113:=qd Tryz.func113
@[simp]def func168:=qd Tryz.func168
@[simp]def func276:=qf Tryz.func276
@[simp]def func115:=qd Tryz.func115
@[simp]def func169:=qd Tryz.func169
@[simp]def func295:=qd Tryz.func295
@[simp]def func301:=qd Tryz.func301
@[simp]def func302:=qd Tryz.func302
@[simp]def func162:=qd Tryz.func162
@[simp]def func163:=qd Tryz.func163
@[simp]def func164:=qd Tryz.func164
@[simp]def func165:=qd Tryz.func165
@[simp]def func317:=qd Tryz.func317
@[simp]def func286:=qd Tryz.func286
@[simp]def func287:=qd Tryz.func287
@[simp]def func288:=qd Tryz.func288
@[simp]def func289:=qd Tryz.func289
@[simp]def func290:=qd Tryz.func290
@[simp]def func291:=qd Tryz.func291
@[simp]def func292:=qd Tryz.func292
@[simp]def func293:=qd Tryz.func293
@[simp]def func294:=qd Tryz.func294
@[simp]def func178:=qd Tryz.func178
@[simp]def func179:=qd Tryz.func179
@[simp]def func226:=qd Tryz.func226
@[simp]def func227:=qd Tryz.func227
@[simp]def func110:=qd Tryz.func110
@[simp]def func111:=qd Tryz.func111
@[simp]def func180:=qd Tryz.func180
@[simp]def func315:=qd Tryz.func315
@[simp]def func316:=qd Tryz.func316
@[simp]def func223:=qd Tryz.func223
@[simp]def func224:=qd Tryz.func224
@[simp]def func225:=qd Tryz.func225
@[simp]def func311:=qd Tryz.func311
@[simp]def func312:=qd Tryz.func312
@[simp]def func313:=qd Tryz.func313
@[simp]def func314:=qd Tryz.func314
@[simp]def func172:=qd Tryz.func172
@[simp]def func173:=qd Tryz.func173
@[simp]def func174:=qd Tryz.func174
@[simp]def func175:=qd Tryz.func175
@[simp]def func176:=qd Tryz.func176
@[simp]def func177:=qd Tryz.func177
@[simp]def func277:=qd Tryz.func277
@[simp]def func278:=qd Tryz.func278
@[simp]def func279:=qd Tryz.func279
@[simp]def func280:=qd Tryz.func280
@[simp]def func281:=qd Tryz.func281
@[simp]def func318:=qd Tryz.func318
@[simp]def func228:=qd Tryz.func228
@[simp]def func229:=qd Tryz.func229
def ntmps309:=Tryz.ntmps309
@[simp]def func309:=qf Tryz.func309
@[simp]def call309:=qc Tryz.func309
def ntmps283:=Tryz.ntmps283
@[simp]def func283:=qf Tryz.func283
@[simp]def call283:=qc Tryz.func283
@[simp]def func334:=qd Tryz.func334
@[simp]def func335:=qd Tryz.func335
@[simp]def func340:=qf Tryz.func340
end Tryq
end
section
open Tryq
def Tryq.underlying3:prog.underlying 3=bO (.int .i64):=(cK 3).trans Tryz.underlying3
def Tryq.underlying5:prog.underlying 5=bO (.int .u8):=(cK 5).trans Tryz.underlying5
def Tryq.underlying9:prog.underlying 9=bO .string:=(cK 9).trans Tryz.underlying9
def Tryq.underlying51:prog.underlying 51=bO (.slice 9):=(cK 51).trans Tryz.underlying51
def Tryq.underlying100:prog.underlying 100=bO (.slice 5):=(cK 100).trans Tryz.underlying100
def Tryq.underlying236:prog.underlying 236=bO (.array 64 232):=(cK 236).trans Tryz.underlying236
def Tryq.underlying184:prog.underlying 184=bO (.array 16 5):=(cK 184).trans Tryz.underlying184
def Tryq.underlying242:prog.underlying 242=bO (.array 256 5):=(cK 242).trans Tryz.underlying242
end
end A
namespace P
open A.Tryq
section
open Go
def zl{p:Prop}(h:p):Go.RowKit.Hid p:=h
def u(x:Z3):Int:=(x.toNat:Int)
@[go_sem] abbrev zw(x:BitVec 32):Value:= .int .u32 (u x)
def GZ(x:Z3):0<=u x:=by simp[u]
def GX(x:Z3):u x<4294967296:=by simp only[u];have:=x.isLt;omega
def AZ(x:Z3):BitVec.ofInt 32 (u x)=x:=by simp[u]
def JS(n:Int)(a:0<=n)(h:n<4294967296):IntKind.u32.wrap n=n:=by
 simp[IntKind.wrap,IntKind.bits,IntKind.signed];omega
def yY(a b:Z3):bits .xor .u32 (u a) (u b)=u (a^^^b):=by
 show IntKind.u32.wrap ((BitVec.ofInt 32 (u a)^^^BitVec.ofInt 32 (u b)).toNat:Int)=_;rw[AZ,AZ];exact JS _ (GZ _)<|GX _
def EW(a b:Z3):bits .and .u32 (u a) (u b)=u (a&&&b):=by
 show IntKind.u32.wrap ((BitVec.ofInt 32 (u a)&&&BitVec.ofInt 32 (u b)).toNat:Int)=_;rw[AZ,AZ];exact JS _ (GZ _)<|GX _
def oG(a b:Z3):bits .or .u32 (u a) (u b)=u (a|||b):=by
 show IntKind.u32.wrap ((BitVec.ofInt 32 (u a)|||BitVec.ofInt 32 (u b)).toNat:Int)=_;rw[AZ,AZ];exact JS _ (GZ _)<|GX _
def EU(a b:Z3):IntKind.u32.wrap (u a+u b)=u (a+b):=by
 simp[IntKind.wrap,IntKind.bits,IntKind.signed,u,BitVec.toNat_add]
def EX(a:Z3):bits .xor .u32 IntKind.u32.max (u a)=u (~~~ a):=by
 show IntKind.u32.wrap ((BitVec.ofInt 32 4294967295^^^BitVec.ofInt 32 (u a)).toNat:Int)=_;rw[AZ,show BitVec.ofInt 32 4294967295=BitVec.allOnes 32 from by decide,BitVec.allOnes_xor];exact JS _ (GZ _)<|GX _
def rU(a:Z3)(n:Nat)(k:Int)(hk:k=((2^n:Nat):Int)):IntKind.u32.wrap (u a*k)=u (a<<<n):=by
 subst hk;simp only[IntKind.wrap,IntKind.bits,IntKind.signed,u,BitVec.toNat_shiftLeft,Nat.shiftLeft_eq];simp
def pI(a:Z3)(n:Nat)(k:Int)(hk:k=((2^n:Nat):Int)):u a/k=u (a>>>n):=by
 subst hk;simp only[u,BitVec.toNat_ushiftRight,Nat.shiftRight_eq_div_pow];simp
def Ez(a:Z3):u a/(4:Int)=u (a>>>2):=pI a 2 _ rfl
def Fa(a:Z3):u a/(8:Int)=u (a>>>3):=pI a 3 _ rfl
def Fb(a:Z3):u a/(64:Int)=u (a>>>6):=pI a 6 _ rfl
def Ey(a:Z3):IntKind.u32.wrap (u a*(128:Int))=u (a<<<7):=rU a 7 _ rfl
def Ep(a:Z3):u a/(128:Int)=u (a>>>7):=pI a 7 _ rfl
def xsr(a:Z3):IntKind.u32.wrap (u a*(256:Int))=u (a<<<8):=rU a 8 _ rfl
def xss(a:Z3):u a/(256:Int)=u (a>>>8):=pI a 8 _ rfl
def Cq(a:Z3):IntKind.u32.wrap (u a*(1024:Int))=u (a<<<10):=rU a 10 _ rfl
def Da(a:Z3):u a/(1024:Int)=u (a>>>10):=pI a 10 _ rfl
def Db(a:Z3):u a/(2048:Int)=u (a>>>11):=pI a 11 _ rfl
def Cr(a:Z3):IntKind.u32.wrap (u a*(8192:Int))=u (a<<<13):=rU a 13 _ rfl
def Dc(a:Z3):u a/(8192:Int)=u (a>>>13):=pI a 13 _ rfl
def Cs(a:Z3):IntKind.u32.wrap (u a*(16384:Int))=u (a<<<14):=rU a 14 _ rfl
def Cu(a:Z3):IntKind.u32.wrap (u a*(32768:Int))=u (a<<<15):=rU a 15 _ rfl
def xot(a:Z3):IntKind.u32.wrap (u a*(65536:Int))=u (a<<<16):=rU a 16 _ rfl
def xov(a:Z3):u a/(65536:Int)=u (a>>>16):=pI a 16 _ rfl
def De(a:Z3):u a/(131072:Int)=u (a>>>17):=pI a 17 _ rfl
def Df(a:Z3):u a/(262144:Int)=u (a>>>18):=pI a 18 _ rfl
def Cv(a:Z3):IntKind.u32.wrap (u a*(524288:Int))=u (a<<<19):=rU a 19 _ rfl
def Dh(a:Z3):u a/(524288:Int)=u (a>>>19):=pI a 19 _ rfl
def Cw(a:Z3):IntKind.u32.wrap (u a*(2097152:Int))=u (a<<<21):=rU a 21 _ rfl
def Di(a:Z3):u a/(4194304:Int)=u (a>>>22):=pI a 22 _ rfl
def xou(a:Z3):IntKind.u32.wrap (u a*(16777216:Int))=u (a<<<24):=rU a 24 _ rfl
def xow(a:Z3):u a/(16777216:Int)=u (a>>>24):=pI a 24 _ rfl
def Cx(a:Z3):IntKind.u32.wrap (u a*(33554432:Int))=u (a<<<25):=rU a 25 _ rfl
def Dj(a:Z3):u a/(33554432:Int)=u (a>>>25):=pI a 25 _ rfl
def Cy(a:Z3):IntKind.u32.wrap (u a*(67108864:Int))=u (a<<<26):=rU a 26 _ rfl
def Cz(a:Z3):IntKind.u32.wrap (u a*(1073741824:Int))=u (a<<<30):=rU a 30 _ rfl
def rr(x:Z3)(n:Nat):Z3:=x>>>n|||x<<<(32-n)
def xvg(x:Z3):x<<<30|||x>>>2=rr x 2:=Jr _ _
def xti:bits .and .u64 (IntKind.u64.wrap<|-2) 31=30:=by decide+kernel
def xsc(x:Z3):x<<<19|||x>>>13=rr x 13:=Jr _ _
def xqa:bits .and .u64 (IntKind.u64.wrap<|-13) 31=19:=by decide+kernel
def xsg(x:Z3):x<<<10|||x>>>22=rr x 22:=Jr _ _
def xqe:bits .and .u64 (IntKind.u64.wrap<|-22) 31=10:=by decide+kernel
def xvh(x:Z3):x<<<26|||x>>>6=rr x 6:=Jr _ _
def xtj:bits .and .u64 (IntKind.u64.wrap<|-6) 31=26:=by decide+kernel
def xsb(x:Z3):x<<<21|||x>>>11=rr x 11:=Jr _ _
def xp9:bits .and .u64 (IntKind.u64.wrap<|-11) 31=21:=by decide+kernel
def xsh(x:Z3):x<<<7|||x>>>25=rr x 25:=Jr _ _
def xqf:bits .and .u64 (IntKind.u64.wrap<|-25) 31=7:=by decide+kernel
def xvi(x:Z3):x<<<25|||x>>>7=rr x 7:=Jr _ _
def xtk:bits .and .u64 (IntKind.u64.wrap<|-7) 31=25:=by decide+kernel
def xse(x:Z3):x<<<14|||x>>>18=rr x 18:=Jr _ _
def xqc:bits .and .u64 (IntKind.u64.wrap<|-18) 31=14:=by decide+kernel
def xsd(x:Z3):x<<<15|||x>>>17=rr x 17:=Jr _ _
def xqb:bits .and .u64 (IntKind.u64.wrap<|-17) 31=15:=by decide+kernel
def xsf(x:Z3):x<<<13|||x>>>19=rr x 19:=Jr _ _
def xqd:bits .and .u64 (IntKind.u64.wrap<|-19) 31=13:=by decide+kernel
def ch(x y z:Z3):Z3:=(x&&&y)^^^(~~~ x&&&z)
def W_(x y z:Z3):Z3:=(x&&&y)^^^(x&&&z)^^^(y&&&z)
def U4(x:Z3):Z3:=rr x 2^^^rr x 13^^^rr x 22
def U6(x:Z3):Z3:=rr x 6^^^rr x 11^^^rr x 25
def MW(x:Z3):Z3:=rr x 7^^^rr x 18^^^x>>>3
def MX(x:Z3):Z3:=rr x 17^^^rr x 19^^^x>>>10
structure St where
 a:Z3
 b:Z3
 c:Z3
 d:Z3
 e:Z3
 f:Z3
 g:Z3
 h:Z3
def T1(e f g h k:Z3):Z3:=h+U6 e+ch e f g+k
def T2(a b c:Z3):Z3:=U4 a+W_ a b c
def xvu(s:St)(k:Z3):St:=⟨T1 s.e s.f s.g s.h k+T2 s.a s.b s.c,s.a,s.b,s.c,s.d+T1 s.e s.f s.g s.h k,s.e,s.f,s.g⟩
def Kt:List Z3:=[1116352408,1899447441,3049323471,3921009573,961987163,1508970993,2453635748,2870763221,3624381080,310598401,607225278,1426881987,1925078388,2162078206,2614888103,3248222580,3835390401,4022224774,264347078,604807628,770255983,1249150122,1555081692,1996064986,2554220882,2821834349,2952996808,3210313671,3336571891,3584528711,113926993,338241895,666307205,773529912,1294757372,1396182291,1695183700,1986661051,2177026350,2456956037,2730485921,2820302411,3259730800,3345764771,3516065817,3600352804,4094571909,275423344,430227734,506948616,659060556,883997877,958139571,1322822218,1537002063,1747873779,1955562222,2024104815,2227730452,2361852424,2428436474,2756734187,3204031479,3329325298]
def Kc(i:Nat):Z3:=Kt.getD i 0
def mH(s:St)(W:Nat->Z3):Nat->St
 |0=>s
 |n+1=>xvu (mH s W n)<|Kc n+W n
def xG(s t:St):St:=⟨s.a+t.a,s.b+t.b,s.c+t.c,s.d+t.d,s.e+t.e,s.f+t.f,s.g+t.g,s.h+t.h⟩
def Vt(s:St)(W:Nat->Z3):St:=xG (mH s W 64) s
end
section
open Go.RowKit
attribute [local go_sem] yY EW oG EU EX
attribute [local go_sem] Cz xti Cv xqa Cq xqe Cy xtj Cw xp9 Ey xqf Cx xtk Cs xqc Cu xqb Cr xqd
def zzy(x y z:Z3)(w:Zy):bE prog 278 #[zw x,zw y,zw z] w fun e w'=>e= .returned (zw<|ch x y z)/\w'=w:=by
 go_enter func278.1,Tryz.ntmps278
 go_wp2
 all_goals go_ret
 all_goals exact⟨rfl,rfl⟩
def xnb(x y z:Z3)(w:Zy):bE prog 280 #[zw x,zw y,zw z] w fun e w'=>e= .returned (zw<|W_ x y z)/\w'=w:=by
 go_enter func280.1,Tryz.ntmps280
 go_wp2
 all_goals go_ret
 all_goals exact⟨rfl,rfl⟩
def vQ(x:Z3)(w:Zy):∀q∈[((2:Int),2),((13:Int),13),((22:Int),22),((6:Int),6),((11:Int),11),((25:Int),25),((7:Int),7),((18:Int),18),((17:Int),17),((19:Int),19)],bE prog 281 #[zw x,zi q.1] w fun e w'=>e= .returned (zw<|rr x q.2)/\w'=w:=by
 intro q a;simp only[xf,Vy,or_false]at a;rcases a with rfl|rfl|rfl|rfl|rfl|rfl|rfl|rfl|rfl|rfl
 all_goals
  go_enter func281.1,Tryz.ntmps281
  go_wp2
  all_goals go_ret
  all_goals refine⟨?_,rfl⟩
 show aP (zu<|bits .or .u32 (u<|x<<<30)<|u x/4)=_;rw[Ez,oG,xvg];show aP (zu<|bits .or .u32 (u<|x<<<19)<|u x/8192)=_;rw[Dc,oG,xsc];show aP (zu<|bits .or .u32 (u<|x<<<10)<|u x/4194304)=_;rw[Di,oG,xsg];show aP (zu<|bits .or .u32 (u<|x<<<26)<|u x/64)=_;rw[Fb,oG,xvh];show aP (zu<|bits .or .u32 (u<|x<<<21)<|u x/2048)=_;rw[Db,oG,xsb];show aP (zu<|bits .or .u32 (u<|x<<<7)<|u x/33554432)=_;rw[Dj,oG,xsh];show aP (zu<|bits .or .u32 (u<|x<<<25)<|u x/128)=_;rw[Ep,oG,xvi];show aP (zu<|bits .or .u32 (u<|x<<<14)<|u x/262144)=_;rw[Df,oG,xse];show aP (zu<|bits .or .u32 (u<|x<<<15)<|u x/131072)=_;rw[De,oG,xsd];show aP (zu<|bits .or .u32 (u<|x<<<13)<|u x/524288)=_;rw[Dh,oG,xsf]
def Sp(x:Z3)(w:Zy):bE prog 279 #[zw x] w fun e w'=>e= .returned (zw<|U4 x)/\w'=w:=by
 go_enter func279.1,Tryz.ntmps279
 go_wp2
 refine(vQ x _ (2,2)<|by simp).mono ?_;rintro e w' ⟨rfl,rfl⟩
 go_wp2
 refine(vQ x _ (13,13)<|by simp).mono ?_;rintro e w' ⟨rfl,rfl⟩
 go_wp2
 refine(vQ x _ (22,22)<|by simp).mono ?_;rintro e w' ⟨rfl,rfl⟩
 go_wp2
 all_goals go_ret
 all_goals exact⟨rfl,rfl⟩
def Ss(x:Z3)(w:Zy):bE prog 277 #[zw x] w fun e w'=>e= .returned (zw<|U6 x)/\w'=w:=by
 go_enter func277.1,Tryz.ntmps277
 go_wp2
 refine(vQ x _ (6,6)<|by simp).mono ?_;rintro e w' ⟨rfl,rfl⟩
 go_wp2
 refine(vQ x _ (11,11)<|by simp).mono ?_;rintro e w' ⟨rfl,rfl⟩
 go_wp2
 refine(vQ x _ (25,25)<|by simp).mono ?_;rintro e w' ⟨rfl,rfl⟩
 go_wp2
 all_goals go_ret
 all_goals exact⟨rfl,rfl⟩
def xn6(x:Z3)(w:Zy):bE prog 224 #[zw x] w fun e w'=>e= .returned (zw<|MW x)/\w'=w:=by
 go_enter func224.1,Tryz.ntmps224
 go_wp2
 refine(vQ x _ (7,7)<|by simp).mono ?_;rintro e w' ⟨rfl,rfl⟩
 go_wp2
 refine(vQ x _ (18,18)<|by simp).mono ?_;rintro e w' ⟨rfl,rfl⟩
 go_wp2
 all_goals go_ret
 all_goals refine⟨?_,rfl⟩
 all_goals show aP (zu<|bits .xor .u32 (u<|rr x 7^^^rr x 18)<|u x/8)=_
 all_goals rw[Fa,yY]
 all_goals rfl
def xn7(x:Z3)(w:Zy):bE prog 225 #[zw x] w fun e w'=>e= .returned (zw<|MX x)/\w'=w:=by
 go_enter func225.1,Tryz.ntmps225
 go_wp2
 refine(vQ x _ (17,17)<|by simp).mono ?_;rintro e w' ⟨rfl,rfl⟩
 go_wp2
 refine(vQ x _ (19,19)<|by simp).mono ?_;rintro e w' ⟨rfl,rfl⟩
 go_wp2
 all_goals go_ret
 all_goals refine⟨?_,rfl⟩
 all_goals show aP (zu<|bits .xor .u32 (u<|rr x 17^^^rr x 19)<|u x/1024)=_
 all_goals rw[Da,yY]
 all_goals rfl
end
section
open Go.RowKit
attribute [local go_sem] yY EW oG EU EX
def Mb(a b c d e f g h k:Z3)(w:Zy):bE prog 223 #[.agg #[zw a,zw b,zw c,zw d,zw e,zw f,zw g,zw h],zw k] w fun en w'=>en= .returned (.agg #[zw<|T1 e f g h k+T2 a b c,zw a,zw b,zw c,zw<|d+T1 e f g h k,zw e,zw f,zw g])/\Below w.heap.size w w':=by
 go_enter func223.1,Tryz.ntmps223
 go_wp2
 go_quiet (fail)
 go_wp2
 refine(Ss e _).mono ?_;rintro en w' ⟨rfl,rfl⟩
 go_wp2
 refine(zzy e f g _).mono ?_;rintro en w' ⟨rfl,rfl⟩
 go_wp2
 refine(Sp a _).mono ?_;rintro en w' ⟨rfl,rfl⟩
 go_wp2
 refine(xnb a b c _).mono ?_;rintro en w' ⟨rfl,rfl⟩
 go_wp2
 refine jz (v:= .agg #[zw<|T1 e f g h k+T2 a b c,zw a,zw b,zw c,zw<|d+T1 e f g h k,zw e,zw f,zw g]) ?_ rfl ⟨rfl,?_⟩
 ·simp[aN,Tryz.results223,go_sem,T1,T2]
 iterate 8 refine Below.setCell ?_ (by simp) _
 refine below_drewN ?_ _
 iterate 2 refine Below.alloc ?_ (by simp) _
 exact zr _ _
def wv(W:Nat->Z3):Ze:=(List.range 64).map fun i=> .int .u32 (u<|W i)
def VQ(W:Nat->Z3):(wv W).length=64:=by simp[wv]
def Gf(W:Nat->Z3)(i:Nat)(h:i<64):(wv W)[i]?=bO (zw<|W i):=by simp[wv,h]
def at8(s:St)(i:Nat):Z3:=[s.a,s.b,s.c,s.d,s.e,s.f,s.g,s.h].getD i 0
def VL(s:St)(i:Nat)(h:i<8):(#[zw s.a,zw s.b,zw s.c,zw s.d,zw s.e,zw s.f,zw s.g,zw s.h]:Za)[i]?=bO (zw<|at8 s i):=by
 match i,h with
 |0,_=>rfl
 |1,_=>rfl
 |2,_=>rfl
 |3,_=>rfl
 |4,_=>rfl
 |5,_=>rfl
 |6,_=>rfl
 |7,_=>rfl
 |n+8,h=>omega
def xso{C:Za}{r s:St}(k:C.size=8)(h:∀i,i<8->C[i]?=bO (zw<|at8 r i+at8 s i)):C=#[zu<|u (xG r s).a,zu<|u (xG r s).b,zu<|u (xG r s).c,zu<|u (xG r s).d,zu<|u (xG r s).e,zu<|u (xG r s).f,zu<|u (xG r s).g,zu<|u (xG r s).h]:=by
 apply Yc;intro i;by_cases j:i<8;rw[h i j,VL _ i j]
 match i,j with
 |0,_=>rfl
 |1,_=>rfl
 |2,_=>rfl
 |3,_=>rfl
 |4,_=>rfl
 |5,_=>rfl
 |6,_=>rfl
 |7,_=>rfl
 |n+8,h=>omega
 rw[ju<|by omega,ju<|by simp;omega]
def XJ(w:Zy)(g:Nat)(t:Zt)(h c1 c2 c3 i j k c7 v0 a v2 b c d e f:Zv)(v:w.heap[g]?=bO (.cells #[h,c1,c2,c3,i,j,k,c7] t (0,0))):
  ((((((((w.setCell (zq g 0) v0).setCell (zq g 1) a).setCell (zq g 2) v2).setCell (zq g 3) b).setCell (zq g 4) c).setCell (zq g 5) d).setCell (zq g 6) e).setCell (zq g 7) f).heap[g]?=bO (.cells #[v0,a,v2,b,c,d,e,f] t (0,0)):=by
 have l:=qe w g 0 _ t v0 v;have m:=qe _ g 1 _ t a l;have n:=qe _ g 2 _ t v2 m;have o:=qe _ g 3 _ t b n;have p:=qe _ g 4 _ t c o;have q:=qe _ g 5 _ t d p;have r:=qe _ g 6 _ t e q;have s:=qe _ g 7 _ t f r;rw[s];simp
def QH(w:Zy)(g k:Nat)(v0 a v2 b c d e f:Zv)(hk:k≠g):((((((((w.setCell (zq g 0) v0).setCell (zq g 1) a).setCell (zq g 2) v2).setCell (zq g 3) b).setCell (zq g 4) c).setCell (zq g 5) d).setCell (zq g 6) e).setCell (zq g 7) f).heap[k]?=w.heap[k]?:=by
 rw[jq _ _ _ _<|by exact hk,jq _ _ _ _<|by exact hk,jq _ _ _ _<|by exact hk,jq _ _ _ _<|by exact hk,jq _ _ _ _<|by exact hk,jq _ _ _ _<|by exact hk,jq _ _ _ _<|by exact hk,jq _ _ _ _<|by exact hk]
def QG(B:Nat)(w0 w:Zy)(g:Nat)(v0 b v2 c d e f i:Zv)(a:B<=g)(h:Below B w0 w):Below B w0<|(((((((w.setCell (zq g 0) v0).setCell (zq g 1) b).setCell (zq g 2) v2).setCell (zq g 3) c).setCell (zq g 4) d).setCell (zq g 5) e).setCell (zq g 6) f).setCell (zq g 7) i:=by
 iterate 8 refine Below.setCell ?_ a _
 exact h
def o7(w:Zy)(g:Nat)(v0 a v2 b c d e f:Zv):((((((((w.setCell (zq g 0) v0).setCell (zq g 1) a).setCell (zq g 2) v2).setCell (zq g 3) b).setCell (zq g 4) c).setCell (zq g 5) d).setCell (zq g 6) e).setCell (zq g 7) f).heap.size=w.heap.size:=by
 simp[aF]
def OT{w:Zy}{r:Nat}{t:Zt}{a0 a b c d e f g:Zv}(h:w.heap[r]?=bO (.cells #[a0,a,b,c,d,e,f,g] t (0,0))):w.cell? (zq r 0)=bO a0/\w.cell? (zq r 1)=bO a/\w.cell? (zq r 2)=bO b/\w.cell? (zq r 3)=bO c/\w.cell? (zq r 4)=bO d/\w.cell? (zq r 5)=bO e/\w.cell? (zq r 6)=bO f/\w.cell? (zq r 7)=bO g/\∀i,w.frozen? (zq r i)=bK:=by
 refine⟨?_,?_,?_,?_,?_,?_,?_,?_,fun i=>jx _ _ _ _ _ h⟩<;>rw[je _ _ _ _ _ _ h]<;>rfl
structure wS(s:St)(W:Nat->Z3)(w:Zy)(C:Za)(wr:Zy):Prop where
 dI:Below w.heap.size w wr
 sz:w.heap.size+1+1+1<wr.heap.size
 b0:wr.heap[w.heap.size]?=bO (.cells #[zw s.a,zw s.b,zw s.c,zw s.d,zw s.e,zw s.f,zw s.g,zw s.h] 233 (0,0))
 b1:wr.heap[w.heap.size+1]?=bO (.cells (wv W).toArray 236 (0,0))
 b2:wr.heap[w.heap.size+1+1]?=bO (.cells #[zu 0,zu 0,zu 0,zu 0,zu 0,zu 0,zu 0,zu 0] 233 (0,0))
 b3:wr.heap[w.heap.size+1+1+1]?=bO (.cells C 233 (0,0))
def wS.put8{s:St}{W:Nat->Z3}{w b w1:Zy}{a0 i j k l m n o v0 c v2 d e f g h:Zv}(inv:wS s W w #[a0,i,j,k,l,m,n,o] b)(a:Below b.heap.size b.drew w1):wS s W w #[v0,c,v2,d,e,f,g,h]<|(((((((w1.setCell (zq (w.heap.size+1+1+1) 0) v0).setCell (zq (w.heap.size+1+1+1) 1) c).setCell (zq (w.heap.size+1+1+1) 2) v2).setCell (zq (w.heap.size+1+1+1) 3) d).setCell (zq (w.heap.size+1+1+1) 4) e).setCell (zq (w.heap.size+1+1+1) 5) f).setCell (zq (w.heap.size+1+1+1) 6) g).setCell (zq (w.heap.size+1+1+1) 7) h:=by
 have p:=inv.sz;refine⟨QG _ _ _ _ _ _ _ _ _ _ _ _ (by omega)<|(inv.dI.drew).trans<|a.mono inv.dI.size,by rw[o7];exact zn inv.sz a.size,?_,?_,?_,XJ _ _ _ _ _ _ _ _ _ _ _ _ _ _ _ _ _ _ _<|(a.block _<|by exact inv.sz).trans inv.b3⟩;rw[QH _ _ _ _ _ _ _ _ _ _ _<|by omega];exact(a.block _<|by show w.heap.size<b.heap.size;omega).trans inv.b0;rw[QH _ _ _ _ _ _ _ _ _ _ _<|by omega];exact(a.block _<|by show w.heap.size+1<b.heap.size;omega).trans inv.b1;rw[QH _ _ _ _ _ _ _ _ _ _ _<|by omega];exact(a.block _<|by show w.heap.size+1+1<b.heap.size;omega).trans inv.b2
def wS.start(s:St)(W:Nat->Z3)(w:Zy):wS s W w #[zw s.a,zw s.b,zw s.c,zw s.d,zw s.e,zw s.f,zw s.g,zw s.h]<|(((w.alloc<|.cells #[zw s.a,zw s.b,zw s.c,zw s.d,zw s.e,zw s.f,zw s.g,zw s.h] 233).alloc<|.cells (wv W).toArray 236).alloc<|.cells #[zu 0,zu 0,zu 0,zu 0,zu 0,zu 0,zu 0,zu 0] 233).alloc<|.cells #[zw s.a,zw s.b,zw s.c,zw s.d,zw s.e,zw s.f,zw s.g,zw s.h] 233:=by
 refine⟨?_,?_,?_,?_,?_,?_⟩;exact((((zr _ _).alloc (ze _) _).alloc (by simp) _).alloc (by simp;omega) _).alloc (by simp;omega) _;simp
 all_goals (show((((w.heap.push _).push _).push _).push _)[_]?=_)
 all_goals (simp only[jh,Xe])
 rw[aB<|by omega,aB<|by omega,aB<|by omega,aA trivial];rw[aB<|by omega,aB<|by omega,aA trivial];rw[aB<|by omega,aA trivial];rw[aA trivial]
def AD(s:St)(W:Nat->Z3)(w:Zy)(J:∀i,i<64->w.cell? ⟨2,i,bN⟩=bO (.int .u32<|u<|Kc i)):
  bE prog 163 #[.agg #[.int .u32<|u s.a,.int .u32<|u s.b,.int .u32<|u s.c,.int .u32<|u s.d,.int .u32<|u s.e,.int .u32<|u s.f,.int .u32<|u s.g,.int .u32<|u s.h],.agg (wv W).toArray] w fun en w'=>en= .returned (.agg #[.int .u32<|u (Vt s W).a,.int .u32<|u (Vt s W).b,.int .u32<|u (Vt s W).c,.int .u32<|u (Vt s W).d,.int .u32<|u (Vt s W).e,.int .u32<|u (Vt s W).f,.int .u32<|u (Vt s W).g,.int .u32<|u (Vt s W).h])/\Below w.heap.size w w':=by
 have M:2<w.heap.size:=qz (J 0<|by decide);have V:=zl J;clear J;go_enter func163.1,Tryz.ntmps163
 go_wp2
 go_loopw [9] (fun i wr=>∃k:Nat,k<=64/\i= .int .i64 k/\wS s W w #[.int .u32<|u (mH s W k).a,.int .u32<|u (mH s W k).b,.int .u32<|u (mH s W k).c,.int .u32<|u (mH s W k).d,.int .u32<|u (mH s W k).e,.int .u32<|u (mH s W k).f,.int .u32<|u (mH s W k).g,.int .u32<|u (mH s W k).h] wr) (fun i _=>(64-intOf i).toNat)
 case atStart=>
  exact⟨0,by omega,rfl,wS.start s W w⟩
 case round=>
  obtain⟨k,hk,rfl,inv⟩:=hrel;have X:=inv.sz;by_cases l:k<64
  ·have K:=(inv.dI.cell (p:=⟨2,k,bN⟩) M).trans (V.o k l)
   have L:wr.cell? ⟨w.heap.size+1,k,bN⟩=bO (.int .u32<|u<|W k):=by rw[je _ _ k _ _ _ inv.b1];simpa using Gf W k l
   obtain⟨t,x,y,z,B,D,E,F,R⟩:=OT inv.b3
   go_wp2
   go_still_tail 8,(by kernel_rfl)
   go_wp2
   refine(Mb _ _ _ _ _ _ _ _ _ _).mono ?_;rintro en w1 ⟨rfl,r⟩;have Q:=(r.block _<|by exact inv.sz).trans inv.b3;clear K L t x y z B D E F R;obtain⟨t,x,y,z,B,D,E,F,R⟩:=OT Q;have Y:=zn inv.sz r.size;have m:=(inv.dI.drew).trans<|r.mono inv.dI.size;have U:=zl inv;have T:=zl r;clear Q r m inv
   go_wp2
   go_roundw
   case rel=>exact⟨k+1,by omega,by go_num,U.o.put8 T.o⟩
   case measure=>simp[intOf];omega
  obtain rfl:k=64:=by omega
  clear hk l
  go_wp2
  go_loopw [22] (fun i w2=>∃(k:Nat) (C:Za),k<=8/\i= .int .i64 k/\wS s W w C w2/\C.size=8/\∀i,i<8->C[i]?=bO (.int .u32<|u (if i<k then at8 (mH s W 64) i+at8 s i else at8 (mH s W 64) i))) (fun i _=>(8-intOf i).toNat)
  case atStart=>
   exact⟨0,_,by omega,rfl,inv,rfl,fun i n=>by rw[aB<|by omega];exact VL _ i n⟩
  case round=>
   obtain⟨k,C,hk,rfl,j,q,o⟩:=hrel;have S:=j.sz;by_cases l:k<8
   ·have h1:wr.cell? ⟨w.heap.size+1+1+1,k,bN⟩=bO (.int .u32<|u<|at8 (mH s W 64) k):=by rw[je _ _ k _ _ _ j.b3,o k l,aB<|by omega]
    have h2:wr.cell? ⟨w.heap.size,k,bN⟩=bO (.int .u32<|u<|at8 s k):=by rw[je _ _ k _ _ _ j.b0,VL s k l]
    have h3:wr.frozen? ⟨w.heap.size+1+1+1,k,bN⟩=bK:=jx _ _ _ _ _ j.b3;have G:wS s W w (C.setIfInBounds k<|.int .u32<|u<|at8 (mH s W 64) k+at8 s k)<|wr.drew.setCell ⟨w.heap.size+1+1+1,k,bN⟩<|.int .u32<|u<|at8 (mH s W 64) k+at8 s k:=by
     refine⟨(j.dI.drew).setCell (by show w.heap.size<=w.heap.size+1+1+1;omega) _,by simpa[aF]using j.sz,?_,?_,?_,qe _ _ _ _ _ _ j.b3⟩;rw[jq _ _ _ _<|by show w.heap.size≠w.heap.size+1+1+1;omega];exact j.b0;rw[jq _ _ _ _<|by show w.heap.size+1≠w.heap.size+1+1+1;omega];exact j.b1;rw[jq _ _ _ _<|by show w.heap.size+1+1≠w.heap.size+1+1+1;omega];exact j.b2
    have H:Hid<|∀i,i<8->(C.setIfInBounds k<|.int .u32<|u<|at8 (mH s W 64) k+at8 s k)[i]?=bO (.int .u32<|u (if i<k+1 then at8 (mH s W 64) i+at8 s i else at8 (mH s W 64) i)):=by
     intro i n;rw[Z5];by_cases e:k=i;subst e;rw[aA rfl,aA<|by omega,aA<|by omega];rw[aB e,o i n];by_cases O:i<k;rw[aA O,aA<|by omega];rw[aB O,aB<|by omega]
    clear o
    go_wp2
    go_still_tail 8,(by kernel_rfl)
    go_wp2
    go_roundw
    case rel=>(repeat apply Exists.intro);exact⟨⟨k+1,_,by omega,by go_num,G,by simpa using q,H.o⟩,rfl⟩
    case measure=>simp[intOf];omega
   obtain rfl:k=8:=by omega
   have I:C=#[.int .u32<|u (Vt s W).a,.int .u32<|u (Vt s W).b,.int .u32<|u (Vt s W).c,.int .u32<|u (Vt s W).d,.int .u32<|u (Vt s W).e,.int .u32<|u (Vt s W).f,.int .u32<|u (Vt s W).g,.int .u32<|u (Vt s W).h]:=xso q (fun i n=>by rw[o i n,aA n]);subst I;obtain⟨Z,g1,g2,g3,g4,g5,g6,g7,_⟩:=OT j.b3;obtain⟨z0,z1,z2,z3,z4,z5,z6,z7,zf⟩:=OT j.b2;clear o hk l inv
   go_wp2
   refine jz (v:= .agg #[.int .u32<|u (Vt s W).a,.int .u32<|u (Vt s W).b,.int .u32<|u (Vt s W).c,.int .u32<|u (Vt s W).d,.int .u32<|u (Vt s W).e,.int .u32<|u (Vt s W).f,.int .u32<|u (Vt s W).g,.int .u32<|u (Vt s W).h]) ?_ rfl ⟨rfl,?_⟩
   ·simp[aN,Tryz.results163,go_sem, *]
   exact QG _ _ _ _ _ _ _ _ _ _ _ _ (by omega) j.dI
end
end P
end Go.Proofs.YtjnbhiamaabbgabGreatDoor
