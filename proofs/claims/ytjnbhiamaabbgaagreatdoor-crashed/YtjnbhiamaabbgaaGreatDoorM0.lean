import Derived.Conc.Beside
set_option linter.all false
set_option maxRecDepth 100000
set_option maxHeartbeats 8000000
namespace Go.Proofs.YtjnbhiamaabbgaaGreatDoor
def aB:=@if_neg
def aA:=@if_pos
open Bool renaming false->bK,true->bL
open Go renaming Program->aV
open Go.Result renaming andThen->aY
open Go.World renaming cell?->aQ,setCell->aF
open Option renaming none->bN,some->bO
theorem _root_.Go.RowKit.Hid.o{p:Prop}(h:Go.RowKit.Hid p):p:=h
def za:=@Array.getElem?_eq_some_iff
def zd:=@Array.getElem?_setIfInBounds_ne
def ze:=@Nat.le_refl
def zg:=@Go.Sem.runT_eq
def zh:=@List.length_cons
def zj:=@List.length_append
def zn:=@Nat.lt_of_lt_of_le
def zp:=@Option.some.injEq
def zr:=@Go.RowKit.Below.refl
def zt:=@Option.map_eq_some_iff
def zx:=@Array.getElem?_setIfInBounds_self_of_lt
def zy:=@Go.Conc.mem_ofEvents
def xa:=@List.eq_nil_of_length_eq_zero
def xf:=@List.mem_cons
def xg:=@Array.getElem?_eq_getElem
def xh:=@Go.World.size_alloc
def xj:=@List.mem_cons_of_mem
def xl:=@Bool.and_eq_true
def xm:=@Go.run_underlying
def xn:=@Go.IntKind.wrap_i64
def xq:=@List.map_cons
def xt:=@List.length_take
def xu:=@Bool.false_eq_true
def xv:=@List.setIfInBounds_toArray
def xy:=@List.take_succ_eq_append_getElem
def xz:=@Nat.le_trans
def jb:=@List.length_drop
def jc:=@List.cons_append
def jd:=@List.length_singleton
def je:=@Go.cell_of_row
def jf:=@Option.some.inj
def jg:=@List.size_toArray
def jh:=@Array.getElem?_push
def jj:=@Array.getElem?_map
def jk:=@List.nil_append
def jl:=@Nat.eq_zero_or_pos
def jn:=@List.length_nil
def jo:=@List.mem_cons_self
def jp:=@List.mem_singleton
def jq:=@Go.heap_setCell_other
def jr:=@Classical.byContradiction
def js:=@Option.map_some
def ju:=@Array.getElem?_eq_none
def jv:=@Option.getD_some
def jw:=@Go.heap_alloc_new
def jx:=@Go.frozen_of_row
def jy:=@Nat.zero_add
def jz:=@Go.bodyPost_ret
def qb:=@List.length_pos_iff
def qe:=@Go.heap_setCell_same
def qg:=@Prod.mk.injEq
def qh:=@Go.Sem.run_bind'
def qi:=@Array.all_eq_true_iff_forall_mem
def qj:=@List.take_of_length_le
def qo:=@List.getElem?_eq_none
def qp:=@List.mem_map
def qw:=@Array.replicate_succ
def qx:=@Array.replicate_zero
def qy:=@Go.RowKit.Below.heap_alloc
def qz:=@Go.block_lt_of_cell
def q0:=@Array.getElem?_modify
def q8:=@List.getElem?_toArray
def Zb:=@List.length_map
def Zd:=@List.take_left'
def Zi:=@List.append_toArray
def Zj:=@Array.getD_eq_getD_getElem?
def Zm:=@Go.World.cell?_of_block
def Zn:=@List.getElem_mem
def Zq:=@List.append_assoc
def Zr:=@List.nodup_cons
def Zs:=@Array.append_assoc
def Zx:=@List.getElem?_append_right
def Zz:=@List.set_cons_succ
def Z1:=@Array.mem_iff_getElem
def Z2:=@List.getElem?_append_left
def Z5:=@Array.getElem?_setIfInBounds
def Z6:=@List.drop_left'
def Z7:=@List.push_toArray
def Z9:=@List.set_cons_zero
def Xb:=@List.getElem?_cons_succ
def Xe:=@Array.size_push
def Xf:=@Array.size_setIfInBounds
def Xh:=@Nat.ne_of_gt
def Xj:=@of_decide_eq_true
def Xl:=@List.getElem?_cons_zero
def Xo:=@List.getD_eq_getElem?_getD
def Xq:=@List.append_nil
def Xr:=@Go.Sem.events_bind
def Xw:=@List.mergeSort_perm
def Xy:=@beq_eq_false_iff_ne
def X8:=@List.take_append_of_le_length
def X9:=@decide_eq_true_eq
def Ja:=@Nat.add_assoc
def Jb:=@Go.Sem.runT_bind'
def Jd:=@List.map_append
def Je:=@List.mem_append
def Jf:=@List.getElem?_take
def Jj:=@Go.wpList_store_row
def Jr:=@BitVec.or_comm
def Js:=@Int.tmod_eq_emod_of_nonneg
def Jt:=@List.ext_getElem?
def Ju:=@beq_iff_eq
def J4:=@List.foldl_cons
def Yc:=@Array.ext_getElem?
def Yd:=@List.pairwise_cons
def Yf:=@Go.results_cell_row
def Yh:=@List.getElem?_eq_getElem
def Yj:=@List.drop_append_of_le_length
def Yk:=@Bool.or_eq_true
def Yn:=@List.drop_succ_cons
def Yp:=@List.drop_eq_nil_of_le
def Yv:=@Go.setRow_heap
def Yw:=@List.take_length
def Vd:=@List.drop_eq_getElem_cons
def Vg:=@Nat.min_eq_left
def Vh:=@Go.wpList_load_row
def Vi:=@Nat.lt_or_ge
def Vj:=@Nat.zero_le
def Vl:=@Go.World.ownsRow_nil
def Vq:=@List.sum_cons
def Vx:=@List.drop_drop
def Vy:=@List.not_mem_nil
def V8:=@Go.RowKit.Below.heap_setCell
def V9:=@Nat.sub_self
def Wd:=@Nat.not_lt_zero
def Wk:=@Array.mem_of_getElem?
def Wl:=@List.set_append_right
def Wm:=@List.singleton_append
def Wt:=@Int.toNat_natCast
def Wu:=@List.flatten_cons
def W7:=@Bool.false_and
def W8:=@List.drop_zero
def W9:=@List.lt_irrefl
def PL:=@Nat.not_succ_le_self
def PM:=@Nat.pow_le_pow_right
def IE:=@Array.mem_append
def uP:=@List.map_map
def IG:=@List.range'_succ
def zW:=@Nat.add_comm
def XQ:=@List.extract_eq_take_drop
def XR:=@List.getElem?_eq_some_iff
def XT:=@List.getElem_append_right
def PO:=@List.take_succ_cons
def XU:=@List.getElem_append_left
def IB:=@Go.Frame.finish_at
def IC:=@List.mem_filter
def PI:=@Bool.true_eq_false
def PK:=@List.getElem?_drop
def PR:=@List.pairwise_mergeSort
def PS:=@Function.comp_def
def XV:=@List.drop_of_length_le
def PT:=@List.flatMap_cons
def IJ:=@List.foldl_append
def DN:=@List.map_nil
def XW:=@List.reverse_singleton
def XY:=@Nat.div_div_eq_div_mul
def DR:=@Nat.pow_succ
def DT:=@Go.Sem.run_pure
def XZ:=@Classical.choose_spec
def PW:=@List.take_append_drop
def PY:=@List.all_eq_true
def PZ:=@Nat.mod_eq_of_lt
def IP:=@ByteArray.ext
@[go_sem] abbrev zo(b:Nat):Go.Value:=.pointer<|bO ⟨b,0,bN⟩
@[go_sem] abbrev zk(b k:Nat):Go.Value:=.pointer<|bO ⟨b,k,bN⟩
@[go_sem] abbrev zi(n:Int):Go.Value:=.int .i64 n
@[go_sem] abbrev zu(n:Int):Go.Value:=.int .u32 n
@[go_sem] abbrev zb(n:Int):Go.Value:=.int .u8 n
abbrev Zl:=List UInt8
abbrev Zy:=Go.World
abbrev Zv:=Go.Value
abbrev Zg:=Go.Goroutine
abbrev Zp:=Go.Program
abbrev Z3:=BitVec 32
abbrev Za:=Array Go.Value
abbrev Ze:=List Go.Value
abbrev Zf:=Go.Frame
abbrev Zc:=Array Go.Func
abbrev Zt:=Go.TypeId
abbrev Zu:=Nat→UInt8
abbrev ZP:=Nat→Prop
abbrev Z8:=UInt8
@[go_sem] abbrev zq(b k:Nat):Go.Addr:=⟨b,k,bN⟩
def Qa:Go.Code→Go.Code
 |.seq x _=>x
 |_=> .skip
def Qb:Go.Code→Go.Code
 |.seq _ x=>x
 |_=> .skip
def Qc:Go.Code→Go.Code
 |.cond _ x _=>x
 |_=> .skip
def Qd:Go.Code→Go.Code
 |.cond _ _ x=>x
 |_=> .skip
def Qk:Go.Code→Go.Code
 |.block _ x=>x
 |_=> .skip
def Ql:Go.Code→Go.Code
 |.loop x=>x
 |_=> .skip
def Qf:Option Go.Code→Go.Code
 |some x=>x
 |_=> .skip
def Qn:Nat→Go.Code→Go.Code
 |0,c=>c
 |n+1,c=>Qb<|Qn n c
namespace A
open Go
section
variable {w v:Zy}
def re(w:Zy)(t:Nat->Question->Nat)(d:Nat):Zy:={w with tape:=t,drawn:=d}
def rW{α:Type}:Result α->Zy
 | .ok _ w=>w
 | .halt _ w=>w
def Ww{α:Type}(v:Zy):Result α->Result α
 | .ok a _=> .ok a v
 | .halt h _=> .halt h v
def vK(w:Zy)(t a:Nat->Question->Nat)(d d':Nat):re (re w t d) a d'=re w a d':=rfl
def KX(w:Zy):re w w.tape w.drawn=w:=rfl
def ET{α:Type}(r:Result α):Ww (rW r) r=r:=by cases r<;>rfl
def BU(w:Zy)(k:Nat)(t:Nat->Question->Nat)(d:Nat):Prop:=∀i q,i<k->t (d+i) q=w.tape (w.drawn+i) q
def BU.le{w:Zy}{k k':Nat}{t:Nat->Question->Nat}{d:Nat}(h:BU w k t d)(hk:k'<=k):BU w k' t d:=fun i q a=>h i q<|by omega
def nQ{α:Type}(w:Zy)(r:Result α)(run:Zy->Result α):Prop:=w.drawn<=(rW r).drawn/\(rW r).tape=w.tape/\
 ∀t d,BU w ((rW r).drawn-w.drawn) t d->run (re w t d)=Ww (re (rW r) t<|d+((rW r).drawn-w.drawn)) r
def jK{α:Type}:Result α->Prop
 | .ok _ _=>True
 | .halt (.panic _) _=>True
 |_=>False
def NI:Halt->Prop
 | .blocked| .waiting| .goexit| .fatal _| .throw _| .unsupported (.initOrder _)=>False
 |_=>True
def nR{α:Type}:Result α->Prop
 | .ok _ _=>True
 | .halt h _=>NI h
def BP(P:Zp)(t:Zt):Bool:=match P.underlying t with
 |some (.chan _ _)=>bK
 |_=>bL
def yF(P:Zp)(b:Builtin)(ts:Array Zt):Bool:=match b with
 | .append| .clear| .copy| .delete| .max| .min| .panic| .recover| .unsafeSliceData| .unsafeString=>bL
 | .len| .cap=>match ts[0]?with
  |some u=>BP P u
  |none=>bL
 |_=>bK
def Vn(P:Zp):Target->Bool
 | .builtin b ts _ _=>yF P b ts
 | .coroexit _=>bK
 |_=>bL
def VI(P:Zp)(src dst:Zt):Bool:=match P.underlying src,P.underlying dst with
 |some (.int _),bO (.int _)=>bL
 |some (.int _),bO .string=>bL
 |some .string,bO .string=>bL
 |some .string,bO (.slice e)=>match P.underlying e with
  |some (.int .u8)=>bL
  |_=>bK
 |some (.slice e),bO .string=>match P.underlying e with
  |some (.int .u8)=>bL
  |_=>bK
 |_,_=>bK
def ES(P:Zp)(c:Call):Bool:=match c.callee with
 | .builtin b=>yF P b c.argTypes
 |_=>bL
def qM(P:Zp)(o:Op):Bool:=match o with
 | .convert src dst _=>VI P src dst
 | .call c| .defer c=>ES P c
 | .go _| .send ..| .recv ..| .select ..| .ready _| .waits _=>bK
 |_=>bL
def AX:Op->Bool
 | .defer _=>bL
 |_=>bK
def rT(P:Zp)(b:Bool)(ops:Array Oper):Bool:=ops.all fun o=>qM P o.op&&(b|| !AX o.op)
def qn(P:Zp)(b:Bool):Code->Bool
 | .region _ ops _=>rT P b ops
 | .seq x y=>qn P b x&&qn P b y
 | .cond _ x y=>qn P b x&&qn P b y
 | .block _ x=>qn P b x
 | .loop x=>qn P b x
 | .scope x=>qn P b x
 | .rangeFunc _ _ x y=>qn P bK x&&qn P bK y
 |_=>bL
structure dL(P:Zp)(o:Option Obj):Prop where
 pend:∀c e,o≠bO (.pending c e)
 calls:∀ds,o=bO (.deferred<|bO ds)->∀d∈ds,Vn P d.target=bL
 loop:∀l,o=bO (.loop l)->qn P bK l.assign=bL/\qn P bK l.body=bL/\(∀c,l.pending=bO c->qn P bK c=bL)/\P.inits.idxOf? l.fn=bN
def dL.none{P:Zp}:dL P bN:=⟨fun _ _ h=>(by cases h),fun _ h=>(by cases h),fun _ h=>(by cases h)⟩
def dL.cells{P:Zp}{c:Za}{e:Zt}{f:Nat×Nat}:dL P<|bO<|.cells c e f:=⟨fun _ _ h=>(by cases h),fun _ h=>(by cases h),fun _ h=>(by cases h)⟩
def odd:Obj->Bool
 | .chan ..| .loop _| .deferred _| .pending ..| .map ..=>bL
 |_=>bK
def WO(o o':Obj):Prop:=(o.isChan=bL/\odd o'=bL)\/∃c e,o= .cells #[] e (0,0)/\o'= .cells c e (0,0)
structure eI where
 N:Nat
 V:Nat->Option Obj
abbrev Pn:=Inhabited eI
abbrev Pn.N[p:Pn]:Nat:=p.default.N
abbrev Pn.V[p:Pn]:Nat->Option Obj:=p.default.V
variable [pn:Pn]
def xpy(X:ZP)(w v:Zy):Prop:=Pn.N<=w.heap.size/\∀r,X r->r<Pn.N->v.heap[r]?=Pn.V r\/v.heap[r]?=w.heap[r]?
structure Sm(P:Zp)(X:ZP)(w v:Zy):Prop where
 size:v.heap.size=w.heap.size
 out:∀r,¬X r->v.heap[r]?=w.heap[r]?
 dead:∀r,X r->∃o o',w.heap[r]?=bO o/\v.heap[r]?=bO o'/\WO o o'
 oks:∀r:Nat,dL P w.heap[r]?
 tape:v.tape=w.tape
 drawn:v.drawn=w.drawn
 os:v.os=w.os
 output:v.output=w.output
 pin:xpy X w v
def qI(X:ZP)(n:Nat)(e:Event):Prop:=
 match e.loc with
 | .cell a=>¬X a.block/\a.block<n
 | .obj r=>(X r->e.write=bK)/\r<n
 | .mark .noRoom=>True
 | .mark (.extern _)=>True
 | .output=>True
 |_=>False
def qI.mono{X:ZP}{n m:Nat}{e:Event}(h:qI X n e)(c:n<=m):qI X m e:=by
 obtain⟨l,a,b⟩:=e;unfold qI at*;split<;>simp_all<;>omega
structure CR{α:Type}(P:Zp)(X:ZP)(v:Zy)(es:Array Event)(r:Result α)(r2:Result α×Array Event)(v':Zy)(new:Array Event):Prop where
 eq:r2=(Ww v' r,es++new)
 sm:Sm P X (rW r) v'
 kept:∀x,X x->v'.heap[x]?=v.heap[x]?
 evs:∀e∈new,qI X v'.heap.size e
 grows:v.heap.size<=v'.heap.size
structure Bl{α:Type}(P P':Zp)(X:ZP)(s:Sem α):Prop where
 gJ:∀w v es,Sm P X w v->jK (s.run P' w)->∃v' new,CR P X v es (s.run P' w) (s.runT P v es) v' new
 loc:∀w,Sm P X w w->jK (s.run P' w)->nQ w (s.run P' w) (s.run P')
 dZ:∀w,Sm P X w w->nR (s.run P' w)
section
variable {α β:Type} {P P':aV} {X:Nat->Prop}
def Sm.self(h:Sm P X w v):Sm P X w w:=⟨rfl,fun _ _=>rfl,fun r d=>by
 obtain⟨o,i,a,f,⟨b,g⟩|⟨c,e,rfl,rfl⟩⟩:=h.dead r d;exact⟨o,o,a,a,.inl ⟨b,by cases o<;>cases b;rfl⟩⟩;exact⟨_,_,a,a,.inr ⟨_,_,rfl,rfl⟩⟩,h.oks,rfl,rfl,rfl,rfl,⟨h.pin.1,fun _ _ _=> .inr rfl⟩⟩
def C4{s:Sem α}{k:α->Sem β}(j:Bl P P' X s)(hk:∀a,Bl P P' X<|k a):Bl P P' X<|s.bind k:=by
 refine⟨fun w v o f c=>?_,fun w f c=>?_,fun w f=>?_⟩;rotate_left 2;rw[qh P' s k w];have C:=j.dZ w f;cases hq:s.run P' w with
 |halt hh w'=>rw[hq]at C;exact C
 |ok a w'=>
  obtain⟨n,b,r⟩:=j.gJ w w #[] f (by rw[hq];trivial);rw[hq]at r;exact(hk a).dZ w' r.sm.self
 rw[qh P' s k w]at c⊢;rw[Jb P s k v o];cases hr:s.run P' w with
 |halt hh w'=>
  rw[hr]at c;obtain⟨n,b,h⟩:=j.gJ w v o f (by rw[hr];revert c;cases hh<;>exact id);rw[hr]at h;refine⟨n,b,⟨?_,h.sm,h.kept,h.evs,h.grows⟩⟩;rw[h.eq];rfl
 |ok a w'=>
  rw[hr]at c;obtain⟨n,b,h⟩:=j.gJ w v o f (by rw[hr];trivial);rw[hr]at h;obtain⟨B,y,l⟩:=(hk a).gJ w' n (o++b) h.sm c;refine⟨B,b++y,⟨?_,l.sm,fun x D=>(l.kept x D).trans<|h.kept x D, ?_,xz h.grows l.grows⟩⟩;rw[h.eq];show(k a).runT P n (o++b)=_;rw[l.eq,Zs];rfl;intro e F;rcases IE.1 F with x|x
  exact(h.evs e x).mono l.grows;exact l.evs e x
 have E:=qh P' s k;unfold nQ;simp only[E]at c⊢;cases hr:s.run P' w with
 |halt h w'=>
  rw[hr]at c;obtain⟨p,g,m⟩:=j.loc w f (by rw[hr];revert c;cases h<;>exact id);rw[hr]at p g m;refine⟨p,g,fun t d z=>?_⟩;rw[m t d z];rfl
 |ok a w'=>
  rw[hr]at c;obtain⟨p,g,m⟩:=j.loc w f (by rw[hr];trivial);rw[hr]at p g m;simp only[rW,Ww]at p g m;obtain⟨n,b,r⟩:=j.gJ w w #[] f (by rw[hr];trivial);rw[hr]at r;obtain⟨J,G,H⟩:=(hk a).loc w' r.sm.self c;show w.drawn<=(rW<|(k a).run P' w').drawn/\(rW<|(k a).run P' w').tape=w.tape/\∀t d,BU w ((rW<|(k a).run P' w').drawn-w.drawn) t d->_=Ww (re (rW<|(k a).run P' w') t<|d+((rW<|(k a).run P' w').drawn-w.drawn)) ((k a).run P' w');refine⟨by omega,G.trans g,fun t d z=>?_⟩;rw[m t d<|z.le<|by omega];have:=H t (d+(w'.drawn-w.drawn)) (fun i q I=>by
   have:=z (w'.drawn-w.drawn+i) q (by omega);rw[Ja,this,g,show w.drawn+(w'.drawn-w.drawn+i)=w'.drawn+i by omega])
  rw[show d+(w'.drawn-w.drawn)+((rW<|(k a).run P' w').drawn-w'.drawn)=d+((rW<|(k a).run P' w').drawn-w.drawn) by omega]at this;exact this
def wT{s:Sem α}{k:α->Sem β}(b:Bl P P' X s)(hk:∀a,Bl P P' X<|k a):Bl P P' X<|s>>=k:=C4 b hk
def yI{s:Sem α}(r:Zy->Result α)(h:∀w,rW (r w)=w)(g:∀w t d,r (re w t d)=Ww (re w t d) (r w))(tm:∀w,nR<|r w)(a:∀w,s.run P' w=r w)
  (b:∀w v es,Sm P X w v->jK (r w)->∃new,s.runT P v es=(Ww v<|r w,es++new)/\∀e∈new,qI X v.heap.size e):Bl P P' X s:=by
 refine⟨fun w v es c f=>?_,fun w c f=>?_,fun w _=>by rw[a];exact tm w⟩;rw[a]at f⊢;obtain⟨new,i,j⟩:=b w v es c f;exact⟨v,new,⟨i,by rw[h];exact c,fun _ _=>rfl,j,ze _⟩⟩;unfold nQ;rw[a,h];refine⟨ze _,rfl,fun t d _=>?_⟩;rw[a,g];simp
def Vv(a:α):Bl P P' X (Pure.pure a:Sem α):=
 yI (fun w=> .ok a w) (fun _=>rfl) (fun _ _ _=>rfl) (fun _=>trivial) (fun _=>rfl) (fun w v b _ _=>⟨#[],by simp[Pure.pure,Sem.runT,Ww,-Sem.runT_eq],by simp⟩)
def vE(h:Halt)(a:NI h):Bl P P' X (Sem.halt h:Sem α):=
 yI (fun w=> .halt h w) (fun _=>rfl) (fun _ _ _=>rfl) (fun _=>a) (fun _=>rfl) (fun w v b _ _=>⟨#[],by simp[Sem.runT,Ww,-Sem.runT_eq],by simp⟩)
def Aw(m:Mark)(b:m= .noRoom\/∃f,m= .extern f):Bl P P' X<|mark m:=
 yI (fun w=> .ok () w) (fun _=>rfl) (fun _ _ _=>rfl) (fun _=>trivial) (fun _=>rfl) (fun w v c _ _=>⟨#[⟨.mark m,bK,bL⟩],by simp[mark,Sem.runT,Ww,-Sem.runT_eq],fun e a=>by
  simp at a;subst a;rcases b with rfl|⟨f,rfl⟩<;>exact trivial⟩)
def Sm.frozen(h:Sm P X w v)(a:Addr):v.frozen? a=w.frozen? a:=by
 unfold World.frozen?;by_cases f:X a.block;obtain⟨o,j,b,d,⟨g,i⟩|⟨c,e,rfl,rfl⟩⟩:=h.dead _ f;rw[b,d];cases o<;>cases g
 cases j<;>cases i<;>rfl
 rw[b,d];rw[h.out _ f]
def xeu(a:Addr):Bl P P' X<|Go.frozen a:=
 yI (fun w=> .ok (w.frozen? a) w) (fun _=>rfl) (fun _ _ _=>rfl) (fun _=>trivial) (fun _=>rfl) (fun w v c b _=>⟨#[],by
  simp[Go.frozen,Sem.runT,Ww,b.frozen a,-Sem.runT_eq],by simp⟩)
def Xc{k:Zp->Sem α}(h:k P=k P')(hk:Bl P P' X<|k P'):Bl P P' X<|program>>=k:=by
 have d:∀w,(program>>=k).run P' w=(k P').run P' w:=fun w=>rfl;have e:∀w a,(program>>=k).runT P w a=(k P').runT P w a:=fun w a=>by rw[<-h];rfl
 refine⟨fun w v a b c=>?_,fun w b c=>?_,fun w b=>by rw[d];exact hk.dZ w b⟩;rw[d]at c⊢;rw[e];exact hk.gJ w v a b c;rw[d]at c;have:=hk.loc w b c;unfold nQ at this⊢;simp only[d];exact this
def IN(q:Question):Bl P P' X<|choose q:=by
 have run:∀p w,(choose q).run p w=if q.forced then .ok 0 w else .ok (q.cut<|w.tape w.drawn q) {w with drawn:=w.drawn+1}:=fun p w=>by
  unfold choose;simp only[Sem.run]
 refine⟨fun w v e a b=>?_,fun w a b=>?_,fun w _=>by rw[run];split<;>trivial⟩;rw[run];split;exact⟨v,#[],⟨by simp[choose,Sem.runT, *,Ww,-Sem.runT_eq],a,fun _ _=>rfl,by simp,ze _⟩⟩;refine⟨{v with drawn:=v.drawn+1},#[],⟨?_,⟨a.size,a.out,a.dead,a.oks,a.tape,by simp[rW,a.drawn],a.os,a.output,a.pin⟩,fun _ _=>rfl,by simp,ze _⟩⟩;simp[choose,Sem.runT, *,Ww,a.tape,a.drawn,-Sem.runT_eq];unfold nQ;simp only[run];split;exact⟨ze _,rfl,fun t d _=>by simp[rW,Ww]⟩;refine⟨by simp[rW],rfl,fun t d c=>?_⟩;have:=c 0 q (by simp[rW]);simp only[Nat.add_zero]at this;simp[rW,Ww,re,this];exact⟨rfl,rfl,rfl⟩
def Sm.low(h:Sm P X w v)(r:Nat)(b:X r):r<w.heap.size:=by
 obtain⟨o,d,a,c,_⟩:=h.dead r b;exact(za.1 a).1
def Sm.push(h:Sm P X w v)(o:Obj)(ho:dL P<|bO o):Sm P X {w with heap:=w.heap.push o} {v with heap:=v.heap.push o}:=by
 refine⟨by simp[h.size],fun r a=>?_,fun r a=>?_,fun r=>by
  rw[jh];split;exact ho;exact h.oks r,h.tape,h.drawn,h.os,h.output,⟨by have:=h.pin.1;simp only[Xe];omega,fun r a b=>by
  have:=h.low r a;simp only[jh,h.size,show r≠w.heap.size by omega,if_false];exact h.pin.2 r a b⟩⟩
 simp only[jh,h.size];split;rfl;exact h.out r a;have:=h.low r a;simp only[jh,h.size,show r≠w.heap.size by omega,if_false];exact h.dead r a
def xqi(o:Obj)(ho:dL P<|bO o):Bl P P' X<|newObj o:=by
 have run:∀p w,(newObj o).run p w= .ok w.heap.size {w with heap:=w.heap.push o}:=fun _ _=>rfl;refine⟨fun w v e a b=>?_,fun w a b=>?_,fun w _=>by rw[run];trivial⟩;rw[run];refine⟨{v with heap:=v.heap.push o},#[],⟨?_,a.push o ho,fun x c=>?_,by simp,by simp⟩⟩;simp[newObj,Sem.runT,Ww,a.size,-Sem.runT_eq];have:=a.low x c;simp only[jh,a.size,show x≠w.heap.size by omega,if_false];unfold nQ;rw[run];refine⟨ze _,rfl,fun t d _=>?_⟩;rw[run];simp[rW,Ww,re];exact⟨rfl,rfl,rfl⟩
def Wb{w:Zy}{a:Addr}{x:Zv}(hx:w.cell? a=bO x):a.block<w.heap.size:=by
 apply jr;intro b;simp[aQ,ju (by omega:w.heap.size<=a.block)]at hx
def Sm.cell(h:Sm P X w v){a:Addr}(b:¬X a.block):v.cell? a=w.cell? a:=by simp[aQ,h.out _ b]
def Sm.iH(h:Sm P X w v){a:Addr}(f:X a.block):w.cell? a=bN/\(∀s,w.noCell a s= .stuck s)/\∀at_ u,w.heap[a.block]?≠bO (.view at_ u):=by
 obtain⟨o,j,b,g,⟨d,i⟩|⟨c,e,rfl,rfl⟩⟩:=h.dead _ f;cases o<;>cases d
 exact⟨by simp[aQ,b],by simp[World.noCell,b],by simp[b]⟩;exact⟨by simp[aQ,b],by simp[World.noCell,b],by simp[b]⟩
def Sk{p:Zp}{at_:Addr}{u:Zt}{k:Addr}{b:Bool}(h:v.heap[at_.block]?=w.heap[at_.block]?):v.seen p at_ u k b=w.seen p at_ u k b:=by
 unfold World.seen;rw[h]
def zx6{p:Zp}:∀(d:Nat) (t:Zt) (o:Nat) (x:Zv),plainCell p d t o=bO x->∃b bs,x.bytes?=bO (b::bs):=by
 intro d;induction d with
 |zero=>intro t o x h;cases h
 |succ d ih=>
  intro t o x h;unfold plainCell at h;split at h;obtain⟨f,c,a⟩:=Array.exists_of_findSome?_eq_some h;split at a;exact ih _ _ _ a;cases a;dsimp only at h;split at h;cases h;exact ih _ _ _ h;split at h<;>cases h;exact⟨_,_,rfl⟩
  split at h<;>cases h
  cases ‹IntKind›<;>exact⟨_,_,rfl⟩
  split at h<;>cases h
  cases ‹FloatKind›<;>exact⟨_,_,rfl⟩
  split at h<;>cases h
  cases ‹FloatKind›<;>exact⟨_,_,rfl⟩
  cases h
def zqc{p:Zp}{e:Zt}{f x stop:Nat}(h:x<stop):∃why,seenCells p #[] e f x stop= .error why:=by
 cases f with
 |zero=>exact⟨_,rfl⟩
 |succ f=>
  unfold seenCells;rw[aB<|by omega];dsimp only;split;exact⟨_,rfl⟩;split;exact⟨_,rfl⟩;exact⟨_,rfl⟩
def Sm.nA(h:Sm P X w v)(p:Zp){at_:Addr}(hx:X at_.block)(u:Zt)(k:Addr)(b:Bool):∃why,w.seen p at_ u k b= .error why:=by
 obtain⟨o,q,d,m,j⟩:=h.dead _ hx;unfold World.seen;simp only[bind,Except.bind,pure,Except.pure,d];split;exact⟨_,rfl⟩;cases hl:plainCell p p.depth u k.off with
 |none=>exact⟨_,rfl⟩
 |some like=>
  obtain⟨y,a,i⟩:=zx6 _ _ _ _ hl;simp only[i,js];cases byteOfCell p p.depth u k.off with
  |none=>exact⟨_,rfl⟩
  |some β=>
   rcases j with⟨g,n⟩|⟨c,e,rfl,rfl⟩;cases o<;>cases g
   exact⟨_,rfl⟩;dsimp only;split;exact⟨_,rfl⟩;split
   rename_i b0 _
   obtain⟨why,l⟩:=zqc (p:=p) (e:=e) (f:=(y::a).length+1) (x:=at_.off/p.cellsOf e*p.bytesOf e+b0+β) (stop:=at_.off/p.cellsOf e*p.bytesOf e+b0+β+(y::a).length) (by simp);rw[l];exact⟨why,rfl⟩;exact⟨_,rfl⟩
structure vT(P P':Zp):Prop where
 seen:∀(w:Zy) at_ u k b,w.seen P' at_ u k b=w.seen P at_ u k b
 tight:∀u,tight P' P'.depth u=tight P P.depth u
def zyy{p:Zp}{w:Zy}{at_:Addr}{u:Zt}{k:Addr}{b:Bool}{x:Zv}{l:List Addr}(h:w.viewLoad p at_ u k b= .ok (x,l)):(∀y∈l,y.block=at_.block)/\at_.block<w.heap.size:=by
 unfold World.viewLoad at h;cases hs:w.seen p at_ u k b with
 |error e=>rw[hs]at h;cases h
 |ok s=>
  obtain⟨c,e,j,first,a,d⟩:=s;rw[hs]at h;simp only[bind,Except.bind]at h;cases hv:Value.ofBytes a (d.flatMap fun(_,s,bs)=>(bs.drop (first-s)).take (first+((a.bytes?.map (·.length)).getD 0)-max first s))with
  |none=>simp only[hv]at h;cases h
  |some y=>
   simp only[hv]at h;cases h;refine⟨fun y f=>?_, ?_⟩;simp only[qp]at f;obtain⟨z,_,rfl⟩:=f;rfl
   ·apply jr
    intro g;have i:w.heap[at_.block]?=bN:=ju (by omega);unfold World.seen at hs;simp only[bind,Except.bind,i]at hs
    repeat' split at hs
    all_goals cases hs
end
end
end A
namespace A
open Go
variable [pn:Pn]
section
variable {w:Zy} {p:Zp}
section
variable {α β:Type} {P P':aV} {X:Nat->Prop}
def vT.viewLoad(K:vT P P'){w v:Zy}{at_:Addr}(h:v.heap[at_.block]?=w.heap[at_.block]?)(u:Zt)(k:Addr)(b:Bool):v.viewLoad P at_ u k b=w.viewLoad P' at_ u k b:=by
 unfold World.viewLoad;rw[K.seen,Sk h]
def TD(a:Addr)(m:Mode):(Go.load a m).run p w=match w.cell? a with
  |some v=> .ok v w
  |none=>match w.farLoad p a (m== .atomic)with
   | .ok (v,_)=> .ok v w
   | .error h=> .halt h w:=by
 unfold Go.load;cases hc:w.cell? a with
 |some x=>simp[Sem.run,hc]
 |none=>cases hf:w.farLoad p a (m== .atomic)<;>simp[Sem.run,hc,hf]
def Ax(a:Addr)(m:Mode)(es:Array Event):(Go.load a m).runT p w es=match w.cell? a with
  |some v=>(.ok v w,es.push ⟨.cell a,bK,m== .atomic⟩)
  |none=>match w.farLoad p a (m== .atomic)with
   | .ok (v,touched)=>(.ok v w,es++touched.toArray.map (⟨.cell ·,bK,m== .atomic⟩))
   | .error h=>(.halt h w,es):=by
 unfold Go.load;cases hc:w.cell? a with
 |some x=>simp[Sem.runT,hc,-Sem.runT_eq]
 |none=>cases hf:w.farLoad p a (m== .atomic)<;>simp[Sem.runT,hc,hf,-Sem.runT_eq]
def Bm(a:Addr)(m:Mode)(p:Zp)(w:Zy)(t:Nat->Question->Nat)(d:Nat):(Go.load a m).run p (re w t d)=Ww (re w t d) ((Go.load a m).run p w)/\rW ((Go.load a m).run p w)=w:=by
 have e:(re w t d).cell? a=w.cell? a:=rfl;have f:(re w t d).farLoad p a (m== .atomic)=w.farLoad p a (m== .atomic):=rfl;unfold Go.load;simp only[Sem.run,e,f];cases w.cell? a with
 |some x=>exact⟨rfl,rfl⟩
 |none=>
  cases w.farLoad p a (m== .atomic)with
  |ok x=>exact⟨rfl,rfl⟩
  |error x=>exact⟨rfl,rfl⟩
def s9(K:vT P P'){w v:Zy}(c:Sm P X w v)(a:Addr)(b:Bool){x:Zv}{l:List Addr}(h:w.farLoad P' a b= .ok (x,l)):
  v.farLoad P a b= .ok (x,l)/\∀y∈l,¬X y.block/\y.block<v.heap.size:=by
 unfold World.farLoad at h⊢;by_cases g:X a.block;have k:=(c.iH g).2.2;exfalso;revert h;cases ho:w.heap[a.block]?with
 |none=>intro h;cases h
 |some o=>
  cases o with
  |view at_ u=>exact absurd ho<|k _ _
  |_=>intro h;cases h
 rw[c.out _ g];cases ho:w.heap[a.block]?with
 |none=>rw[ho]at h;cases h
 |some o=>
  rw[ho]at h;cases o with
  |view at_ u=>
   simp only at h⊢;by_cases d:X at_.block;obtain⟨f,m⟩:=c.nA _ d u a b;have:w.viewLoad P' at_ u a b= .error f:=by
    unfold World.viewLoad;rw[m];rfl
   rw[this]at h;cases h;rw[K.viewLoad (c.out _ d) u a b];cases hl:w.viewLoad P' at_ u a b with
   |error z=>rw[hl]at h;cases h
   |ok z=>
    rw[hl]at h;cases h;obtain⟨i,j⟩:=zyy hl;exact⟨rfl,fun y e=>by rw[i y e];exact⟨d,by rw[c.size];exact j⟩⟩
  |_=>cases h
def My(K:vT P P')(a:Addr)(m:Mode):Bl P P' X<|Go.load a m:=by
 refine⟨fun w v s f g=>?_,fun w f g=>?_,fun w f=>?_⟩;rotate_left 2;rw[TD];have p:=(f.oks a.block).pend;cases hc:w.cell? a with
 |some x=>trivial
 |none=>
  cases b:w.farLoad P' a (m== .atomic)with
  |ok z=>trivial
  |error h=>
   unfold World.farLoad World.noCell at b;cases ho:w.heap[a.block]?with
   |none=>rw[ho]at b;cases b;trivial
   |some o=>
    rw[ho]at b p;cases o with
    |view at_ u=>
     simp only at b;cases hl:w.viewLoad P' at_ u a (m== .atomic)with
     |ok z=>rw[hl]at b;cases b
     |error z=>rw[hl]at b;cases b;trivial
    |pending c e=>exact absurd rfl<|p c e
    |_=>cases b;trivial
 rw[TD]at g⊢;rw[Ax];by_cases n:X a.block;exfalso;obtain⟨j,k,q⟩:=f.iH n;have b:w.farLoad P' a (m== .atomic)= .error (.stuck "load: no such cell"):=by
  unfold World.farLoad;rw[k];split;exact absurd ‹_› (q _ _);rfl
 rw[j,b]at g;exact g;rw[f.cell n];cases hc:w.cell? a with
 |some x=>exact⟨v,#[⟨.cell a,bK,m== .atomic⟩],⟨by simp[Ww],f,fun _ _=>rfl,fun e i=>by
   simp at i;subst i;exact⟨n,by rw[f.size];exact Wb hc⟩,ze _⟩⟩
 |none=>
  rw[hc]at g;cases b:w.farLoad P' a (m== .atomic)with
  |ok z=>
   obtain⟨x,l⟩:=z;obtain⟨j,k⟩:=s9 K f a (m== .atomic) b;rw[j];refine⟨v,l.toArray.map (⟨.cell ·,bK,m== .atomic⟩),⟨by simp[Ww],f,fun _ _=>rfl,fun e i=>?_,ze _⟩⟩;simp at i;obtain⟨y,r,rfl⟩:=i;exact k y r
  |error h=>
   rw[b]at g;exfalso;revert g;unfold World.farLoad World.noCell at b;cases ho:w.heap[a.block]?with
   |none=>rw[ho]at b;cases b;exact id
   |some o=>
    rw[ho]at b;cases o with
    |view at_ u=>
     simp only at b;cases hl:w.viewLoad P' at_ u a (m== .atomic)with
     |ok z=>rw[hl]at b;cases b
     |error z=>rw[hl]at b;cases b;exact id
    |_=>cases b;exact id
 unfold nQ;have:=Bm a m P' w;rw[(this w.tape w.drawn).2];refine⟨ze _,rfl,fun t d _=>?_⟩;rw[(this t d).1];simp
def Sm.set{w v:Zy}(h:Sm P X w v){a:Addr}(f:¬X a.block)(x:Zv):Sm P X (w.setCell a x)<|v.setCell a x:=by
 refine⟨by simp[aF,h.size],fun r c=>?_,fun r c=>?_,fun r=>?_,h.tape,h.drawn,h.os,h.output,⟨by simp only[aF,Array.size_modify];exact h.pin.1,fun r c g=>by
  have b:a.block≠r:=fun e=>f<|e▸c;simp only[aF,q0,b,if_false];exact h.pin.2 r c g⟩⟩
 simp only[aF,q0,h.out r c];have b:a.block≠r:=fun e=>f<|e▸c;simp only[aF,q0,b,if_false];exact h.dead r c;have d:=h.oks r;simp only[aF,q0];split;cases ho:w.heap[r]?with
 |none=>exact .none
 |some o=>
  rw[ho]at d;cases o with
  |cells=>exact .cells
  |_=>exact d
 exact d
def Kf{a:Addr}(c:¬X a.block)(x:Zv)(r:Nat)(d:X r):(w.setCell a x).heap[r]?=w.heap[r]?:=by
 have b:a.block≠r:=fun e=>c<|e▸d;simp only[aF,q0,b,if_false]
def Sm.setObj{w v:Zy}(h:Sm P X w v){r:Nat}(hx:¬X r)(o:Obj)(ho:dL P<|bO o):Sm P X {w with heap:=w.heap.setIfInBounds r o} {v with heap:=v.heap.setIfInBounds r o}:=by
 refine⟨by simp[h.size],fun s b=>?_,fun s b=>?_,fun s=>?_,h.tape,h.drawn,h.os,h.output,⟨by simp only[Xf];exact h.pin.1,fun s b c=>by
  have a:r≠s:=fun e=>hx<|e▸b;simp only[Z5,a,if_false];exact h.pin.2 s b c⟩⟩
 simp only[Z5,h.size,h.out s b];have a:r≠s:=fun e=>hx<|e▸b;simp only[Z5,a,if_false];exact h.dead s b;show dL P (w.heap.setIfInBounds r o)[s]?;rw[Z5]
 repeat' split
 exact ho;exact .none;exact h.oks s
def Mq{r:Nat}(b:¬X r)(o:Obj)(s:Nat)(c:X s):(w.heap.setIfInBounds r o)[s]?=w.heap[s]?:=by
 have a:r≠s:=fun e=>b<|e▸c;simp only[Z5,a,if_false]
def whole:Zv->Bool
 | .agg _=>bL
 | .tuple _=>bL
 |_=>bK
def KO(a:Addr)(x:Zv)(m:Mode):(Go.store a x m).run p w=
  (if whole x then .halt (.stuck "store: not the value of one cell") w else
  match w.cell? a with
  |some _=>if w.frozen? a then .halt (.unsupported<|.unsafePointer "a write to bytes that a string shares") w else .ok () (w.setCell a x)
  |none=>match w.farStore p a x (m== .atomic)with
   | .ok (w,_)=> .ok () w
   | .error h=> .halt h w:Result Unit):=by
 unfold Go.store;cases x<;>rfl
def XS(a:Addr)(x:Zv)(m:Mode)(es:Array Event):(Go.store a x m).runT p w es=
  (if whole x then(.halt (.stuck "store: not the value of one cell") w,es)else
  match w.cell? a with
  |some _=>if w.frozen? a then(.halt (.unsupported<|.unsafePointer "a write to bytes that a string shares") w,es)else(.ok ()<|w.setCell a x,es.push ⟨.cell a,bL,m== .atomic⟩)
  |none=>match w.farStore p a x (m== .atomic)with
   | .ok (w,touched)=>(.ok () w,es++touched.toArray.map (⟨.cell ·,bL,m== .atomic⟩))
   | .error h=>(.halt h w,es):Result Unit×Array Event):=by
 unfold Go.store;cases x<;>rfl
def pZ{at_:Addr}{u:Zt}{k:Addr}{b:Bool}{c:Za}{e:Zt}{fr:Nat×Nat}{first:Nat}{like:Zv}{cells:List<|Nat×Nat×Zl}
  (h:w.seen p at_ u k b= .ok (c,e,fr,first,like,cells)):w.heap[at_.block]?=bO (.cells c e fr):=by
 unfold World.seen at h;simp only[bind,Except.bind,pure,Except.pure]at h
 repeat' split at h
 all_goals cases h
 all_goals assumption
def YO(p:Zp)(w v:Zy)(at_:Addr)(u:Zt)(k:Addr)(x:Zv)(b:Bool)(n:v.heap[at_.block]?=w.heap[at_.block]?):
  (∃e,w.viewStore p at_ u k x b= .error e/\v.viewStore p at_ u k x b= .error e)\/
  (∃o l,w.viewStore p at_ u k x b= .ok ({w with heap:=w.heap.setIfInBounds at_.block o},l)/\v.viewStore p at_ u k x b= .ok ({v with heap:=v.heap.setIfInBounds at_.block o},l)/\(∀y∈l,y.block=at_.block)/\at_.block<w.heap.size/\∃c e f,o= .cells c e f):=by
 unfold World.viewStore;rw[Sk n];cases htt:tight p p.depth u with
 |false=>exact .inl ⟨_,rfl,rfl⟩
 |true=>
  cases hs:w.seen p at_ u k b with
  |error e=>exact .inl ⟨e,rfl,rfl⟩
  |ok s=>
   obtain⟨c,e,j,first,g,cells⟩:=s;have d:=pZ hs;cases hx:x.bytes? with
   |none=>exact .inl ⟨_,rfl,rfl⟩
   |some bytes=>
    by_cases h:bO bytes.length=g.bytes?.map (·.length);simp only[Bool.not_true,xu,if_false,bind,Except.bind,pure,Except.pure,ne_eq,h,not_true_eq_false];generalize hfd:List.foldlM (m:=Except String) _ c cells=R;cases R with
    |error e=>exact .inl ⟨e,rfl,rfl⟩
    |ok c'=>
     refine .inr ⟨.cells c' e j,_,rfl,rfl,fun y i=>?_,(za.1 d).1,_,_,_,rfl⟩;simp only[qp]at i;obtain⟨z,_,rfl⟩:=i;rfl
    refine .inl ⟨ "memory seen as another type: a value of another size", ?_, ?_⟩<;>
    ·simp only[Bool.not_true,xu,if_false,bind,Except.bind,ne_eq,h,not_false_eq_true,if_true]
     rfl
def vT.viewStore(K:vT P P')(w:Zy)(at_:Addr)(u:Zt)(k:Addr)(x:Zv)(b:Bool):w.viewStore P' at_ u k x b=w.viewStore P at_ u k x b:=by
 unfold World.viewStore;rw[K.seen,K.tight]
def DB(K:vT P P'){w v:Zy}(g:Sm P X w v)(a:Addr)(x:Zv)(b:Bool){w':Zy}{l:List Addr}(h:w.farStore P' a x b= .ok (w',l)):
  ∃r o,¬X r/\(∃c e f,o= .cells c e f)/\w'={w with heap:=w.heap.setIfInBounds r o}/\v.farStore P a x b= .ok ({v with heap:=v.heap.setIfInBounds r o},l)/\∀y∈l,y.block=r/\r<v.heap.size:=by
 unfold World.farStore at h⊢;by_cases m:X a.block;have s:=(g.iH m).2.2;exfalso;revert h;cases ho:w.heap[a.block]?with
 |none=>intro h;cases h
 |some o=>
  cases o with
  |view at_ u=>exact absurd ho<|s _ _
  |_=>intro h;cases h
 rw[g.out _ m];cases ho:w.heap[a.block]?with
 |none=>rw[ho]at h;cases h
 |some o=>
  rw[ho]at h;cases o with
  |view at_ u=>
   simp only at h⊢;by_cases j:X at_.block;obtain⟨z,t⟩:=g.nA _ j u a b;exfalso;have:∃y,w.viewStore P' at_ u a x b= .error y:=by
    unfold World.viewStore;rw[t];cases tight P' P'.depth u<;>exact⟨_,rfl⟩
   obtain⟨y,d⟩:=this;rw[d]at h;cases h;rcases YO P' w v at_ u a x b (g.out _ j)with⟨e,i,k⟩|⟨o,B,i,k,n,p,q⟩
   rw[i]at h;cases h;rw[i]at h;cases h;refine⟨at_.block,o,j,q,rfl, ?_,fun y d=>⟨n y d,by rw[g.size];exact p⟩⟩;rw[<-K.viewStore,k]
  |_=>cases h
def Le{a:Addr}{x:Zv}{b:Bool}{h:Halt}(c:w.farStore p a x b= .error h):¬jK (Result.halt h w:Result Unit):=by
 unfold World.farStore World.noCell at c;cases ho:w.heap[a.block]?with
 |none=>rw[ho]at c;cases c;exact id
 |some o=>
  rw[ho]at c;cases o with
  |view at_ u=>
   simp only at c;cases hl:w.viewStore p at_ u a x b with
   |ok z=>rw[hl]at c;cases c
   |error z=>rw[hl]at c;cases c;exact id
  |_=>cases c;exact id
def D0(K:vT P P')(a:Addr)(x:Zv)(m:Mode):Bl P P' X<|Go.store a x m:=by
 refine⟨fun w v T g f=>?_,fun w g f=>?_,fun w g=>?_⟩;rotate_left 2;rw[KO];have G:=(g.oks a.block).pend;split;trivial;cases hc:w.cell? a with
 |some y=>dsimp only;split<;>trivial
 |none=>
  cases b:w.farStore P' a x (m== .atomic)with
  |ok z=>trivial
  |error h=>
   unfold World.farStore World.noCell at b;cases ho:w.heap[a.block]?with
   |none=>rw[ho]at b;cases b;trivial
   |some o=>
    rw[ho]at b G;cases o with
    |view at_ u=>
     simp only at b;cases hl:w.viewStore P' at_ u a x (m== .atomic)with
     |ok z=>rw[hl]at b;cases b
     |error z=>rw[hl]at b;cases b;trivial
    |pending c e=>exact absurd rfl<|G c e
    |_=>cases b;trivial
 rw[KO]at f⊢;rw[XS];by_cases j:whole x=bL;rw[aA j]at f;exact f.elim;rw[aB j]at f⊢;rw[aB j];by_cases q:X a.block;exfalso;obtain⟨Q,C,D⟩:=g.iH q;have b:w.farStore P' a x (m== .atomic)= .error (.stuck "store: no such cell"):=by
  unfold World.farStore;rw[C];split;exact absurd ‹_› (D _ _);rfl
 rw[Q,b]at f;exact f;rw[g.cell q];cases hc:w.cell? a with
 |some y=>
  rw[hc]at f;rw[g.frozen a];cases hz:w.frozen? a with
  |true=>rw[hz]at f;exact f.elim
  |false=>
   refine⟨v.setCell a x,#[⟨.cell a,bL,m== .atomic⟩],⟨by simp[Ww],g.set q x,fun r p=>Kf q x r p,fun e n=>?_,by simp[aF]⟩⟩;simp at n;subst n;exact⟨q,by simp[aF,g.size];exact Wb hc⟩
 |none=>
  rw[hc]at f;cases b:w.farStore P' a x (m== .atomic)with
  |error h=>
   rw[b]at f;exact absurd f<|Le b
  |ok z=>
   obtain⟨H,l⟩:=z;obtain⟨r,o,p,⟨I,J,L,rfl⟩,rfl,C,D⟩:=DB K g a x (m== .atomic) b;simp only[C];refine⟨{v with heap:=v.heap.setIfInBounds r<|.cells I J L},l.toArray.map (⟨.cell ·,bL,m== .atomic⟩),⟨by simp[Ww],g.setObj p _ .cells,fun s R=>Mq p _ s R,fun e n=>?_,by simp⟩⟩;simp at n;obtain⟨y,S,rfl⟩:=n;obtain⟨i,B⟩:=D y S;exact⟨by rw[i];exact p,by rw[i];simpa using B⟩
 unfold nQ;rw[KO]at f⊢;by_cases j:whole x=bL;rw[aA j]at f;exact f.elim;rw[aB j]at f⊢;have k:∀t d,(re w t d).cell? a=w.cell? a:=fun _ _=>rfl;have E:∀t d,(re w t d).frozen? a=w.frozen? a:=fun _ _=>rfl;cases hc:w.cell? a with
 |some y=>
  rw[hc]at f;cases hz:w.frozen? a with
  |true=>rw[hz]at f;exact f.elim
  |false=>
   refine⟨ze _,rfl,fun t d _=>?_⟩;rw[KO,aB j,k,hc];simp only[E,hz];simp[rW,Ww,re,aF]
 |none=>
  rw[hc]at f;cases b:w.farStore P' a x (m== .atomic)with
  |error h=>rw[b]at f;exact absurd f<|Le b
  |ok z=>
   obtain⟨H,l⟩:=z;have F:∃r o,H={w with heap:=w.heap.setIfInBounds r o}/\∀t d,(re w t d).farStore P' a x (m== .atomic)= .ok ({re w t d with heap:=w.heap.setIfInBounds r o},l):=by
    unfold World.farStore World.noCell at b⊢;cases ho:w.heap[a.block]?with
    |none=>rw[ho]at b;cases b
    |some o=>
     rw[ho]at b;cases o with
     |view at_ u=>
      simp only at b;rcases YO P' w w at_ u a x (m== .atomic) rfl with⟨e,i,B⟩|⟨o,l',i,B,e3,e4,_⟩
      rw[i]at b;cases b;rw[i]at b;cases b;refine⟨at_.block,o,rfl,fun t d=>?_⟩;rw[show(re w t d).heap=w.heap from rfl,ho];simp only;rcases YO P' w (re w t d) at_ u a x (m== .atomic) rfl with⟨e,f1,f2⟩|⟨o',l'',f1,f2,f3,f4,_⟩
      rw[i]at f1;cases f1;rw[f2];rw[i]at f1;have M:=(Prod.mk.inj<|Except.ok.inj f1).1;have N:=(Prod.mk.inj<|Except.ok.inj f1).2;have O:w.heap.setIfInBounds at_.block o=w.heap.setIfInBounds at_.block o':=congrArg World.heap M;rw[N,O];rfl
     |_=>cases b
   obtain⟨r,o,rfl,hk⟩:=F;refine⟨ze _,rfl,fun t d _=>?_⟩;rw[KO,aB j,k,hc];simp only[hk];simp[rW,Ww,re]
def Jv(r:Nat)(p:Zp)(w:Zy):(getObj r).run p w=match w.heap[r]?with
   |some (.cells ..)=> .halt (.stuck "getObj: a row of cells") w
   |some o=> .ok o w
   |none=> .halt (.stuck "getObj: no such block") w:=by
 unfold getObj;simp only[Sem.run];cases w.heap[r]?with
 |none=>rfl
 |some o=>cases o<;>rfl
def zw4(r:Nat)(p:Zp)(w:Zy)(es:Array Event):(getObj r).runT p w es=match w.heap[r]?with
   |some (.cells ..)=>(.halt (.stuck "getObj: a row of cells") w,es)
   |some o=>(.ok o w,es.push ⟨.obj r,bK,o.isChan⟩)
   |none=>(.halt (.stuck "getObj: no such block") w,es):=by
 unfold getObj;simp only[Sem.runT];cases w.heap[r]?with
 |none=>rfl
 |some o=>cases o<;>rfl
def Mu{r:Nat}{k:Obj->Sem β}(hk:∀o,¬X r->dL P (bO o)->Bl P P' X (k o))(hd:∀o,o.isChan=bL->∀w,¬jK ((k o).run P' w)/\nR ((k o).run P' w)):Bl P P' X<|getObj r>>=k:=by
 have q:∀w,(getObj r>>=k).run P' w=((getObj r).run P' w).andThen fun o L=>(k o).run P' L:=fun w=>qh P' _ _ w;have j:∀w,Sm P X w w->jK ((getObj r>>=k).run P' w)->∃o,¬X r/\dL P (bO o)/\∀t d,(getObj r>>=k).run P' (re w t d)=(k o).run P' (re w t d):=fun w g a=>by
  rw[q,Jv]at a;cases hw:w.heap[r]?with
  |none=>rw[hw]at a;exact a.elim
  |some o=>
   rw[hw]at a;have b:¬X r:=fun b=>by
    obtain⟨p,K,i,C,⟨n,D⟩|⟨c,e,rfl,rfl⟩⟩:=g.dead _ b;rw[hw]at i;cases i;cases o<;>cases n
    exact(hd _ rfl _).1 a;rw[hw]at i;cases i;exact a
   refine⟨o,b,by rw[<-hw];exact g.oks r,fun t d=>?_⟩;rw[q,Jv,show(re w t d).heap[r]?=w.heap[r]?from rfl,hw];cases o with
   |cells c e f=>exact a.elim
   |_=>rfl
 refine⟨fun w v m g a=>?_,fun w g a=>?_,fun w g=>?_⟩;rotate_left 2;rw[q,Jv];cases hw:w.heap[r]?with
 |none=>trivial
 |some o=>
  by_cases y:o.isChan=bL;have:=(hd o y w).2;cases o<;>cases y
  exact this;have b:(∃c e f,o= .cells c e f)\/¬X r:=by
   by_cases b:X r;obtain⟨p,K,i,C,⟨n,D⟩|⟨c,e,rfl,rfl⟩⟩:=g.dead _ b;rw[hw]at i;cases i;exact absurd n y;rw[hw]at i;cases i;exact .inl ⟨_,_,_,rfl⟩;exact .inr b
  rcases b with⟨c,e,f,rfl⟩|b;trivial;have:=(hk o b<|by rw[<-hw];exact g.oks r).dZ w g;cases o with
  |cells=>trivial
  |_=>exact this
 rw[q,Jv]at a⊢;rw[show(getObj r>>=k).runT P v m=_ from Jb P _ _ v m,zw4];by_cases b:X r;exfalso;obtain⟨o,M,i,C,⟨n,D⟩|⟨c,e,rfl,rfl⟩⟩:=g.dead _ b;rw[i]at a;cases o<;>cases n
 exact(hd _ rfl _).1 a;rw[i]at a;exact a;rw[g.out r b];cases hw:w.heap[r]?with
 |none=>rw[hw]at a;exact a.elim
 |some o=>
  rw[hw]at a;have z:r<v.heap.size:=by rw[g.size];exact(za.1 hw).1
  have j:jK ((k o).run P' w)->∃B l,CR P X v m ((k o).run P' w) ((k o).runT P v<|m.push ⟨.obj r,bK,o.isChan⟩) B l:=fun s=>by
   obtain⟨B,l,h⟩:=(hk o b<|by rw[<-hw];exact g.oks r).gJ w v (m.push ⟨.obj r,bK,o.isChan⟩) g s;refine⟨B,#[⟨.obj r,bK,o.isChan⟩]++l,⟨by rw[h.eq];simp,h.sm,h.kept,fun e G=>?_,h.grows⟩⟩;rcases IE.1 G with x|x
   simp at x;subst x;exact⟨fun h=>absurd h b,zn z h.grows⟩;exact h.evs e x
  cases o with
  |cells _ _ _=>exact a.elim
  |_=>exact j a
 obtain⟨o,b,H,h⟩:=j w g a;have E:(getObj r>>=k).run P' w=(k o).run P' w:=h w.tape w.drawn;rw[E]at a⊢;obtain⟨l1,I,J⟩:=(hk o b H).loc w g a;exact⟨l1,I,fun t d F=>by rw[h];exact J t d F⟩
def IS(r:Nat)(o:Obj)(hx:¬X r)(ho:dL P<|bO o):Bl P P' X<|setObj r o:=by
 have run:∀p w,(setObj r o).run p w=match w.heap[r]?with
   |some (.cells ..)=> .halt (.stuck "setObj: a row of cells") w
   |some _=> .ok () {w with heap:=w.heap.setIfInBounds r o}
   |none=> .halt (.stuck "setObj: no such block") w:=fun p w=>by
  unfold setObj;simp only[Sem.run];cases w.heap[r]?with
  |none=>rfl
  |some o=>cases o<;>rfl
 have runT:∀p w b,(setObj r o).runT p w b=match w.heap[r]?with
   |some (.cells ..)=>(.halt (.stuck "setObj: a row of cells") w,b)
   |some _=>(.ok () {w with heap:=w.heap.setIfInBounds r o},b.push ⟨.obj r,bL,o.isChan⟩)
   |none=>(.halt (.stuck "setObj: no such block") w,b):=fun p w b=>by
  unfold setObj;simp only[Sem.runT];cases w.heap[r]?with
  |none=>rfl
  |some o=>cases o<;>rfl
 refine⟨fun w v b c i=>?_,fun w c i=>?_,fun w _=>by
  rw[run];cases w.heap[r]?with
  |none=>trivial
  |some q=>cases q<;>trivial⟩
 rw[run]at i⊢;rw[runT];rw[c.out r hx];cases hw:w.heap[r]?with
 |none=>exact⟨v,#[],⟨by simp[Ww],c,fun _ _=>rfl,by simp,ze _⟩⟩
 |some q=>
  have g:r<v.heap.size:=by rw[c.size];exact(za.1 hw).1
  have f:∃v' new,CR P X v b (.ok () {w with heap:=w.heap.setIfInBounds r o}) (.ok () {v with heap:=v.heap.setIfInBounds r o},b.push ⟨.obj r,bL,o.isChan⟩) v' new:=by
   refine⟨{v with heap:=v.heap.setIfInBounds r o},#[⟨.obj r,bL,o.isChan⟩],⟨by simp[Ww],c.setObj hx o ho,fun s k=>Mq hx o s k,fun e j=>?_,by simp⟩⟩;simp at j;subst j;exact⟨fun h=>absurd h hx,by show r<(v.heap.setIfInBounds r o).size;simpa using g⟩
  cases q with
  |cells _ _ _=>exact⟨v,#[],⟨by simp[Ww],c,fun _ _=>rfl,by simp,ze _⟩⟩
  |_=>exact f
 unfold nQ;simp only[run,show∀t d,(re w t d).heap[r]?=w.heap[r]?from fun _ _=>rfl];cases w.heap[r]?with
 |none=>exact⟨ze _,rfl,fun t d _=>by simp[rW,Ww]⟩
 |some o=>cases o<;>exact⟨ze _,rfl,fun t d _=>by simp[rW,Ww,re]⟩
end
end
end A
namespace A
open Go
section
variable {σ:Type}
def wf(P:Zp)(F:Zc):Zp:={P with funcs:=F}
section
variable {α β:Type} {P:aV} {F:Array Func} {X:Nat->Prop}
def BG(P:Zp)(F:Zc)(t:Zt):(wf P F).info? t=P.info? t:=rfl
def Jz(P:Zp)(F:Zc)(t:Zt):(wf P F).underlying t=P.underlying t:=rfl
def Y8(P:Zp)(F:Zc):(wf P F).depth=P.depth:=rfl
def Y7(P:Zp)(F:Zc)(t:Zt):(wf P F).cellsOf t=P.cellsOf t:=rfl
def Wi(P:Zp)(F:Zc)(t:Zt):(wf P F).bytesOf t=P.bytesOf t:=rfl
def Hx(P:Zp)(F:Zc):∀d t o,plainCell (wf P F) d t o=plainCell P d t o:=by
 intro d;induction d with
 |zero=>intros;rfl
 |succ d ih=>intro t o;simp only[plainCell,ih,Jz,Y7]<;>rfl
def AA(P:Zp)(F:Zc):∀d t o,byteOfCell (wf P F) d t o=byteOfCell P d t o:=by
 intro d;induction d with
 |zero=>intros;rfl
 |succ d ih=>intro t o;simp only[byteOfCell,ih,Jz,Y7,Wi]<;>rfl
def AI(P:Zp)(F:Zc):∀d t o,cellHolding (wf P F) d t o=cellHolding P d t o:=by
 intro d;induction d with
 |zero=>intros;rfl
 |succ d ih=>intro t o;simp only[cellHolding,ih,Jz,Y7,Wi]<;>rfl
def Id(P:Zp)(F:Zc):∀d t,tight (wf P F) d t=tight P d t:=by
 intro d;induction d with
 |zero=>intros;rfl
 |succ d ih=>intro t;simp only[tight,ih,Jz,Wi]<;>rfl
def zve(P:Zp)(F:Zc)(c:Za)(e:Zt):∀f x s,seenCells (wf P F) c e f x s=seenCells P c e f x s:=by
 intro f;induction f with
 |zero=>intros;rfl
 |succ f ih=>intro x s;simp only[seenCells,ih,Y7,Wi,AI,Y8]<;>rfl
def xoz(P:Zp)(F:Zc)(w:Zy)(a:Addr)(u:Zt)(k:Addr)(b:Bool):w.seen (wf P F) a u k b=w.seen P a u k b:=by
 simp only[World.seen,Y8,Hx,AA,Y7,Wi,zve]<;>rfl
def Et(P:Zp)(F:Zc):vT P<|wf P F:=⟨fun w a u k b=>xoz P F w a u k b,fun u=>Id P F _ u⟩
def VP(P:Zp)(F:Zc)(t:Zt):(wf P F).underlyingId t=P.underlyingId t:=rfl
def VO(P:Zp)(F:Zc):(wf P F).cutTypes=P.cutTypes:=rfl
def cE(P:Zp)(F:Zc):∀d t u,(wf P F).alikeButTags d t u=P.alikeButTags d t u:=by
 intro d;induction d with
 |zero=>intros;rfl
 |succ d ih=>intro t u;simp only[Program.alikeButTags,ih,BG]
def i7(P:Zp)(F:Zc)(c:String×Zt):(wf P F).ownRow c=P.ownRow c:=by
 unfold Program.ownRow;simp only[BG,Jz,VO]
def Gc(P:Zp)(F:Zc)(t:Zt):(wf P F).packed t=P.packed t:=by
 unfold Program.packed Program.packedAs;simp only[BG,Jz,VO,i7,cE,VP,Y8]
def wW(P:Zp)(F:Zc)(t:Zt):(wf P F).stoodInHeld t=P.stoodInHeld t:=by
 unfold Program.stoodInHeld Program.stoodInAs;simp only[BG,Jz,VO,cE,VP,Y8]
def AB(P:Zp)(F:Zc):∀d t,(wf P F).holdsPacked d t=P.holdsPacked d t:=by
 intro d;induction d with
 |zero=>intros;rfl
 |succ d ih=>intro t;simp only[Program.holdsPacked,ih,Jz,Gc]
def DX(P:Zp)(F:Zc):∀d t,(wf P F).eqGuardType d t=P.eqGuardType d t:=by
 intro d;induction d with
 |zero=>intros;rfl
 |succ d ih=>intro t;simp only[Program.eqGuardType,ih,Jz]<;>rfl
variable [pn:A.Pn]
abbrev B(P:Zp)(F:Zc)(X:ZP)(s:Sem α):Prop:=Bl P (wf P F) X s
def xp{s:Sem α}{k:α->Sem β}(b:B P F X s)(hk:∀a,B P F X<|k a):B P F X<|s>>=k:=wT b hk
def xr(a:α):B P F X (Pure.pure a:Sem α):=Vv a
def Fj{s:Sem α}(f:α->β)(b:B P F X s):B P F X<|Functor.map f s:=wT (k:=fun a=>Pure.pure<|f a) b fun a=>Vv _
def Yo{c:Prop}[Decidable c]{s t:Sem α}(a:B P F X s)(b:B P F X t):B P F X (if c then s else t):=by
 split;exact a;exact b
def ja(a:String):B P F X (stuck a:Sem α):=vE _ trivial
def Jk(u:Unsupported)(h:NI<|.unsupported u):B P F X (unsupported u:Sem α):=vE _ h
def Ar(v:Zv):B P F X (goPanic v:Sem α):=vE _ trivial
def R6(a:Addr)(m:Mode):B P F X<|Go.load a m:=My (Et P F) a m
def Up(a:Addr)(v:Zv)(m:Mode):B P F X<|Go.store a v m:=D0 (Et P F) a v m
def xH(o:Obj)(ho:dL P<|bO o):B P F X<|newObj o:=xqi o ho
def yP{r:Nat}{k:Obj->Sem β}(hk:∀o,¬X r->dL P (bO o)->B P F X (k o))(hd:∀o,o.isChan=bL->∀w,¬jK ((k o).run (wf P F) w)/\nR ((k o).run (wf P F) w)):B P F X<|getObj r>>=k:=Mu hk hd
def BZ(r:Nat)(o:Obj)(hx:¬X r)(ho:dL P<|bO o):B P F X<|setObj r o:=IS r o hx ho
def Yy(q:Question):B P F X<|choose q:=IN q
def UV(a:Addr):B P F X<|Go.frozen a:=xeu a
def R7(n:Nat):B P F X<|askRoom n:=by
 unfold askRoom;split;exact Aw _<|.inl rfl;exact Vv _
def vH(t:Zt):B P F X<|typeInfo t:=by
 unfold typeInfo;refine Xc rfl ?_;split;exact Vv _;exact vE _ trivial
def Ya(t:Zt):B P F X<|underlying t:=by
 unfold underlying;refine Xc rfl ?_;split;exact Vv _;exact vE _ trivial
theorem IX:LawfulMonad Sem:=LawfulMonad.mk' _ (fun x=>by
  show x.bind (fun a=>Sem.pure<|id a)=x;induction x<;>simp_all [Sem.bind]
  all_goals (funext b;cases b<;>simp_all))
 (fun _ _=>rfl)
 (fun x f g=>by
  show(x.bind f).bind g=x.bind fun a=>(f a).bind g;induction x<;>simp_all [Sem.bind]
  all_goals (funext b;cases b<;>simp_all))
def Dw(l:List α)(f:α->σ->Sem (ForInStep σ))(b:∀a s,B P F X<|f a s):∀init,B P F X<|forIn l init f:=by
 induction l with
 |nil=>intro init;exact Vv _
 |cons a l ih=>
  intro init;rw[List.forIn_cons];refine wT (b a init) fun x=>?_;cases x with
  |done s=>exact Vv _
  |yield s=>exact ih s
def KT(l:Array α)(f:α->σ->Sem (ForInStep σ))(c:∀a s,B P F X<|f a s)(b:σ):B P F X<|forIn l b f:=by
 rw[<-Array.forIn_toList];exact Dw _ f c b
def H7(l:Std.Legacy.Range)(f:Nat->σ->Sem (ForInStep σ))(c:∀a s,B P F X<|f a s)(b:σ):B P F X<|forIn l b f:=by
 haveI:=IX
 rw[Std.Legacy.Range.forIn_eq_forIn_range'];exact Dw _ f c b
def H6(f:σ->α->Sem σ)(b:∀a s,B P F X<|f a s):∀(l:List α) (init:σ),B P F X (l.foldlM f init)
 |[],init=>Vv _
 |a::l,init=>by
  rw[List.foldlM_cons];exact wT (b _ _) fun s=>H6 f b l s
def Aq(f:α->Sem β)(c:∀a,B P F X<|f a):∀l:List α,B P F X (l.mapM f)
 |[]=>by rw[List.mapM_nil];exact Vv _
 |a::l=>by
  rw[List.mapM_cons];exact wT (c a) fun b=>wT (Aq f c l) fun d=>Vv _
def Tk(f:α->Sem β)(b:∀a,B P F X<|f a)(l:Array α):B P F X<|l.mapM f:=by
 haveI:=IX
 rw[Array.mapM_eq_mapM_toList];exact Fj _<|Aq f b _
end
end
end A
namespace A
open Go
variable [pn:Pn]
section
variable {α β:Type} {P:aV} {F:Array Func} {X:Nat->Prop}
def Dx{γ:Type}(r:Nat){s:Sem<|Option γ}(f:Obj->Option γ)(y:∀o,(∀a t,o≠ .view a t)->(∀a t,o≠ .number a t)->f o=bN)
  (n:∀p w,s.run p w=match w.heap[r]?with
   |some o=> .ok (f o) w
   |none=> .halt (.stuck "getObj: no such block") w)
  (k:∀p w es,s.runT p w es=match w.heap[r]?with
   |some (.cells c e g)=>(.ok (f<|.cells c e g) w,es)
   |some o=>(.ok (f o) w,es.push ⟨.obj r,bK,o.isChan⟩)
   |none=>(.halt (.stuck "getObj: no such block") w,es)):B P F X s:=by
 refine yI (fun w=>match w.heap[r]?with
   |some o=> .ok (f o) w
   |none=> .halt (.stuck "getObj: no such block") w) (fun w=>?_) (fun w t d=>?_) (fun w=>?_) (n _) fun w v es m x=>?_
 cases w.heap[r]?<;>rfl
 rw[show(re w t d).heap[r]?=w.heap[r]?from rfl];cases w.heap[r]?<;>rfl
 cases w.heap[r]?<;>trivial
 rw[k];by_cases z:X r;obtain⟨o,E,q,l,⟨C,D⟩|⟨c,e,rfl,rfl⟩⟩:=m.dead _ z;have i:r<v.heap.size:=(za.1 l).1;rw[q,l];cases o<;>cases C
 cases E<;>cases D<;>exact⟨#[⟨.obj r,bK,_⟩],by simp[Ww,Obj.isChan,y];rfl,fun e j=>by simp at j;subst j;exact⟨fun _=>rfl,i⟩⟩
 rw[q,l];exact⟨#[],by simp[Ww,y],by simp⟩;rw[m.out r z];cases hw:w.heap[r]?with
 |none=>rw[hw]at x;exact x.elim
 |some o=>
  have i:r<v.heap.size:=by rw[m.size];exact(za.1 hw).1
  have h:∀b,∀e∈#[(⟨.obj r,bK,b⟩:Event)],qI X v.heap.size e:=fun b e j=>by simp at j;subst j;exact⟨fun _=>rfl,i⟩
  cases o with
  |cells c e g=>exact⟨#[],by simp[Ww],by simp⟩
  |chan a b c d e g=>exact⟨#[⟨.obj r,bK,bL⟩],by simp[Ww,Obj.isChan],h _⟩
  |_=>exact⟨#[⟨.obj r,bK,bK⟩],by simp[Ww,Obj.isChan],h _⟩
def A8(r:Nat):B P F X<|viewAt r:=by
 refine Dx r (fun| .view a t=>bO (a,t)|_=>bN) (fun o b d=>by cases o<;>first|rfl|exact absurd rfl<|b _ _) (fun p w=>?_) (fun p w c=>?_)<;>cases h:w.heap[r]?with
 |none=>simp[viewAt,shape,getObj,bind,Sem.bind,Sem.run,Sem.runT,World.shape?,h,-Sem.runT_eq]
 |some o=>cases o<;>simp[viewAt,shape,getObj,bind,Sem.bind,Sem.run,Sem.runT,World.shape?,h,pure,Obj.isChan,-Sem.runT_eq]
def Oe(r:Nat):B P F X<|numberAt r:=by
 refine Dx r (fun| .number a t=>bO (a,t)|_=>bN) (fun o d b=>by cases o<;>first|rfl|exact absurd rfl<|b _ _) (fun p w=>?_) (fun p w c=>?_)<;>cases h:w.heap[r]?with
 |none=>simp[numberAt,shape,getObj,bind,Sem.bind,Sem.run,Sem.runT,World.shape?,h,-Sem.runT_eq]
 |some o=>cases o<;>simp[numberAt,shape,getObj,bind,Sem.bind,Sem.run,Sem.runT,World.shape?,h,pure,Obj.isChan,-Sem.runT_eq]
def bY(w:Zy)(a:Addr):Bool:=w.frozen? a||(match w.shape? a.block with
 |some (_,n)=>w.frozen? {block:=a.block,off:=n}
 |none=>bK)
def Sm.bY{w v:Zy}(h:Sm P X w v)(a:Addr):bY v a=bY w a:=by
 unfold A.bY;rw[h.frozen a];by_cases f:X a.block;obtain⟨o,j,b,d,⟨g,i⟩|⟨c,e,rfl,rfl⟩⟩:=h.dead _ f;cases o<;>cases g
 cases j<;>cases i<;>simp[World.shape?,World.frozen?,b,d]
 simp[World.shape?,World.frozen?,b,d];simp only[World.shape?,World.frozen?,h.out _ f]
def YV{w v:Zy}(h:Sm P X w v)(a:Addr)(hx:X a.block):bY w a=bK:=by
 obtain⟨o,i,b,f,⟨d,g⟩|⟨c,e,rfl,rfl⟩⟩:=h.dead _ hx;cases o<;>cases d
 simp[bY,World.shape?,World.frozen?,b];simp[bY,World.shape?,World.frozen?,b]
def zrn(a:Addr)(p:Zp)(w:Zy):(stringish a).run p w= .ok (bY w a) w:=by
 cases h1:w.frozen? a with
 |true=>simp[stringish,Go.frozen,bind,Sem.bind,Sem.run,bY,h1,pure]
 |false=>
  cases h2:w.shape? a.block with
  |none=>simp[stringish,Go.frozen,shape,bind,Sem.bind,Sem.run,bY,h1,h2,pure]
  |some x=>obtain⟨e,n⟩:=x;simp[stringish,Go.frozen,shape,bind,Sem.bind,Sem.run,bY,h1,h2]
def zqm(a:Addr)(p:Zp)(w:Zy)(es:Array Event):(stringish a).runT p w es=(.ok (bY w a) w,es):=by
 cases h1:w.frozen? a with
 |true=>simp[stringish,Go.frozen,bind,Sem.bind,Sem.runT,bY,h1,pure,-Sem.runT_eq]
 |false=>
  cases h2:w.shape? a.block with
  |none=>simp[stringish,Go.frozen,shape,bind,Sem.bind,Sem.runT,bY,h1,h2,pure,-Sem.runT_eq]
  |some x=>obtain⟨e,n⟩:=x;simp[stringish,Go.frozen,shape,bind,Sem.bind,Sem.runT,bY,h1,h2,-Sem.runT_eq]
def zzk(a b:Addr):B P F X<|mayBeOne a b:=by
 have i:∀p w,(mayBeOne a b).run p w= .ok ((bY w a&&bY w b)||(bY w a&&(w.shape? a.block matches bO (_,0)))||(bY w b&&(w.shape? b.block matches bO (_,0)))) w:=fun p w=>by
  simp only[mayBeOne,bind,qh,zrn,shape,Sem.run,pure];rfl
 have f:∀p w g,(mayBeOne a b).runT p w g=(.ok ((bY w a&&bY w b)||(bY w a&&(w.shape? a.block matches bO (_,0)))||(bY w b&&(w.shape? b.block matches bO (_,0)))) w,g):=fun p w g=>by
  simp only[mayBeOne,bind,Jb,zqm,shape,Sem.runT,pure];rfl
 refine yI _ (fun w=>rfl) (fun w t d=>rfl) (fun w=>?_) (i _) fun w v g c j=>⟨#[], ?_,by simp⟩;trivial;rw[f,c.bY a,c.bY b];simp only[Ww,Array.append_empty,qg,Result.ok.injEq,and_true];by_cases h:X a.block;rw[YV c a h];by_cases e:X b.block;rw[YV c b e];rfl;simp only[World.shape?,c.out _ e,W7];by_cases e:X b.block;rw[YV c b e];simp only[World.shape?,c.out _ h,W7,Bool.and_false];simp only[World.shape?,c.out _ h,c.out _ e]
def Ub{r:Nat}{k:Option (Zt×Nat)->Sem β}(hk:∀s,B P F X<|k s)(p:∀e n m,k (bO (e,n))=k (bO (e,m))):B P F X<|shape r>>=k:=by
 have b:∀w v:Zy,Sm P X w v->k (v.shape? r)=k (w.shape? r):=fun w v a=>by
  by_cases h:X r;obtain⟨o,q,f,g,⟨j,l⟩|⟨c,e,rfl,rfl⟩⟩:=a.dead _ h;cases o<;>cases j
  cases q<;>cases l<;>simp[World.shape?,f,g]
  simp only[World.shape?,f,g];exact p _ _ _;simp only[World.shape?,a.out _ h]
 refine⟨fun w v i a d=>?_,fun w a d=>?_,fun w a=>(hk<|w.shape? r).dZ w a⟩;have:=(hk<|w.shape? r).gJ w v i a d;rw[<-b w v a]at this;have e:(shape r>>=k).run (wf P F) w=(k<|v.shape? r).run (wf P F) w:=by rw[b w v a];rfl
 rw[e];exact this;exact(hk<|w.shape? r).loc w a d
def SF{s:Sem α}(h:∀w,¬jK (s.run (wf P F) w)/\nR (s.run (wf P F) w)):B P F X s:=⟨fun w v b _ a=>absurd a (h w).1,fun w _ a=>absurd a (h w).1,fun w _=>(h w).2⟩
def xhi{k:α->Sem β}(a:String):B P F X<|(stuck a:Sem α)>>=k:=SF fun w=>⟨id,trivial⟩
def Ku(t:Zt)(p:Zp)(w:Zy):(underlying t).run p w=match p.underlying t with
  |some d=> .ok d w
  |none=> .halt (.stuck "no such type") w:=by
 show(match p.underlying t with
  |some d=>(pure d:Sem TypeDesc)
  |none=>stuck "no such type").run p w=_
 cases p.underlying t<;>rfl
def znk(t:Zt)(p:Zp)(w:Zy)(es:Array Event):(underlying t).runT p w es=match p.underlying t with
  |some d=>(.ok d w,es)
  |none=>(.halt (.stuck "no such type") w,es):=by
 show(match p.underlying t with
  |some d=>(pure d:Sem TypeDesc)
  |none=>stuck "no such type").runT p w es=_
 cases p.underlying t<;>rfl
def JQ{t:Zt}{k:TypeDesc->Sem β}(hk:∀u,P.underlying t=bO u->B P F X (k u)):B P F X<|underlying t>>=k:=by
 cases h:P.underlying t with
 |none=>
  refine SF fun w=>?_;have e:(underlying t>>=k).run (wf P F) w= .halt (.stuck "no such type") w:=by
   rw[show(underlying t>>=k).run (wf P F) w=_ from qh _ _ _ w,Ku,show(wf P F).underlying t=bN from h];rfl
  rw[e];exact⟨id,trivial⟩
 |some u=>
  have d:∀w,(underlying t>>=k).run (wf P F) w=(k u).run (wf P F) w:=fun w=>by
   rw[show(underlying t>>=k).run (wf P F) w=_ from qh _ _ _ w,Ku,show(wf P F).underlying t=bO u from h];rfl
  have f:∀w a,(underlying t>>=k).runT P w a=(k u).runT P w a:=fun w a=>by
   rw[show(underlying t>>=k).runT P w a=_ from Jb _ _ _ w a,znk,h]
  refine⟨fun w v a b c=>?_,fun w b c=>?_,fun w b=>by rw[d];exact(hk u h).dZ w b⟩;rw[d]at c⊢;rw[f];exact(hk u h).gJ w v a b c;rw[d]at c;have:=(hk u h).loc w b c;unfold nQ at this⊢;simp only[d];exact this
end
section
variable {α β:Type} {P:aV} {F:Array Func} {X:Nat->Prop}
attribute [local simp] AB wW DX Y8 Y7 Wi AA
def Oc(a:Addr):∀(n i:Nat) (acc:Za),B P F X (loadCellsFrom a i n acc)
 |0,i,acc=>Vv _
 |n+1,i,acc=>wT (R6 _ _) fun v=>Oc a n (i+1) _
def QA(a:Addr):∀(vs:Ze) (i:Nat),B P F X (storeCells a vs i)
 |[],i=>by unfold storeCells;exact Vv _
 |v::vs,i=>by unfold storeCells;exact wT (Up _ _ _) fun _=>QA a vs<|i+1
def u5(t:Zt)(x:Zv):B P F X<|Instr.range t x:=by
 unfold Instr.range;refine JQ fun d hd=>?_
 haveI:=IX
 simp only[pure_bind]
 repeat' (first|(with_reducible exact xhi _)|((with_reducible refine xH _ ?_);next=>(refine⟨fun c e h=>?_,fun b h=>?_,fun l h=>?_⟩<;>cases h<;>simp))|((with_reducible refine yP (fun _ _ _=>?_) ?_);rotate_left;next=>(intro o a w;cases o<;>first|(cases a;done)|exact⟨id,trivial⟩))|(with_reducible first|refine xp ?_ (fun _=>?_)|exact xr _)|split)
def YX{l:Nat}{k:Loop->Sem β}(hk:∀r,¬X l->dL P (bO<|.loop r)->B P F X (k r)):B P F X<|Instr.getLoop l>>=k:=by
 haveI:=IX
 unfold Instr.getLoop;rw[bind_assoc];refine yP (fun o b a=>?_) fun o a w=>?_;split;rw[pure_bind];exact hk _ b a;exact SF fun w=>⟨id,trivial⟩;cases o<;>first|(cases a;done)|exact⟨id,trivial⟩
def dL.again{r:Loop}(h:dL P<|bO<|.loop r)(s:LoopState):dL P<|bO<|.loop {r with state:=s}:=
 ⟨fun c f e=>(by cases e),fun a e=>(by cases e),fun l e=>(by cases e;exact h.loop r rfl)⟩
def zzi(l:Nat)(j:Option Code)(b:∀c,j=bO c->qn P bK c=bL):B P F X<|Instr.endRound l j:=by
 unfold Instr.endRound;refine YX fun r d a=>xp (BZ _ _ d ⟨fun c f e=>(by cases e),fun g e=>(by cases e),fun l e=>(by cases e;exact⟨(a.loop r rfl).1,(a.loop r rfl).2.1,b,(a.loop r rfl).2.2.2⟩)⟩) fun _=>xr _
def dP:(∀(t:Zt),B P F X<|sizeOf t)/\(∀(t:Zt),B P F X<|zeroValue t)/\(∀(e:Zt) (c:Za),B P F X<|newRow e c)/\(∀(v:Zv),B P F X<|Instr.sureAddr v)/\(∀(k:IntKind) (x:Int),B P F X<|Conv.intToInt k x)/\(∀(x:Int),B P F X<|Conv.intToString x)/\(∀(a:Addr) (n:Nat),B P F X<|loadCells a n)/\(∀(v:Zv),B P F X<|asIntOf v)/\(∀(v:Zv),B P F X<|asBool v)/\(∀(e:Zt),B P F X<|elemOf e)/\(∀(op:BinOp) (x y:ByteArray),B P F X<|Op.stringOp op x y)/\(∀(a:Addr),B P F X<|behindNumber a)/\(∀(t:Zt),B P F X<|typeStr t)/\(∀(t:Zt),B P F X<|isAgg t)/\(∀(op:BinOp) (k:IntKind) (x y:Int),B P F X<|Op.intArith op k x y)/\(∀(op:BinOp) (k:IntKind) (x y:Int),B P F X<|Op.intBits op k x y)/\(∀(x:Zv),B P F X<|Builtin.lenOf x)/\(∀(a:Addr),B P F X<|noView a)/\(∀(a b:Zv),B P F X<|Instr.keyThatStays a b)/\(∀(l:Nat),B P F X<|Instr.getLoop l)/\(∀(v:Zv),B P F X<|asAgg v)/\(∀(op:BinOp) (x y:Int),B P F X<|Op.intCmp op x y)/\(∀(x:Zv),B P F X<|Instr.entry x)/\(∀(x:Zv) (i:Nat),B P F X<|Instr.extract x i)/\(∀(f:Fn) (a c:Za),B P F X<|Instr.makeFunc f a c)/\(∀(t:Zt) (x:Zv),B P F X<|Instr.makeInterface t x)/\(∀(it:Zv) (s:Bool) (t:Zt),B P F X<|Instr.next it s t)/\(∀(l:Nat),B P F X<|Instr.takeDeferred l)/\(∀(v:Zv),B P F X<|asString v):=by
 refine⟨?_, ?_, ?_, ?_, ?_, ?_, ?_, ?_, ?_, ?_, ?_, ?_, ?_, ?_, ?_, ?_, ?_, ?_, ?_, ?_, ?_, ?_, ?_, ?_, ?_, ?_, ?_, ?_, ?_⟩<;>intros<;>(first|unfold sizeOf|unfold zeroValue|unfold newRow|unfold Instr.sureAddr|unfold Conv.intToInt|unfold Conv.intToString|unfold loadCells|unfold asIntOf|unfold asBool|unfold elemOf|unfold Op.stringOp|unfold behindNumber|unfold typeStr|unfold isAgg|unfold Op.intArith|unfold Op.intBits|unfold Builtin.lenOf|unfold noView|unfold Instr.keyThatStays|unfold Instr.getLoop|unfold asAgg|unfold Op.intCmp|unfold Instr.entry|unfold Instr.extract|unfold Instr.makeFunc|unfold Instr.makeInterface|unfold Instr.next|unfold Instr.takeDeferred|unfold asString)<;>repeat' (first|((with_reducible refine Jk _ ?_);next=>(exact trivial))|((with_reducible refine xH _ ?_);next=>(refine⟨fun c e h=>?_,fun d h=>?_,fun l h=>?_⟩<;>cases h<;>simp))|((with_reducible refine yP (fun _ _ _=>?_) ?_);rotate_left;next=>(intro o g w;cases o<;>first|(cases g;done)|exact⟨id,trivial⟩))|((with_reducible refine BZ _ _ ‹_› ?_);next=>(refine⟨fun c e h=>?_,fun d h=>?_,fun l h=>?_⟩<;>cases h<;>simp))|(with_reducible first|refine xp ?_ (fun _=>?_)|exact xr _|exact vH _|exact ja _|exact Oc _ _ _ _|exact Ya _|refine Yo ?_ ?_|exact Oe _|exact A8 _|exact Yy _)|split)
def QZ(a:Addr):B P F X<|byteOf a:=by
 unfold byteOf;split;exact Vv _;refine Xc ?_ ?_;simp<;>rfl
 refine xp (dP.2.2.2.2.2.2.2.2.2.2.2.2.2.2.2.2.2.1 a) fun _=>?_;refine Ub (fun s=>?_) fun e n m=>rfl
 repeat' (first|(with_reducible first|refine Yo ?_ ?_|exact xr _|exact ja _)|split)
def YJ(fn:FuncId)(i:Za)(g:Array Tmp)(a b:Code)(r:Option Nat)(k:qn P bK a=bL)(m:qn P bK b=bL)(f:P.inits.idxOf? fn=bN):B P F X<|Instr.enterLoop fn i g a b r:=by
 unfold Instr.enterLoop;have n:∀d,dL P<|bO<|.loop {state:= .ready,pending:=bN,fn:=fn,tmps:=i,params:=g,assign:=a,body:=b,defers:=d}:=fun d=>⟨fun c e h=>(by cases h),fun j h=>(by cases h),fun l h=>(by cases h;exact⟨k,m,fun c e=>(by cases e),f⟩)⟩
 repeat' (first|(exact xH _<|n _)|((with_reducible refine xH _ ?_);next=>(refine⟨fun c e h=>?_,fun j h=>?_,fun l h=>?_⟩<;>cases h<;>simp))|(with_reducible first|refine xp ?_ (fun _=>?_)|exact dP.2.2.2.2.2.2.2.2.2.2.2.2.2.2.2.2.2.2.2.1 _|exact xr _)|split)
def iB:(∀(t:Zt) (cs:Za) (off:Nat),B P F X<|part t cs off)/\(∀(v:Zv),B P F X<|asInt v)/\(∀(x:Zv),B P F X<|Conv.bytesToString x)/\(∀(t:Zt) (a:Addr),B P F X<|loadVar t a)/\(∀(e:Zt) (c:Zv),B P F X<|newVar e c)/\(∀(t:Zt) (a:Addr) (v:Zv),B P F X<|storeVar t a v)/\(∀(s n:Nat) (x:Zv),B P F X<|Builtin.firstCells s n x)/\(∀(a b:Addr),B P F X<|sameAddr a b)/\(∀(op:UnOp) (x:Zv),B P F X<|Op.unary op x)/\(∀(a:Addr) (c b:Nat),B P F X<|partAt a c b)/\(∀(t:Zt) (ps:Array<|Nat×Zv),B P F X<|Instr.build t ps)/\(∀(t:Zt) (n:Nat) (ps:Array<|Nat×Zv),B P F X<|Instr.buildSlice t n ps)/\(∀(l:Nat) (a:Za),B P F X<|Instr.yield l a)/\(∀(ts:Array Zt) (t:Zt) (a:Za),B P F X<|Builtin.clear_ ts t a)/\(∀(x y:Zv),B P F X<|Builtin.max2 x y)/\(∀(x y:Zv),B P F X<|Builtin.min2 x y):=by
 refine⟨?_, ?_, ?_, ?_, ?_, ?_, ?_, ?_, ?_, ?_, ?_, ?_, ?_, ?_, ?_, ?_⟩<;>intros<;>(first|unfold part|unfold asInt|unfold Conv.bytesToString|unfold loadVar|unfold newVar|unfold storeVar|unfold Builtin.firstCells|unfold sameAddr|unfold Op.unary|unfold partAt|unfold Instr.build|unfold Instr.buildSlice|unfold Instr.yield|unfold Builtin.clear_|unfold Builtin.max2|unfold Builtin.min2)<;>repeat' (first|((with_reducible refine Jk _ ?_);next=>(exact trivial))|((with_reducible refine BZ _ _ ‹_› ?_);next=>(refine⟨fun c e h=>?_,fun f h=>?_,fun l h=>?_⟩<;>cases h<;>simp))|((with_reducible refine yP (fun _ _ _=>?_) ?_);rotate_left;next=>(intro o d w;cases o<;>first|(cases d;done)|exact⟨id,trivial⟩))|(with_reducible first|refine xp ?_ (fun _=>?_)|refine Yo ?_ ?_|exact dP.2.2.2.2.2.2.2.2.2.2.2.2.2.1 _|exact dP.1 _|exact xr _|exact ja _|exact dP.2.2.2.2.2.2.2.1 _|exact dP.2.2.2.2.2.2.1 _ _|refine KT _ _ (fun _ _=>?_) _|exact R6 _ _|exact dP.2.2.1 _ _|exact QA _ _ _|exact dP.2.2.2.2.2.2.2.2.2.2.2.2.2.2.2.2.2.1 _|exact zzk _ _|exact Yy _|exact UV _|exact dP.2.2.2.2.2.2.2.2.2.2.2.2.2.2.2.1 _ _ _ _|exact dP.2.2.2.2.2.2.2.2.2.2.2.2.2.2.1 _ _ _ _|exact QZ _|exact dP.2.1 _|exact Ya _|refine Tk _ (fun _=>?_) _|exact dP.2.2.2.2.2.2.2.2.2.2.2.2.2.2.2.2.2.2.2.1 _|exact dP.2.2.2.2.2.2.2.2.2.2.1 _ _ _|exact dP.2.2.2.2.2.2.2.2.1 _)|split|(dsimp only))
def mI(e:RuntimeError):B P F X (runtimePanic e:Sem α):=by
 unfold runtimePanic;refine Xc rfl ?_
 repeat' (first|(with_reducible first|refine xp ?_ (fun _=>?_)|exact dP.2.2.2.2.2.2.2.2.2.1 _|exact iB.2.2.2.2.1 _ _|exact Ar _)|split)
def zwd:∀(d:Nat) (t:Zt) (x y:Zv),B P F X<|Op.eqGuardIn d t x y:=by
 intro d;induction d with
 |zero=>intro t x y;unfold Op.eqGuardIn;exact vE _ trivial
 |succ d ih=>
  intro t x y;unfold Op.eqGuardIn
  repeat' (first|(with_reducible first|refine xp ?_ (fun _=>?_)|refine Yo ?_ ?_|exact ih _ _ _|exact iB.1 _ _ _|exact dP.1 _|exact xr _|exact Ya _|refine H7 _ _ (fun _ _=>?_) _|refine KT _ _ (fun _ _=>?_) _)|split|(dsimp only))
def xtg(b:Array Zt)(t:Zt)(a:Za):B P F X<|Builtin.max_ b t a:=by
 unfold Builtin.max_;split;exact vE _ trivial;exact H6 _ (fun _ _=>iB.2.2.2.2.2.2.2.2.2.2.2.2.2.2.1 _ _) _ _
def xth(b:Array Zt)(t:Zt)(a:Za):B P F X<|Builtin.min_ b t a:=by
 unfold Builtin.min_;split;exact vE _ trivial;exact H6 _ (fun _ _=>iB.2.2.2.2.2.2.2.2.2.2.2.2.2.2.2 _ _) _ _
def UP(k:IntKind)(x y:Int)(c:BoundsCode):B P F X (boundsPanic k x y c:Sem α):=by
 unfold boundsPanic
 repeat' (first|(with_reducible first|refine xp ?_ (fun _=>?_)|refine Yo ?_ ?_|exact mI _|exact xr _|exact Yy _|refine Fj _ ?_))
def zze(e:Bool):∀(n:Nat) (t:Zt) (v:Zv),B P F X<|Instr.checkKey e n t v:=by
 intro n;induction n with
 |zero=>intro t v;unfold Instr.checkKey;exact vE _ trivial
 |succ n ih=>
  intro t v;unfold Instr.checkKey
  repeat' (first|(with_reducible first|refine xp ?_ (fun _=>?_)|refine Yo ?_ ?_|exact ih _ _|exact mI _|exact iB.1 _ _ _|exact dP.1 _|exact dP.2.2.2.2.2.2.2.2.2.2.2.2.1 _|exact xr _|exact ja _|exact vH _|exact Ya _|refine H7 _ _ (fun _ _=>?_) _|refine KT _ _ (fun _ _=>?_) _)|split)
def YE(l:Nat):B P F X<|Instr.beginRound l:=by
 unfold Instr.beginRound;refine YX fun r b a=>xp (BZ _ _ b<|a.again _) fun _=>?_
 repeat' (first|(with_reducible first|exact mI _|exact xr _)|split)
def GP(l:Nat):B P F X<|Instr.endLoop l:=by
 unfold Instr.endLoop;refine YX fun r b a=>?_
 repeat' (first|(exact BZ _ _ b<|a.again _)|(with_reducible first|refine xp ?_ (fun _=>?_)|refine Yo ?_ ?_|exact mI _|exact xr _))
def iZ:(∀(v:Zv),B P F X<|asAddr v)/\(∀(a:Addr) (f:Field),B P F X<|fieldPlace a f)/\(∀(op:BinOp) (k:IntKind) (x y:Int),B P F X<|Op.intDiv op k x y)/\(∀(op:BinOp) (k:IntKind) (x:Int) (j:IntKind) (y:Int),B P F X<|Op.shift op k x j y)/\(∀(a b:Option Addr),B P F X<|samePointer a b)/\(∀(op:BinOp) (t:Zt) (x y:Operand) (a b:Zv),B P F X<|eqGuard op t x y a b)/\(∀(t:Zt) (a:Zv),B P F X<|Instr.loadAt t a)/\(∀(t:Zt) (a v:Zv),B P F X<|Instr.storeAt t a v)/\(∀(t:Zt) (x i:Zv),B P F X<|Instr.indexAt t x i)/\(∀(x:Zv) (y:Nat) (c:BoundsCode),B P F X<|Instr.sliceBound x y c)/\(∀(t:Zt) (x:Zv),B P F X<|Instr.arrayAt t x)/\(∀(t:Zt) (h:Bool) (x:Zv),B P F X<|Instr.alloc t h x)/\(∀(t:Zt) (x:Zv),B P F X<|Instr.box t x)/\(∀(t:Zt) (x:Zv) (i:Nat),B P F X<|Instr.field t x i)/\(∀(t:Zt) (x i:Zv),B P F X<|Instr.index t x i)/\(∀(t:Zt) (x:Zv),B P F X<|Instr.makeChan t x)/\(∀(t:Zt) (x:Option Zv),B P F X<|Instr.makeMap t x)/\(∀(t:Zt) (l c:Zv),B P F X<|Instr.makeSlice t l c)/\(∀(t:Zt) (m k v:Zv),B P F X<|Instr.entryStore t m k v)/\(∀(x:Zv) (t u:Zt) (ok:Bool),B P F X<|Instr.typeAssert x t u ok)/\(∀(ts:Array Zt) (t:Zt) (a:Za),B P F X<|Builtin.copy_ ts t a):=by
 refine⟨?_, ?_, ?_, ?_, ?_, ?_, ?_, ?_, ?_, ?_, ?_, ?_, ?_, ?_, ?_, ?_, ?_, ?_, ?_, ?_, ?_⟩<;>intros<;>(first|unfold asAddr|unfold fieldPlace|unfold Op.intDiv|unfold Op.shift|unfold samePointer|unfold eqGuard|unfold Instr.loadAt|unfold Instr.storeAt|unfold Instr.indexAt|unfold Instr.sliceBound|unfold Instr.arrayAt|unfold Instr.alloc|unfold Instr.box|unfold Instr.field|unfold Instr.index|unfold Instr.makeChan|unfold Instr.makeMap|unfold Instr.makeSlice|unfold Instr.entryStore|unfold Instr.typeAssert|unfold Builtin.copy_)<;>repeat' (first|((with_reducible refine Jk _ ?_);next=>(exact trivial))|((with_reducible refine Xc ?_ ?_);next=>(first|(simp;done)|rfl))|((with_reducible refine xH _ ?_);next=>(refine⟨fun c e h=>?_,fun d h=>?_,fun l h=>?_⟩<;>cases h<;>simp))|((with_reducible refine BZ _ _ ‹_› ?_);next=>(refine⟨fun c e h=>?_,fun d h=>?_,fun l h=>?_⟩<;>cases h<;>simp))|((with_reducible refine yP (fun _ _ _=>?_) ?_);rotate_left;next=>(intro o g w;cases o<;>first|(cases g;done)|exact⟨id,trivial⟩))|(with_reducible first|exact mI _|exact xr _|exact ja _|refine xp ?_ (fun _=>?_)|refine Yo ?_ ?_|exact iB.2.2.2.2.2.2.2.2.2.1 _ _ _|exact dP.1 _|exact iB.2.2.2.2.2.2.2.1 _ _|exact zwd _ _ _ _|exact dP.2.2.2.1 _|exact iB.2.2.2.1 _ _|exact iB.2.2.2.2.2.1 _ _ _|exact dP.2.2.2.2.2.2.2.1 _|exact UP _ _ _ _|exact Ya _|exact iB.2.2.2.2.1 _ _|exact dP.2.1 _|exact dP.2.2.2.2.2.2.2.2.2.2.2.2.2.2.2.2.2.2.2.2.1 _|exact iB.1 _ _ _|exact iB.2.1 _|exact vH _|exact dP.2.2.1 _ _|exact Yy _|exact R7 _|exact iB.2.2.2.2.2.2.1 _ _ _|exact dP.2.2.2.2.2.2.2.2.2.2.2.2.2.2.2.2.1 _|exact QA _ _ _)|split)
def GS:∀(d:Nat) (t:Zt) (x y:Zv),B P F X<|Op.equalIn d t x y:=by
 intro d;induction d with
 |zero=>intro t x y;unfold Op.equalIn;exact vE _ trivial
 |succ d ih=>
  intro t x y;unfold Op.equalIn
  repeat' (first|((with_reducible refine Jk _ ?_);next=>(exact trivial))|((with_reducible refine Xc ?_ ?_);next=>(first|(simp;done)|rfl))|(with_reducible first|refine xp ?_ (fun _=>?_)|refine Yo ?_ ?_|exact ih _ _ _|exact QZ _|exact dP.2.2.2.2.2.2.2.2.2.2.2.1 _|exact iZ.2.2.2.2.1 _ _|exact iB.2.2.2.2.2.2.2.1 _ _|exact mI _|exact iB.1 _ _ _|exact dP.1 _|exact dP.2.2.2.2.2.2.2.2.2.2.2.2.1 _|exact xr _|exact ja _|exact Yy _|exact vH _|exact Ya _|refine H7 _ _ (fun _ _=>?_) _|refine KT _ _ (fun _ _=>?_) _)|split|(dsimp only))
def FN:(∀(t:Zt) (x y:Zv),B P F X<|Op.equal t x y)/\(∀(s:Bool) (n c:Nat) (lo hi mx:Option Zv),B P F X<|Instr.sliceBounds s n c lo hi mx)/\(∀(t:Zt) (x:Zv) (i:Nat),B P F X<|Instr.fieldAt t x i):=by
 refine⟨?_, ?_, ?_⟩<;>intros<;>(first|unfold Op.equal|unfold Instr.sliceBounds|unfold Instr.fieldAt)<;>repeat' (first|(with_reducible first|exact GS _ _ _ _|refine xp ?_ (fun _=>?_)|exact iZ.2.2.2.2.2.2.2.2.2.1 _ _ _|exact xr _|exact ja _|exact iZ.2.1 _ _|exact dP.2.2.2.1 _|exact Ya _)|split)
def Lu(t:Zt)(k:Zv):∀(es:List MapEntry) (i:Nat),B P F X (Instr.findAsking t k es i)
 |[],i=>by unfold Instr.findAsking;exact Vv _
 |e::es,i=>by
  unfold Instr.findAsking;refine wT (FN.1 _ _ _) fun b=>?_;split;exact Vv _;exact Lu t k es<|i+1
def U1:(∀(t:Zt) (k:Zv) (es:List MapEntry),B P F X<|Instr.findKey t k es)/\(∀(t:Zt) (x:Zv) (lo hi mx:Option Zv),B P F X<|Instr.slice t x lo hi mx):=by
 refine⟨?_, ?_⟩<;>intros<;>(first|unfold Instr.findKey|unfold Instr.slice)<;>repeat' (first|(with_reducible first|refine xp ?_ (fun _=>?_)|exact Lu _ _ _ _|exact xr _|exact Ya _|refine Yo ?_ ?_|exact FN.2.1 _ _ _ _ _ _|exact iZ.1 _|exact dP.1 _|exact ja _)|split)
def FP:(∀(t:Zt) (x:Zv) (lo hi mx:Option Zv),B P F X<|Instr.sliceAt t x lo hi mx)/\(∀(t:Zt) (x i:Zv) (ok:Bool),B P F X<|Instr.lookup t x i ok)/\(∀(t:Zt) (m k v:Zv),B P F X<|Instr.mapUpdate t m k v)/\(∀(t:Zt) (m k:Zv),B P F X<|Instr.mapEntry t m k)/\(∀(ts:Array Zt) (t:Zt) (a:Za),B P F X<|Builtin.delete_ ts t a):=by
 refine⟨?_, ?_, ?_, ?_, ?_⟩<;>intros<;>(first|unfold Instr.sliceAt|unfold Instr.lookup|unfold Instr.mapUpdate|unfold Instr.mapEntry|unfold Builtin.delete_)<;>repeat' (first|((with_reducible refine yP (fun _ _ _=>?_) ?_);rotate_left;next=>(intro o b w;cases o<;>first|(cases b;done)|exact⟨id,trivial⟩))|((with_reducible refine BZ _ _ ‹_› ?_);next=>(refine⟨fun c e h=>?_,fun d h=>?_,fun l h=>?_⟩<;>cases h<;>simp))|(with_reducible first|refine xp ?_ (fun _=>?_)|exact U1.2 _ _ _ _ _|exact FN.2.1 _ _ _ _ _ _|exact dP.2.2.2.1 _|exact dP.1 _|exact xr _|exact Ya _|exact U1.1 _ _ _|exact zze _ _ _ _|exact dP.2.1 _|exact ja _|exact dP.2.2.2.2.2.2.2.2.2.2.2.2.2.2.2.2.2.2.1 _ _|exact mI _)|split)
end
section
variable {α β:Type} {P:aV} {F:Array Func} {X:Nat->Prop}
attribute [local simp] AB wW DX Y8 Y7 Wi AA
def NO(d e n:Nat)(base:Option Addr)(x:Zv)(p:Zp)(w:Zy):∃b,(Builtin.mayShare d e n base x).run p w= .ok b w:=by
 have h:∀(a:Addr) (c:Nat),∃b,(Builtin.holdsCells a c).run p w= .ok b w:=fun a c=>by
  unfold Builtin.holdsCells;simp only[shape,bind,Sem.bind,Sem.run];cases w.shape? a.block with
  |none=>exact⟨_,rfl⟩
  |some y=>exact⟨_,rfl⟩
 unfold Builtin.mayShare;cases base with
 |none=>
  simp only[bind,Sem.bind,pure];cases x with
  |slice a l c=>
   cases a with
   |none=>exact⟨_,rfl⟩
   |some a=>
    obtain⟨b,f⟩:=h a<|n*d;refine⟨!b||false, ?_⟩;simp[qh,f,aY,Sem.run]
  |_=>exact⟨_,rfl⟩
 |some a=>
  obtain⟨b,f⟩:=h a<|e*d;simp only[bind,pure,qh,f,aY,Go.frozen,Sem.run];cases hbb:(b&& !w.frozen? (a.add<|e/2*d))with
  |false=>exact⟨_,rfl⟩
  |true=>
   simp only[Bool.not_true];cases x with
   |slice y l c=>
    cases y with
    |none=>exact⟨_,rfl⟩
    |some y=>
     obtain⟨i,g⟩:=h y<|n*d;refine⟨!i||a.block==y.block, ?_⟩;simp[qh,g,aY,Sem.run]
   |_=>exact⟨_,rfl⟩
def Ts{size sLen n:Nat}{base:Option Addr}{x:Zv}{k:Bool->Sem β}(hk:∀b w,¬jK ((k b).run (wf P F) w)/\nR ((k b).run (wf P F) w)):B P F X<|Builtin.mayShare size sLen n base x>>=k:=
 SF fun w=>by
  obtain⟨b,a⟩:=NO size sLen n base x (wf P F) w;rw[show(Builtin.mayShare size sLen n base x>>=k).run (wf P F) w=_ from qh _ _ _ w,a];exact hk b w
def TO(c:Array Zt)(t:Zt)(a:Za):B P F X<|Builtin.append_ c t a:=by
 unfold Builtin.append_
 repeat' (first|((with_reducible refine Ts ?_);next=>(intro b w;cases b<;>exact⟨id,trivial⟩))|(with_reducible first|refine xp ?_ (fun _=>?_)|refine Yo ?_ ?_|exact iB.2.2.2.2.2.2.1 _ _ _|exact dP.2.2.2.2.2.2.2.2.2.2.2.2.2.2.2.2.1 _|exact iB.2.1 _|exact mI _|exact dP.2.2.1 _ _|exact QA _ _ _|exact dP.1 _|exact dP.2.1 _|exact xr _|exact ja _|exact Yy _|exact R7 _|exact vH _|exact Ya _)|split)
def Sm.fresh{w v:Zy}(h:Sm P X w v):¬X w.heap.size:=fun a=>by have:=h.low _ a;omega
def t7(e:Zt)(c:Za):B P F X<|newRow e c>>=fun a=>markStringish a>>=fun _=>(pure a:Sem Addr):=by
 have h:∀w:Zy,(({w with heap:=w.heap.push<|.cells c e}:Zy).freeze {block:=w.heap.size,off:=c.size} 1)={w with heap:=w.heap.push<|.cells c e (c.size,c.size+1)}:=fun w=>by
  unfold World.freeze;simp only[Nat.one_ne_zero,if_false,World.mk.injEq,and_true];apply Yc;intro i;simp only[q0,jh];by_cases g:i=w.heap.size;subst g;simp;simp[g,Ne.symm g]
 have run:∀p w,(newRow e c>>=fun a=>markStringish a>>=fun _=>(pure a:Sem Addr)).run p w= .ok (zq w.heap.size 0) {w with heap:=w.heap.push<|.cells c e (c.size,c.size+1)}:=fun p w=>by
  rw[<-h w];simp[newRow,newObj,markStringish,shape,freeze,bind,Sem.bind,Sem.run,pure,World.shape?]
 have runT:∀p w f,(newRow e c>>=fun a=>markStringish a>>=fun _=>(pure a:Sem Addr)).runT p w f=(.ok (zq w.heap.size 0) {w with heap:=w.heap.push<|.cells c e (c.size,c.size+1)},f):=fun p w f=>by
  rw[<-h w];simp[newRow,newObj,markStringish,shape,freeze,bind,Sem.bind,Sem.runT,pure,World.shape?,-Sem.runT_eq]
 refine⟨fun w v f b j=>?_,fun w b j=>?_,fun w _=>by rw[run];trivial⟩;rw[run,runT];refine⟨{v with heap:=v.heap.push<|.cells c e (c.size,c.size+1)},#[],⟨by simp[Ww,b.size],b.push _ .cells,fun x k=>?_,by simp,by simp⟩⟩;have:=b.low x k;simp only[jh,b.size,show x≠w.heap.size by omega,if_false];unfold nQ;rw[run];refine⟨ze _,rfl,fun t d _=>?_⟩;rw[run];simp[rW,Ww,re];exact⟨rfl,rfl,rfl⟩
def zng(e:Zt)(s:ByteArray):B P F X<|Conv.stringToBytes e s:=by
 haveI:=IX
 unfold Conv.stringToBytes;refine xp (Yy _) fun b=>?_;have:∀(c:Za),(newRow e c>>=fun a=>markStringish a>>=fun _=>(pure (.slice (bO a) s.size b):Sem Zv))=(newRow e c>>=fun a=>markStringish a>>=fun _=>(pure a:Sem Addr))>>=fun a=>pure<|.slice (bO a) s.size b:=fun c=>by
  simp only[bind_assoc,pure_bind]
 show B P F X<|newRow e _>>=fun a=>markStringish a>>=fun _=>(pure (.slice (bO a) s.size b):Sem Zv);rw[this];exact xp (t7 _ _) fun a=>xr _
end
section
variable {α β:Type} {P:aV} {F:Array Func} {X:Nat->Prop}
attribute [local simp] AB wW DX Y8 Y7 Wi AA
def Lv(op:BinOp)(k:FloatKind)(x y:Nat):B P F X<|Op.floatArith op k x y:=by
 unfold Op.floatArith
 repeat' (first|(with_reducible first|refine xp ?_ (fun _=>?_)|exact xr _|exact ja _|exact Yy _)|split|(dsimp only))
def Ob(op:BinOp)(k:FloatKind)(x y:Nat):B P F X<|Op.floatCmp op k x y:=by
 unfold Op.floatCmp
 repeat' (first|(with_reducible first|exact xr _|exact ja _)|split)
def ztq(s:FloatKind)(b:Nat)(k:IntKind):B P F X<|Conv.floatToInt s b k:=by
 unfold Conv.floatToInt
 repeat' (first|(with_reducible first|refine xp ?_ (fun _=>?_)|refine Yo ?_ ?_|exact xr _|exact Yy _)|split)
def zts(k:FloatKind)(n:Int):B P F X<|Conv.intToFloat k n:=by
 unfold Conv.intToFloat
 repeat' (first|(with_reducible exact xr _))
def YA(s:FloatKind)(b:Nat)(k:FloatKind):B P F X<|Conv.floatToFloat s b k:=by
 unfold Conv.floatToFloat
 repeat' (first|(with_reducible first|refine xp ?_ (fun _=>?_)|refine Yo ?_ ?_|exact xr _|exact Yy _)|split)
def zwb(s:FloatKind)(a b:Nat)(k:FloatKind):B P F X<|Conv.complexToComplex s a b k:=by
 unfold Conv.complexToComplex
 repeat' (first|(with_reducible first|refine xp ?_ (fun _=>?_)|exact YA _ _ _|exact xr _|exact ja _)|split)
def JP(op:BinOp)(k:FloatKind)(x y:Nat):B P F X<|Op.Complex.arith op k x y:=by
 unfold Op.Complex.arith
 repeat' (first|(with_reducible first|refine xp ?_ (fun _=>?_)|exact Lv _ _ _ _|exact xr _|exact ja _)|split)
def Dq(op:BinOp)(k:FloatKind)(x y:Nat):B P F X<|Op.Complex.cmp op k x y:=by
 unfold Op.Complex.cmp
 repeat' (first|(with_reducible first|refine xp ?_ (fun _=>?_)|exact Ob _ _ _ _|exact dP.2.2.2.2.2.2.2.2.1 _))
def To(s:FloatKind)(x:Nat)(k:FloatKind):B P F X<|Op.Complex.conv s x k:=by
 unfold Op.Complex.conv
 repeat' (first|(with_reducible first|refine xp ?_ (fun _=>?_)|refine Yo ?_ ?_|exact YA _ _ _|exact xr _|exact ja _)|split)
def Q8(x y:Nat):B P F X<|Op.Complex.add x y:=JP _ _ _ _
def R_(x y:Nat):B P F X<|Op.Complex.sub x y:=JP _ _ _ _
def Q9(x y:Nat):B P F X<|Op.Complex.mul x y:=JP _ _ _ _
def xp7(x y:Nat):B P F X<|Op.Complex.quo x y:=JP _ _ _ _
def zzg(a b c d:Nat):B P F X<|Op.Complex.product a b c d:=by
 unfold Op.Complex.product
 repeat' (first|(with_reducible first|refine xp ?_ (fun _=>?_)|exact Q9 _ _|exact R_ _ _|exact Q8 _ _|exact xr _))
def zto(s a b c d:Nat):B P F X<|Op.Complex.corrected s a b c d:=by
 unfold Op.Complex.corrected
 repeat' (first|(with_reducible first|refine xp ?_ (fun _=>?_)|exact Q9 _ _|exact R_ _ _|exact Q8 _ _|exact xr _))
def zwc(a b c d:Nat):B P F X<|Op.Complex.quotient a b c d:=by
 unfold Op.Complex.quotient
 repeat' (first|(with_reducible first|refine xp ?_ (fun _=>?_)|refine Yo ?_ ?_|exact zto _ _ _ _ _|exact xp7 _ _|exact Q9 _ _|exact R_ _ _|exact Q8 _ _|exact Dq _ _ _ _|exact xr _))
def zwa(op:BinOp)(k:FloatKind)(a b c d:Nat):B P F X<|Op.complexOp op k a b c d:=by
 unfold Op.complexOp
 repeat' (first|(with_reducible first|refine xp ?_ (fun _=>?_)|refine Yo ?_ ?_|exact zwc _ _ _ _|exact zzg _ _ _ _|exact To _ _ _|exact Dq _ _ _ _|exact JP _ _ _ _|exact xr _|exact ja _)|split)
def xte:B P F X<|sys .env:=
 yI (fun w=> .ok (.strings w.os.env) w) (fun _=>rfl) (fun _ _ _=>rfl) (fun _=>trivial) (fun w=>by
  have e:w.sys .env=(.strings w.os.env,w):=rfl;simp[sys,Sem.run,e]) (fun w v c b _=>⟨#[⟨.output,bL,bK⟩],by
  have e:v.sys .env=(.strings v.os.env,v):=rfl;simp[sys,Sem.runT,e,Ww,b.os,-Sem.runT_eq],fun e a=>by simp at a;subst a;exact trivial⟩)
def zzm:B P F X<|Instr.panicnil:=by
 unfold Instr.panicnil
 repeat' (first|((with_reducible refine Xc ?_ ?_);next=>(first|(simp;done)|rfl))|(with_reducible first|refine xp ?_ (fun _=>?_)|exact xte|exact xr _|exact ja _)|split)
def Ua(x:Zv):B P F X<|Instr.panic x:=by
 unfold Instr.panic
 repeat' (first|(with_reducible first|refine xp ?_ (fun _=>?_)|refine Yo ?_ ?_|exact zzm|exact mI _|exact ja _|exact Ar _)|split)
def xoy(P:Zp)(F:Zc):∀d t u,sameLayout (wf P F) d t u=sameLayout P d t u:=by
 intro d;induction d with
 |zero=>intros;rfl
 |succ d ih=>intro t u;simp only[sameLayout,ih,Jz,VP,wW]
def xsu(P:Zp)(F:Zc)(f:Zt->Bool):∀d e c o n,rowAt (wf P F) f d e c o n=rowAt P f d e c o n:=by
 intro d;induction d with
 |zero=>intros;rfl
 |succ d ih=>intro e c o n;simp only[rowAt,ih,Jz,Y7,wW]<;>rfl
def RZ(P:Zp)(F:Zc):∀d e c o u n,liesAt (wf P F) d e c o u n=liesAt P d e c o u n:=by
 intro d;induction d with
 |zero=>intros;rfl
 |succ d ih=>intro e c o u n;simp only[liesAt,ih,Jz,xsu,xoy,Y8]
def zro(P:Zp)(F:Zc):∀d t b,cellOfByte (wf P F) d t b=cellOfByte P d t b:=by
 intro d;induction d with
 |zero=>intros;rfl
 |succ d ih=>intro t b;simp only[cellOfByte,ih,Jz,Y7,Wi]<;>rfl
def Su(P:Zp)(F:Zc)(d:Nat)(e:Zt)(c o:Nat)(b:Int):cellAtBytes (wf P F) d e c o b=cellAtBytes P d e c o b:=by
 simp only[cellAtBytes,Y7,Wi,AA,zro]<;>rfl
def Kz(a:Addr)(u:Zt)(n:Nat)(p:Zp)(w:Zy):(variablesAt a u n).run p w= .ok (match w.shape? a.block with
  |some (e,c)=>liesAt p p.depth e (c/p.cellsOf e) a.off u n
  |none=>bK) w:=by
 cases h:w.shape? a.block with
 |none=>simp[variablesAt,program,shape,bind,Sem.bind,Sem.run,h,pure]
 |some y=>obtain⟨e,c⟩:=y;simp[variablesAt,program,shape,bind,Sem.bind,Sem.run,h,pure]
def t8{s:Sem α}(h:∀w,Sm P X w w->¬jK (s.run (wf P F) w)/\nR (s.run (wf P F) w)):B P F X s:=⟨fun w v c a b=>absurd b (h w a.self).1,fun w a b=>absurd b (h w a).1,fun w a=>(h w a).2⟩
def RA{r:Nat}(hx:¬X r):B P F X<|shape r:=
 yI (fun w=> .ok (w.shape? r) w) (fun _=>rfl) (fun _ _ _=>rfl) (fun _=>trivial) (fun _=>rfl) (fun w v b a _=>⟨#[],by
  simp[shape,Sem.runT,Ww,World.shape?,a.out r hx,-Sem.runT_eq],by simp⟩)
def GT{a:Addr}{n:Nat}(hx:¬X a.block):B P F X<|freeze a n:=by
 have out:∀w v:Zy,Sm P X w v->Sm P X (w.freeze a n) (v.freeze a n):=by
  intro w v h;unfold World.freeze;split;exact h;refine⟨by simp[h.size],fun r c=>?_,fun r c=>?_,fun r=>by
   have g:=h.oks r;simp only[q0];split;cases ho:w.heap[r]?with
   |none=>exact .none
   |some o=>
    rw[ho]at g;cases o with
    |cells=>exact .cells
    |_=>exact g
   exact g,h.tape,h.drawn,h.os,h.output,⟨by simp only[Array.size_modify];exact h.pin.1,fun r c k=>by
   have b:a.block≠r:=fun e=>hx<|e▸c;simp only[q0,b,if_false];exact h.pin.2 r c k⟩⟩
  simp only[q0,h.out r c];have b:a.block≠r:=fun e=>hx<|e▸c;simp only[q0,b,if_false];exact h.dead r c
 have f:∀(w:Zy) (r:Nat),X r->(w.freeze a n).heap[r]?=w.heap[r]?:=by
  intro w r c;unfold World.freeze;split;rfl;have b:a.block≠r:=fun e=>hx<|e▸c;simp only[q0,b,if_false]
 refine⟨fun w v l i j=>⟨v.freeze a n,#[],⟨?_,out w v i,fun r c=>f v r c,by simp, ?_⟩⟩,fun w i j=>⟨?_, ?_,fun t d _=>?_⟩,fun w _=>trivial⟩;simp[freeze,Sem.runT,Sem.run,Ww,-Sem.runT_eq];unfold World.freeze;split<;>simp
 show w.drawn<=(w.freeze a n).drawn;unfold World.freeze;split<;>exact ze _
 show(w.freeze a n).tape=w.tape;unfold World.freeze;split<;>rfl
 have e:(w.freeze a n).drawn=w.drawn:=by unfold World.freeze;split<;>rfl
 show Result.ok () ((re w t d).freeze a n)=Result.ok () (re (w.freeze a n) t<|d+((w.freeze a n).drawn-w.drawn));rw[e];unfold World.freeze;split<;>simp[re]
def Na(a:Addr):∀(n:Nat) (b:Addr) (acc:ByteArray),B P F X (loadBytes b acc n)
 |0,b,acc=>by unfold loadBytes;exact Vv _
 |n+1,b,acc=>by
  unfold loadBytes;refine xp (R6 _ _) fun x=>?_;split;exact Na a n _ _;exact ja _
def zzo(a:Addr)(u:Zt)(n:Nat)(l:n≠0):B P F X<|variablesAt a u n>>=fun b=>if b then(loadBytes a .empty n>>=fun s=>freeze a n>>=fun _=>(pure (.string s):Sem Zv))else unsupported (.unsafePointer "String: not so many bytes at ptr"):=by
 by_cases d:X a.block;refine t8 fun w i=>?_;rw[show(variablesAt a u n>>=_).run (wf P F) w=_ from qh _ _ _ w];obtain⟨o,r,f,p,⟨g,q⟩|⟨c,e,rfl,rfl⟩⟩:=i.dead _ d;have e:(variablesAt a u n).run (wf P F) w= .ok bK w:=by
  cases o<;>cases g
  rw[Kz];simp[World.shape?,f]
 rw[e];exact⟨id,trivial⟩;have e:∃b,(variablesAt a u n).run (wf P F) w= .ok b w:=⟨_,Kz a u n _ w⟩;obtain⟨b,j⟩:=e;rw[j];cases b with
 |false=>exact⟨id,trivial⟩
 |true=>
  have k:(loadBytes a .empty n).run (wf P F) w= .halt (.stuck "load: no such cell") w:=by
   obtain⟨m,rfl⟩:=Nat.exists_eq_succ_of_ne_zero l;have h:(Go.load a .plain).run (wf P F) w= .halt (.stuck "load: no such cell") w:=by
    rw[TD];simp[aQ,World.farLoad,World.noCell,f]
   unfold loadBytes;rw[show(Go.load a .plain>>=_).run (wf P F) w=_ from qh _ _ _ w,h];rfl
  show¬jK ((loadBytes a .empty n>>=fun s=>freeze a n>>=fun _=>(pure (.string s):Sem Zv)).run (wf P F) w)/\nR ((loadBytes a .empty n>>=fun s=>freeze a n>>=fun _=>(pure (.string s):Sem Zv)).run (wf P F) w);rw[show(loadBytes a .empty n>>=_).run (wf P F) w=_ from qh _ _ _ w,k];exact⟨id,trivial⟩
 refine xp ?_ fun b=>?_;unfold variablesAt;refine Xc ?_ ?_;simp only[RZ,Y8,Y7];refine xp (RA d) fun s=>?_;split;exact xr _;exact xr _;split;exact xp (Na a _ _ _) fun s=>xp (GT d) fun _=>xr _;exact Jk _ trivial
def zwi(d:Array Zt)(t:Zt)(a:Za):B P F X<|Builtin.unsafeSliceData_ d t a:=by
 unfold Builtin.unsafeSliceData_;obtain⟨l⟩:=a;rcases l with _|⟨x,_|⟨y,l⟩⟩
 exact ja _;cases x with
 |slice b n c=>
  cases b with
  |none=>exact xr _
  |some b=>exact Yo (xr _)<|xp (A8 _) fun _=>Yo (xr _)<|xp (dP.2.2.2.2.2.2.2.2.2.1 _) fun _=>xp (xH _ ⟨fun c e h=>(by cases h),fun f h=>(by cases h),fun l h=>(by cases h)⟩) fun _=>xr _
 |_=>exact ja _
 cases x<;>first|exact ja _|(rename_i b _ _;cases b<;>exact ja _)
def DF(s:Sem α):Prop:=∀p w a w',s.run p w≠ .ok a w'
def JI{s:Sem α}{k:α->Sem β}(h:∀a,DF<|k a):DF<|s>>=k:=fun p w b c e=>by
 rw[show(s>>=k).run p w=_ from qh p s k w]at e;cases hs:s.run p w with
 |ok a w1=>rw[hs]at e;exact h a p w1 b c e
 |halt x w1=>rw[hs]at e;cases e
def zjp(v:Zv):DF (goPanic v:Sem α):=fun p w a b e=>by cases e
def Yr(e:RuntimeError):DF (runtimePanic e:Sem α):=by
 unfold runtimePanic;refine JI fun p=>?_;cases e with
 |typeAssertion i c a m=>exact JI fun r=>JI fun s=>zjp _
 |panicNil=>exact JI fun r=>JI fun s=>zjp _
 |_=>exact zjp _
def EJ{s:Sem α}{k:α->Sem β}(i:B P F X s)(g:DF s):B P F X<|s>>=k:=by
 refine⟨fun w v f c b=>?_,fun w c b=>?_,fun w c=>?_⟩;rotate_left 2;have e:(s>>=k).run (wf P F) w=_:=qh (wf P F) s k w;rw[e];have l:=i.dZ w c;cases hr:s.run (wf P F) w with
 |ok a w'=>exact absurd hr<|g _ _ _ _
 |halt hh w'=>rw[hr]at l;exact l
 have e:(s>>=k).run (wf P F) w=_:=qh (wf P F) s k w;have p:(s>>=k).runT P v f=_:=Jb P s k v f;rw[e]at b⊢;rw[p];cases hr:s.run (wf P F) w with
 |ok a w'=>exact absurd hr<|g _ _ _ _
 |halt hh w'=>
  rw[hr]at b;obtain⟨x,j,h⟩:=i.gJ w v f c (by rw[hr];revert b;cases hh<;>exact id);rw[hr]at h;refine⟨x,j,⟨?_,h.sm,h.kept,h.evs,h.grows⟩⟩;rw[h.eq];rfl
 have r:∀w,(s>>=k).run (wf P F) w=_:=qh (wf P F) s k;unfold nQ;simp only[r]at b⊢;cases hr:s.run (wf P F) w with
 |ok a w'=>exact absurd hr<|g _ _ _ _
 |halt h w'=>
  rw[hr]at b;obtain⟨m,n,o⟩:=i.loc w c (by rw[hr];revert b;cases h<;>exact id);rw[hr]at m n o;refine⟨m,n,fun t d q=>?_⟩;rw[o t d q];rfl
def Pf(u:Unsupported):DF (unsupported u:Sem α):=fun p w a b e=>by cases e
def zoo(c:Array Zt)(t:Zt)(a:Za):B P F X<|Builtin.unsafeString_ c t a:=by
 unfold Builtin.unsafeString_;obtain⟨l⟩:=a;rcases l with _|⟨x,_|⟨y,_|⟨z,l⟩⟩⟩
 exact ja _;cases x<;>exact ja _
 cases x with
 |pointer b=>
  dsimp only;refine xp (iB.2.1 _) fun n=>?_;split
  ·split
   exact EJ (mI _)<|Yr _;split;exact EJ (Jk _ trivial)<|Pf _;cases b with
   |none=>repeat' (first|(with_reducible first|refine Yo ?_ ?_|exact mI _|exact xr _))
   |some b=>
    dsimp only;split;exact xr _;refine xp (dP.2.2.2.2.2.2.2.2.2.1 _) fun u=>?_;exact zzo b u n.toNat<|by omega
  exact ja _
 |_=>exact ja _
 cases x<;>exact ja _
def xtf(c:Array Zt)(t:Zt)(a:Za)(h:∀u,c[0]?=bO u->BP P u=bL):B P F X<|Builtin.len_ c t a:=by
 unfold Builtin.len_;split
 ·rename_i u x he
  refine JQ fun d hd=>?_;have b:=h u (by cases he':c[0]?<;>simp_all);unfold BP at b;rw[hd]at b
  repeat' (first|((with_reducible refine yP (fun _ _ _=>?_) ?_);rotate_left;next=>(intro o e w;cases o<;>first|(cases e;done)|exact⟨id,trivial⟩))|(with_reducible first|refine xp ?_ (fun _=>?_)|exact xr _|exact ja _|exact Ya _)|split)
  all_goals (cases b)
 exact ja _
def xtd(c:Array Zt)(t:Zt)(a:Za)(h:∀u,c[0]?=bO u->BP P u=bL):B P F X<|Builtin.cap_ c t a:=by
 unfold Builtin.cap_;split
 ·rename_i u x he
  refine JQ fun d hd=>?_;have b:=h u (by cases he':c[0]?<;>simp_all);unfold BP at b;rw[hd]at b
  repeat' (first|(with_reducible first|refine xp ?_ (fun _=>?_)|exact xr _|exact ja _|exact Ya _)|split)
  all_goals (cases b)
 exact ja _
end
section
variable {α β:Type} {P:aV} {F:Array Func} {X:Nat->Prop}
attribute [local simp] AB wW DX Y8 Y7 Wi AA Su RZ
def IF(e:Zt)(s:ByteArray):B P F X<|Conv.stringToRunes e s:=by
 unfold Conv.stringToRunes
 repeat' (first|(with_reducible first|refine xp ?_ (fun _=>?_)|exact dP.2.2.1 _ _|exact xr _|exact Yy _))
def zwe(x:Zv):B P F X<|Conv.runesToString x:=by
 unfold Conv.runesToString
 repeat' (first|(with_reducible first|refine xp ?_ (fun _=>?_)|exact dP.2.2.2.2.2.2.1 _ _|exact xr _|exact ja _|refine KT _ _ (fun _ _=>?_) _)|split)
def GF(c dst:Zt)(x:Zv)(h:VI P c dst=bL):B P F X<|convert c dst x:=by
 unfold convert;refine JQ fun a d=>JQ fun b e=>?_;unfold VI at h;rw[d,e]at h;split at h<;>first|(cases h;done)|(rename_i e1 e2;cases e1;cases e2;(repeat' (first|((with_reducible refine Jk _ ?_);next=>(exact trivial))|(with_reducible first|refine xp ?_ (fun _=>?_)|exact zwe _|exact IF _ _|exact zwb _ _ _ _|exact YA _ _ _|exact zts _ _|exact ztq _ _ _|exact zng _ _|exact iB.2.2.1 _|exact dP.2.2.2.2.2.1 _|exact dP.2.2.2.2.1 _ _|exact xr _|exact ja _|exact Ya _)|split));all_goals contradiction)
def zwj(p:Zp)(d:Nat)(e:Zt)(o:Nat)(b:Int):cellAtBytes p d e 0 o b=bN:=by
 unfold cellAtBytes;simp only[bind,Option.bind];split;rfl;split;rfl
 rename_i a _
 dsimp only;rw[aA];simp only[Nat.zero_mul,Yk,X9];exact Int.lt_or_le _ _
def B3{r:Nat}{k:Option (Zt×Nat)->Sem β}(hk:∀s,B P F X<|k s)(n:∀e w,¬jK ((k<|bO (e,0)).run (wf P F) w)/\nR ((k<|bO (e,0)).run (wf P F) w)):B P F X<|shape r>>=k:=by
 by_cases h:X r;refine⟨fun w v d a b=>?_,fun w a b=>(hk<|w.shape? r).loc w a b,fun w a=>(hk<|w.shape? r).dZ w a⟩;obtain⟨o,p,g,j,⟨l,m⟩|⟨c,e,rfl,rfl⟩⟩:=a.dead _ h;cases o<;>cases l
 have f:(shape r>>=k).run (wf P F) w=(k bN).run (wf P F) w:=by
  show(k<|w.shape? r).run (wf P F) w=_;simp[World.shape?,g]
 have i:(shape r>>=k).runT P v d=(k bN).runT P v d:=by
  show(k<|v.shape? r).runT P v d=_;cases p<;>cases m<;>simp[World.shape?,j]
 rw[f]at b⊢;rw[i];exact(hk bN).gJ w v d a b;exfalso;have f:(shape r>>=k).run (wf P F) w=(k<|bO (e,0)).run (wf P F) w:=by
  show(k<|w.shape? r).run (wf P F) w=_;simp[World.shape?,g]
 rw[f]at b;exact(n _ _).1 b;exact xp (RA h) hk
def Nc(a:Array Zt)(t:Zt)(x y:Zv):B P F X<|Builtin.unsafeAdd_ a t #[x,y]:=by
 unfold Builtin.unsafeAdd_;cases x with
 |pointer b=>
  refine xp (iB.2.1 _) fun n=>?_
  repeat' (first|((with_reducible refine B3 (fun _=>?_) ?_);rotate_left;next=>(intro e w;simp[program,bind,Sem.bind,Sem.run,zwj,unsupported,jK,nR,NI]))|(exact EJ (Jk _ trivial)<|Pf _)|((with_reducible refine Jk _ ?_);next=>(exact trivial))|((with_reducible refine Xc ?_ ?_);next=>(first|(simp;done)|rfl))|(with_reducible first|refine xp ?_ (fun _=>?_)|refine Yo ?_ ?_|exact A8 _|exact xr _)|split)
 |_=>exact ja _
def zzc(a:Addr)(l:Bool):B P F X<|asNumber a l:=by
 unfold asNumber
 repeat' (first|((with_reducible refine xH _ ?_);next=>(refine⟨fun c e h=>?_,fun b h=>?_,fun l h=>?_⟩<;>cases h<;>simp))|(with_reducible first|refine xp ?_ (fun _=>?_)|exact xr _))
def zq4(t:Zt)(x y:Zv):B P F X<|movedNumber t x y:=by
 unfold movedNumber
 repeat' (first|((with_reducible refine Jk _ ?_);next=>(exact trivial))|(with_reducible first|refine xp ?_ (fun _=>?_)|refine Yo ?_ ?_|exact zzc _ _|exact Nc _ _ _ _|exact dP.2.2.2.2.2.2.2.2.2.2.2.1 _|exact xr _|exact Ya _)|split)
def zok(t:Zt)(x y:Zv):B P F X<|movedPointer t x y:=by
 unfold movedPointer
 repeat' (first|((with_reducible refine Jk _ ?_);next=>(exact trivial))|(with_reducible first|refine xp ?_ (fun _=>?_)|refine Yo ?_ ?_|exact Nc _ _ _ _|exact Oe _)|split)
def Nb(a b:Addr):B P F X<|Op.twoPlaces a b:=by
 unfold Op.twoPlaces
 repeat' (first|((with_reducible refine Jk _ ?_);next=>(exact trivial))|((with_reducible refine Xc ?_ ?_);next=>(first|(simp;done)|rfl))|(with_reducible first|refine xp ?_ (fun _=>?_)|refine Yo ?_ ?_|exact QZ _|exact xr _))
def GC(k:IntKind)(a b:Addr):B P F X<|Op.addrSub k a b:=by
 unfold Op.addrSub
 repeat' (first|(with_reducible first|refine xp ?_ (fun _=>?_)|exact Nb _ _|exact xr _))
def FS(op:BinOp)(a b:Addr):B P F X<|Op.addrCmp op a b:=by
 unfold Op.addrCmp
 repeat' (first|((with_reducible refine Jk _ ?_);next=>(exact trivial))|(with_reducible first|refine xp ?_ (fun _=>?_)|exact Nb _ _|exact xr _)|split)
def GB(k:IntKind)(a:Addr)(n:Int):B P F X<|Op.addrMod k a n:=by
 unfold Op.addrMod
 repeat' (first|((with_reducible refine Ub (fun _=>?_) ?_);rotate_left;next=>(intro e n m;rfl))|((with_reducible refine Jk _ ?_);next=>(exact trivial))|(with_reducible first|refine xp ?_ (fun _=>?_)|refine Yo ?_ ?_|exact QZ _|exact xr _|exact vH _)|split)
def Tl(op:BinOp)(t:Zt)(x y:Zv):B P F X<|binOp op t x y:=by
 unfold binOp
 repeat' (first|((with_reducible refine Jk _ ?_);next=>(exact trivial))|(with_reducible first|refine xp ?_ (fun _=>?_)|refine Yo ?_ ?_|exact GB _ _ _|exact FS _ _ _|exact GC _ _ _|exact zok _ _ _|exact zq4 _ _ _|exact zwa _ _ _ _ _ _|exact Ob _ _ _ _|exact Lv _ _ _ _|exact FN.1 _ _ _|exact dP.2.2.2.2.2.2.2.2.2.2.2.1 _|exact dP.2.2.2.2.2.2.2.2.2.2.1 _ _ _|exact dP.2.2.2.2.2.2.2.2.2.2.2.2.2.2.2.2.2.2.2.2.2.1 _ _ _|exact iZ.2.2.2.1 _ _ _ _ _|exact dP.2.2.2.2.2.2.2.2.2.2.2.2.2.2.2.1 _ _ _ _|exact iZ.2.2.1 _ _ _ _|exact dP.2.2.2.2.2.2.2.2.2.2.2.2.2.2.1 _ _ _ _|exact xr _|exact ja _|exact Ya _)|split)
end
section
variable {α β:Type} {P:aV} {F:Array Func} {X:Nat->Prop}
attribute [local simp] AB wW DX Y8 Y7 Wi AA Su RZ
def YY(t:Zt)(x:Place):B P F X<|Place.get t x:=by
 unfold Place.get
 repeat' (first|(with_reducible first|exact iB.2.2.2.1 _ _|exact xr _)|split)
def A_:∀(l:List FieldStep) (t:Zt) (x:Place),B P F X (follow l t x)
 |[],t,x=>by unfold follow;exact xr _
 |s::l,t,x=>by
  unfold follow
  repeat' (first|(with_reducible first|refine xp ?_ (fun _=>?_)|refine Yo ?_ ?_|exact A_ l _ _|exact YY _ _|exact iZ.2.1 _ _|exact iZ.1 _|exact iB.1 _ _ _|exact ja _|exact Ya _)|split)
def IH(d:Array Zt)(t:Zt)(p:Zv)(a b:ByteArray):B P F X<|Builtin.ssaWrapNilChk_ d t #[p,.string a,.string b]:=by
 unfold Builtin.ssaWrapNilChk_;cases p with
 |pointer q=>
  cases q with
  |some q=>exact xr _
  |none=>
   refine xp (Yy _) fun c=>?_
   repeat' (first|(exact EJ (mI _)<|Yr _)|((with_reducible refine Jk _ ?_);next=>(exact trivial))|(with_reducible first|refine xp ?_ (fun _=>?_)|refine Yo ?_ ?_|exact mI _|exact ja _|exact vH _|exact Ya _)|split|(dsimp only))
 |_=>exact ja _
def Lx(t:Zt)(x:Place)(b:Bool)(w:Option String):B P F X<|receiverAt t x b w:=by
 unfold receiverAt
 repeat' (first|(exact IH _ _ _ _ _)|(with_reducible first|refine xp ?_ (fun _=>?_)|exact YY _ _|exact iZ.1 _|exact iB.2.2.2.1 _ _|exact xr _|exact ja _|exact Ya _)|split)
def zq5(t:Zt)(v:Zv)(p:Array FieldStep)(b:Bool):B P F X<|receiverVia t v p b:=by
 unfold receiverVia
 repeat' (first|(with_reducible first|refine xp ?_ (fun _=>?_)|exact Lx _ _ _ _|exact A_ _ _ _))
def Tz:∀(n:Nat) (t:Zt) (v:Zv) (name:String),B P F X (method n t v name)
 |0,t,v,name=>by unfold method;exact Jk _ trivial
 |n+1,t,v,name=>by
  unfold method
  repeat' (first|(with_reducible first|refine xp ?_ (fun _=>?_)|exact Tz n _ _ _|exact Lx _ _ _ _|exact A_ _ _ _|exact YY _ _|exact mI _|exact xr _|exact ja _|exact vH _)|split)
def Ld:∀(l:List FieldStep) (t:Zt) (x:Option Zv),B P F X (followBlind l t x)
 |[],t,x=>by unfold followBlind;exact xr _
 |s::l,t,x=>by
  unfold followBlind
  repeat' (first|(with_reducible first|refine xp ?_ (fun _=>?_)|exact Ld l _ _|exact iB.1 _ _ _|exact xr _|exact ja _|exact Ya _)|split)
def Od:∀(n:Nat) (t:Zt) (v:Zv) (name:String),B P F X (nilAhead n t v name)
 |0,t,v,name=>by unfold nilAhead;exact xr _
 |n+1,t,v,name=>by
  unfold nilAhead
  repeat' (first|(with_reducible first|refine xp ?_ (fun _=>?_)|exact Od n _ _ _|exact Ld _ _ _|exact xr _|exact ja _|exact vH _|exact Ya _)|split)
def HU(f:Zv)(a:Za):B P F X<|Deferred.ofValue f a:=by
 unfold Deferred.ofValue
 repeat' (first|(with_reducible first|exact xr _|exact ja _)|split)
def JB(r:Operand->Zv)(c:Call)(t:Zt):B P F X<|resolve r c t:=by
 unfold resolve
 repeat' (first|(with_reducible first|exact HU _ _|exact xr _)|split)
def Ref(F:Zc)(f:FuncId):Prop:=∃fn s,F[f]?=bO fn/\fn.body=bO (.refuse s)/\(fn.name== "runtime.NumGoroutine")=bK
structure BN(P:Zp)(F:Zc)(X:ZP)(s:Sem Next):Prop where
 gJ:∀w v es,Sm P X w v->jK (s.run (wf P F) w)->(∀f a w',s.run (wf P F) w= .ok (.enter f a) w'->¬Ref F f)->∃v' new,CR P X v es (s.run (wf P F) w) (s.runT P v es) v' new
 loc:∀w,Sm P X w w->jK (s.run (wf P F) w)->nQ w (s.run (wf P F) w) (s.run<|wf P F)
 dZ:∀w,Sm P X w w->nR (s.run (wf P F) w)
def Bl.next{s:Sem Next}(h:B P F X s):BN P F X s:=⟨fun w v a b c _=>h.gJ w v a b c,h.loc,h.dZ⟩
def SG{s:Sem α}{k:α->Sem Next}(j:B P F X s)(hk:∀a,BN P F X<|k a):BN P F X<|s>>=k:=by
 have z:∀w,(s>>=k).run (wf P F) w=_:=fun w=>qh (wf P F) s k w;refine⟨fun w v l f c D=>?_,fun w f c=>?_,fun w f=>?_⟩;rotate_left 2;rw[z];have G:=j.dZ w f;cases hq:s.run (wf P F) w with
 |halt hh w'=>rw[hq]at G;exact G
 |ok a w'=>
  obtain⟨o,b,r⟩:=j.gJ w w #[] f (by rw[hq];trivial);rw[hq]at r;exact(hk a).dZ w' r.sm.self
 have I:(s>>=k).runT P v l=_:=Jb P s k v l;rw[z]at c⊢;rw[I];simp only[z]at D;cases hr:s.run (wf P F) w with
 |halt hh w'=>
  rw[hr]at c;obtain⟨o,b,h⟩:=j.gJ w v l f (by rw[hr];revert c;cases hh<;>exact id);rw[hr]at h;refine⟨o,b,⟨?_,h.sm,h.kept,h.evs,h.grows⟩⟩;rw[h.eq];rfl
 |ok a w'=>
  rw[hr]at c D;obtain⟨o,b,h⟩:=j.gJ w v l f (by rw[hr];trivial);rw[hr]at h;obtain⟨E,y,m⟩:=(hk a).gJ w' o (l++b) h.sm c D;refine⟨E,b++y,⟨?_,m.sm,fun x H=>(m.kept x H).trans<|h.kept x H, ?_,xz h.grows m.grows⟩⟩;rw[h.eq];show(k a).runT P o (l++b)=_;rw[m.eq,Zs];rfl;intro e J;rcases IE.1 J with x|x
  exact(h.evs e x).mono m.grows;exact m.evs e x
 unfold nQ;simp only[z]at c⊢;cases hr:s.run (wf P F) w with
 |halt h w'=>
  rw[hr]at c;obtain⟨p,g,n⟩:=j.loc w f (by rw[hr];revert c;cases h<;>exact id);rw[hr]at p g n;refine⟨p,g,fun t d C=>?_⟩;rw[n t d C];rfl
 |ok a w'=>
  rw[hr]at c;obtain⟨p,g,n⟩:=j.loc w f (by rw[hr];trivial);rw[hr]at p g n;simp only[rW,Ww]at p g n;obtain⟨o,b,r⟩:=j.gJ w w #[] f (by rw[hr];trivial);rw[hr]at r;obtain⟨N,K,L⟩:=(hk a).loc w' r.sm.self c;show w.drawn<=(rW<|(k a).run (wf P F) w').drawn/\(rW<|(k a).run (wf P F) w').tape=w.tape/\∀t d,BU w ((rW<|(k a).run (wf P F) w').drawn-w.drawn) t d->_=Ww (re (rW<|(k a).run (wf P F) w') t<|d+((rW<|(k a).run (wf P F) w').drawn-w.drawn)) ((k a).run (wf P F) w');refine⟨by omega,K.trans g,fun t d C=>?_⟩;rw[n t d<|C.le<|by omega];have:=L t (d+(w'.drawn-w.drawn)) (fun i q M=>by
   have:=C (w'.drawn-w.drawn+i) q (by omega);rw[Ja,this,g,show w.drawn+(w'.drawn-w.drawn+i)=w'.drawn+i by omega])
  rw[show d+(w'.drawn-w.drawn)+((rW<|(k a).run (wf P F) w').drawn-w'.drawn)=d+((rW<|(k a).run (wf P F) w').drawn-w.drawn) by omega]at this;exact this
structure Fit(P:Zp)(F:Zc)(X:ZP):Prop where
 each:∀f:Nat,F[f]?=P.funcs[f]?\/Ref F f\/∃fn fn',P.funcs[f]?=bO fn/\F[f]?=bO fn'/\fn.name=fn'.name/\fn.body.isNone=bK/\fn'.body.isNone=bK
 res:∀f:Nat,(F[f]?).map (·.results)=(P.funcs[f]?).map (·.results)
 name:∀(f:Nat) fn,F[f]?=bO fn->(fn.name== "runtime.NumGoroutine")=bK
 next:∀(f:Nat) fn,F[f]?=bO fn->fn.body.isNone=bL->Extern.findNext fn=bN
 ext:∀(f:Nat) fn,F[f]?=bO fn->fn.body.isNone=bL->∀e,Extern.find fn=bO e->∀a,B P F X<|e a
def ZA{k:Zp->Sem Next}(h:k P=k (wf P F))(hk:BN P F X<|k<|wf P F):BN P F X<|program>>=k:=by
 have d:∀w,(program>>=k).run (wf P F) w=(k<|wf P F).run (wf P F) w:=fun w=>rfl;have e:∀w a,(program>>=k).runT P w a=(k<|wf P F).runT P w a:=fun w a=>by rw[<-h];rfl
 refine⟨fun w v a b c f=>?_,fun w b c=>?_,fun w b=>by rw[d];exact hk.dZ w b⟩;rw[d]at c⊢;rw[e];exact hk.gJ w v a b c f;rw[d]at c;have:=hk.loc w b c;unfold nQ at this⊢;simp only[d];exact this
def YW(H:Fit P F X)(f:FuncId)(args:Za):BN P F X<|callFunc f args:=by
 unfold callFunc;rcases H.each f with h|⟨a,s,c,b,g⟩|⟨a,j,c,b,g,k,i⟩
 ·refine ZA ?_ ?_
  rw[<-h];rfl;refine Bl.next ?_;show B P F X (match F[f]?with|none=>_|some a=>_);cases hf:F[f]?with
  |none=>exact ja _
  |some a=>
   dsimp only;split;exact xr _;split
   ·rename_i hb
    refine xp (Aw _<|.inr ⟨f,rfl⟩) fun _=>?_;have p:=H.next f a hf hb;rw[p];have o:=H.ext f a hf hb;dsimp only
    repeat' (first|(exact o _ ‹_› _)|((with_reducible refine Jk _ ?_);next=>(exact trivial))|(with_reducible first|refine xp ?_ (fun _=>?_)|refine Yo ?_ ?_|exact xr _)|split)
   exact xr _
 have e:∀w,(callFunc f args).run (wf P F) w= .ok (.enter f args) w:=fun w=>by
  show(match F[f]?with|none=>_|some a=>_:Sem Next).run (wf P F) w=_;rw[c];simp only[b,g];rfl
 refine⟨fun w v q m n l=>absurd ⟨a,s,c,b,g⟩<|l f args w<|e w,fun w m n=>?_,fun w _=>by unfold callFunc at e;rw[e];trivial⟩;unfold callFunc at e;unfold nQ;simp only[e];exact⟨ze _,rfl,fun t d _=>by simp[Ww,rW]⟩;refine ZA ?_ ?_;show(match P.funcs[f]?with|none=>_|some a=>_)=(match F[f]?with|none=>_|some a=>_);rw[c,b];simp only[g,k,i];rfl;refine Bl.next ?_;show B P F X (match F[f]?with|none=>_|some a=>_);rw[b];simp only[i];split;exact xr _;exact xr _
def Lt(H:Fit P F X)(r:Zv)(a:String)(args:Za):BN P F X<|callMethod r a args:=by
 unfold callMethod;split;refine ZA rfl ?_;refine SG (Tz _ _ _ _) fun x=>?_;exact YW H _ _
 ·exact Bl.next<|mI _
 exact Bl.next<|ja _
def GE(b:Builtin)(d:Array Zt)(t:Zt)(c:Array Bool)(a:Za)(h:yF P b d=bL):B P F X<|builtin b d t c a:=by
 have f:∀u,d[0]?=bO u->(match d[0]?with|some u=>BP P u|none=>bL)=bL->BP P u=bL:=fun u e h=>by rw[e]at h;exact h
 unfold builtin;cases b<;>simp only[yF,xu]at h<;>dsimp only
 case append=>exact xp (TO _ _ _) fun _=>xr _
 case cap=>exact xp (xtd _ _ _ fun u e=>f u e h) fun _=>xr _
 case clear=>exact xp (iB.2.2.2.2.2.2.2.2.2.2.2.2.2.1 _ _ _) fun _=>xr _
 case copy=>exact xp (iZ.2.2.2.2.2.2.2.2.2.2.2.2.2.2.2.2.2.2.2.2 _ _ _) fun _=>xr _
 case delete=>exact xp (FP.2.2.2.2 _ _ _) fun _=>xr _
 case len=>exact xp (xtf _ _ _ fun u e=>f u e h) fun _=>xr _
 case max=>exact xp (xtg _ _ _) fun _=>xr _
 case min=>exact xp (xth _ _ _) fun _=>xr _
 case panic=>exact xp (Ua _) fun _=>xr _
 case recover=>exact xr _
 case unsafeSliceData=>exact xp (zwi _ _ _) fun _=>xr _
 case unsafeString=>exact xp (zoo _ _ _) fun _=>xr _
def AU(H:Fit P F X)(t:Target)(args:Za)(h:Vn P t=bL):BN P F X<|invoke t args:=by
 unfold invoke;cases t with
 |nil=>exact Bl.next<|mI _
 |builtin b ts u c=>exact Bl.next<|GE _ _ _ _ _ h
 |collected r=>exact Bl.next<|ja _
 |coroexit c=>cases h
 |fn f c=>
  cases f with
  |func f=>exact YW H _ _
  |method n=>
   dsimp only;split;exact Lt H _ _ _;exact Bl.next<|ja _
  |methodOf t n=>
   dsimp only;split;exact SG (Ya _) fun _=>Lt H _ _ _;exact Bl.next<|ja _
  |via t p f b=>
   dsimp only;split;exact SG (zq5 _ _ _ _) fun _=>YW H _ _;exact Bl.next<|ja _
  |yield l=>exact Bl.next<|iB.2.2.2.2.2.2.2.2.2.2.2.2.1 _ _
def Y4{ρ:Operand->Zv}{c:Call}{t:Zt}(h:ES P c=bL){p:Zp}{w w':Zy}{d:Deferred}(a:(resolve ρ c t).run p w= .ok d w'):Vn P d.target=bL:=by
 unfold resolve at a;unfold ES at h;cases hc:c.callee with
 |builtin b=>
  rw[hc]at a h;cases a;exact h
 |invoke r n=>
  rw[hc]at a;cases a;rfl
 |value f=>
  rw[hc]at a;unfold Deferred.ofValue at a;dsimp only at a;split at a<;>cases a<;>rfl
def RB{s:Sem α}{k:α->Sem Next}{q:α->Prop}(r:B P F X s)(o:∀w a w',s.run (wf P F) w= .ok a w'->q a)(hk:∀a,q a->BN P F X (k a)):BN P F X<|s>>=k:=by
 classical
 have m:∀p w,(∀a w',s.run p w= .ok a w'->q a)->(s>>=k).run p w=(s>>=fun a=>if q a then k a else stuck "").run p w:=fun p w h=>by
  rw[show(s>>=k).run p w=_ from qh p s k w,show(s>>=fun a=>if q a then k a else stuck "").run p w=_ from qh p s _ w];cases hr:s.run p w with
  |ok a w'=>simp only[aY];rw[aA<|h a w' hr]
  |halt x w'=>rfl
 have l:=SG (k:=fun a=>if q a then k a else stuck "") r (fun a=>by
  by_cases h:q a;simp only[h,if_true];exact hk a h;simp only[h,if_false];exact Bl.next<|ja _)
 have d:∀w,(s>>=k).run (wf P F) w=_:=fun w=>m (wf P F) w fun a w'=>o w a w';refine⟨fun w v c g i C=>?_,fun w g i=>?_,fun w g=>by rw[d];exact l.dZ w g⟩;have b:=i;rw[d]at b;obtain⟨D,n,h⟩:=l.gJ w v c g b (fun f a w' e=>C f a w'<|by rw[d];exact e);refine⟨D,n, ?_⟩;rw[d];have y:(s>>=k).runT P v c=(s>>=fun a=>if q a then k a else stuck "").runT P v c:=by
  rw[show(s>>=k).runT P v c=_ from Jb P s k v c,show(s>>=fun a=>if q a then k a else stuck "").runT P v c=_ from Jb P s _ v c];have j:jK<|s.run (wf P F) w:=by
   rw[show(s>>=k).run (wf P F) w=_ from qh (wf P F) s k w]at i;cases hr:s.run (wf P F) w with
   |ok a w'=>trivial
   |halt x w'=>rw[hr]at i;revert i;cases x<;>exact id
  obtain⟨E,t,z⟩:=r.gJ w v c g j;rw[z.eq];cases hr:s.run (wf P F) w with
  |ok a w'=>simp only[Ww];rw[aA<|o w a w' hr]
  |halt x w'=>rfl
 rw[y];exact h;have b:=i;rw[d]at b;have:=l.loc w g b;unfold nQ at this⊢;simp only[d];exact this
def EF(H:Fit P F X)(ρ:Operand->Zv)(o:Oper)(h:qM P o.op=bL):BN P F X<|execOp ρ o:=by
 unfold execOp;cases ho:o.op<;>rw[ho]at h<;>simp only[qM,xu]at h<;>dsimp only
 case call c=>exact RB (JB _ _ _) (fun w d b a=>Y4 h a) fun d hd=>AU H _ _ hd
 case convert src dst x=>exact Bl.next<|xp (GF _ _ _ h) fun _=>xr _
 all_goals refine Bl.next ?_
 all_goals (repeat' (first|((with_reducible refine Jk _ ?_);next=>(exact trivial))|((with_reducible refine Xc ?_ ?_);next=>(first|(simp;done)|rfl))|(with_reducible first|refine xp ?_ (fun _=>?_)|refine Yo ?_ ?_|exact JB _ _ _|exact Od _ _ _ _|exact Tl _ _ _ _|exact Ua _|exact iZ.2.2.2.2.2.2.2.2.2.2.2.2.2.2.2.2.2.2.2.1 _ _ _ _|exact dP.2.2.2.2.2.2.2.2.2.2.2.2.2.2.2.2.2.2.2.2.2.2.2.2.2.2.1 _ _ _|exact u5 _ _|exact iZ.2.2.2.2.2.2.2.2.2.2.2.2.2.2.2.2.2.2.1 _ _ _ _|exact FP.2.2.2.1 _ _ _|exact FP.2.2.1 _ _ _ _|exact iZ.2.2.2.2.2.2.2.2.2.2.2.2.2.2.2.2.2.1 _ _ _|exact iZ.2.2.2.2.2.2.2.2.2.2.2.2.2.2.2.2.1 _ _|exact dP.2.2.2.2.2.2.2.2.2.2.2.2.2.2.2.2.2.2.2.2.2.2.2.2.2.1 _ _|exact dP.2.2.2.2.2.2.2.2.2.2.2.2.2.2.2.2.2.2.2.2.2.2.2.2.1 _ _ _|exact iZ.2.2.2.2.2.2.2.2.2.2.2.2.2.2.2.1 _ _|exact FP.2.1 _ _ _ _|exact iZ.2.2.2.2.2.2.2.2.2.2.2.2.2.2.1 _ _ _|exact iZ.2.2.2.2.2.2.2.2.2.2.2.2.2.1 _ _ _|exact dP.2.2.2.2.2.2.2.2.2.2.2.2.2.2.2.2.2.2.2.2.2.2.2.1 _ _|exact dP.2.2.2.2.2.2.2.2.2.2.2.2.2.2.2.2.2.2.2.2.2.2.1 _|exact iB.2.2.2.2.2.2.2.2.2.2.2.1 _ _ _|exact iB.2.2.2.2.2.2.2.2.2.2.1 _ _|exact iZ.2.2.2.2.2.2.2.2.2.2.2.2.1 _ _|exact iZ.2.2.2.2.2.2.2.2.2.2.2.1 _ _ _|exact iZ.2.2.2.2.2.2.2.2.2.2.1 _ _|exact FP.1 _ _ _ _ _|exact iZ.2.2.2.2.2.2.2.2.1 _ _ _|exact iZ.2.2.2.2.2.2.2.1 _ _ _|exact iZ.2.2.2.2.2.2.1 _ _|exact FN.2.2 _ _ _|exact iZ.2.2.2.2.2.1 _ _ _ _ _ _|exact iB.2.2.2.2.2.2.2.2.1 _ _|exact dP.2.2.2.2.2.2.2.2.1 _|exact mI _|exact xr _)|split))
end
end A
end Go.Proofs.YtjnbhiamaabbgaaGreatDoor
