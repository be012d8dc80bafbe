import Derived.Test.YtjnbhiamaabbgaaGreatDoorM13
import Derived.Stop.Asserts
import Derived.Lib.LaidTab
import Derived.Test.YtjnbhiamaabbgaaGreatDoorCards
import Derived.Test.YtjnbhiamaabbgaaGreatDoorTie
import Derived.Conc.LeavingOf
import Derived.OpenShut
import Derived.Deep.DeepHandedRow
import Derived.Stop.LaidTwo
set_option linter.all false
set_option maxRecDepth 100000
set_option maxHeartbeats 8000000
namespace Go.Proofs.YtjnbhiamaabbgaaGreatDoor
open Bool renaming false->bK,true->bL
open Go renaming Calls->bE,execOp->bG,results->aN,undef->bJ
open Go.Frame renaming enter->bF
open Go.Proofs.Tryz renaming prog->bM
open Option renaming none->bN,some->bO
open _root_.Array renaming replicate->aW
namespace P
open A.Tryq Go.RowKit Go.Extern.Stop Go.Stop Go.Extern
def isTypeOf(v:Zv)(w:Zy):(Extern.ReflectliteType.typeOf #[.iface 380 v]).run prog w= .ok (.iface 271<|.agg #[zk 5 380]) w:=by kernel_rfl
def isComparable(w:Zy):((Extern.ReflectliteType.method fun t=>do Extern.Rtype.noPackHeld "Comparable" t;(fun a=>Value.bool a.comparable) <$> typeInfo t) #[.agg #[zk 5 380]]).run prog w= .ok (.bool bL) w:=by kernel_rfl
def isMethod(v:Zv)(w:Zy):(Go.method 513 271 v "Comparable").run prog w= .ok (330,v) w:=by kernel_rfl
def isComp:(prog.info? 380).map (·.comparable)=bO bL:=by kernel_rfl
def isSize:(prog.info? 402).map (·.size)=bO 1:=by kernel_rfl
def lacks{i:Zt}{ms:Array<|String×Zt}(a:prog.underlying i=bO (.interface ms))(h:(prog.info? 380).map (fun i=>(lacking ms i.methods).isEmpty)=bO bK)(b:(prog.info? i).map (·.zero)=bO (bO .nilIface)):
  ∀v xT w,(Instr.typeAssert (.iface 380 v) xT i bL).run prog w= .ok (.tuple #[.nilIface,.bool bK]) w:=run_typeAssert_lacksB a h b
def is_in(a b:Addr)(t:Bool)(w:Zy)(c:(binOp .eql 169 (.iface 380<|.pointer<|bO a)<|.iface 380<|.pointer<|bO b).run prog w= .ok (.bool t) w):
  bE prog 151 #[.iface 380<|.pointer<|bO a,.iface 380<|.pointer<|bO b,.bool bL] w fun e w'=>e= .returned (.bool t)/\w'=w:=by
 have d:=lacks (show prog.underlying 273=_ from Tryz.underlying273) (by kernel_rfl) (by kernel_rfl);have f:=lacks (show prog.underlying 276=_ from Tryz.underlying276) (by kernel_rfl) (by kernel_rfl);have g:=lacks (show prog.underlying 278=_ from Tryz.underlying278) (by kernel_rfl) (by kernel_rfl);go_enter func151.1,Tryz.ntmps151
 go_wp2_with fail
 refine wp_loop_rounds 1 ?_;rw[rounds_succ];cases t
 all_goals
  go_wp2_with fail
  go_ret
  exact⟨rfl,rfl⟩
def is_ok(a b:Addr)(t:Bool)(w:Zy)(c:(binOp .eql 169 (.iface 380<|.pointer<|bO a)<|.iface 380<|.pointer<|bO b).run prog w= .ok (.bool t) w):
  bE prog 95 #[.iface 380<|.pointer<|bO a,.iface 380<|.pointer<|bO b] w fun e w'=>e= .returned (.bool t)/\w'=w:=by
 have h:=@run_callFunc_extern prog 150 _ _ func150 (by kernel_rfl) (by kernel_rfl) A.xxb A.xxo;have f:=@run_callFunc_extern prog 330 _ _ func330 (by kernel_rfl) (by kernel_rfl) A.xxd A.xxq;have j:=isTypeOf;have g:=isComparable;have i:=isMethod;have d:=zl<|is_in a b t w c;clear c;go_enter func95.1,Tryz.ntmps95
 go_wp2_with fail
 refine d.o.mono ?_;rintro e w' ⟨rfl,rfl⟩
 go_wp2_with fail
 go_ret
 exact⟨rfl,rfl⟩
def Two2(lo:Nat)(cv tv:Zv)(w:Zy):Prop:=∃a b ca cb ta tb,cv= .iface 380 (.pointer<|bO a)/\tv= .iface 380 (.pointer<|bO b)/\b≠a/\a.block<lo/\b.block<lo/\w.heap[a.block]?=bO (.cells ca ta (0,0))/\w.heap[b.block]?=bO (.cells cb tb (0,0))
end P
namespace P
open Go.RowKit A
def Two2.but{cv tv:Zv}{lo:Nat}{S:ZP}{w w':Zy}(h:Two2 lo cv tv w)(k:xb S w w')(c:∀x,S x->lo<=x):Two2 lo cv tv w':=by
 obtain⟨a,b,j,l,s,t,m,n,p,q,r,d,f⟩:=h;have g:∀{i:Nat} {o:Obj},w.heap[i]?=bO o->i<w.heap.size:=fun h=>(za.1 h).1;exact⟨a,b,j,l,s,t,m,n,p,q,r,(k.block _ (g d) fun e=>by have:=c _ e;omega).trans d,(k.block _ (g f) fun e=>by have:=c _ e;omega).trans f⟩
def Wy.tV{r:Sr}{s:Jo}(I:Wy r s)(x:Option Jo):Wy {r with sn:=x} s:=by
 obtain⟨a,b,q,L,D⟩:=I.dsk;exact⟨⟨a,b,q,L,⟨D.ok,D.cnt,D.tag,D.ep,D.same,D.base,D.last,D.named⟩⟩,I.mark,I.gd,I.each,I.nx,I.room,I.lim,I.fus,I.rC,I.cnt,I.P,I.P20,I.sK,I.len,I.ep,I.op,I.named,I.sh0⟩
def Wy.fP{B:Nat}{r:Sr}{x:Nat}(hx:r.shut.own B x):r.own B x:=by
 rcases hx with e|e|⟨t,a,_⟩;exact .inl e;exact .inr<|.inl e;cases a
variable [pn:A.Pn]
def Vz{Q:Exit->Act->Zy->Prop}(h:kT Q){id:Nat}:kT (fun e a' w'=>match e with
  | .exit j=>if j=id then Q .normal a' w' else Q (.exit j) a' w'
  |e=>Q e a' w'):=by
 intro e a w t d;cases e with
 |exit j=>
  dsimp only;split;exact h _ _ _ _ _;exact h _ _ _ _ _
 |normal=>exact h _ _ _ _ _
 |goto l=>exact h _ _ _ _ _
 |ret=>exact h _ _ _ _ _
 |panic ch=>exact h _ _ _ _ _
 |outgrown=>exact h _ _ _ _ _
end P
namespace P
open A.Tryq Go.RowKit Go.Extern.Stop Go.Stop Go.Extern
attribute [local go_sem] xe zv
@[simp]def vdt:prog.funcs[19]?=bO Tryz.f19:=A.qf Tryz.func19
@[simp]def vel(args:Za)(w:Zy):(callFunc 19 args).run prog w= .ok (.enter 19 args) w:=A.qc Tryz.func19 (args:=args) (w:=w)
@[simp]def veg:prog.funcs[21]?=bO Tryz.f21:=A.qf Tryz.func21
@[simp]def ven(args:Za)(w:Zy):(callFunc 21 args).run prog w= .ok (.enter 21 args) w:=A.qc Tryz.func21 (args:=args) (w:=w)
def vbt{cv tv:Zv}{lo:Nat}(B:Nat)(w:Zy)(h:Two2 lo cv tv w)(q:w.cell? (zq 0 0)=bO cv){v7:Zv}(n:w.cell? (zq B 7)=bO v7)(f7:w.frozen? (zq B 7)=bK):
  bE prog 64 #[zo B,cv] w fun e w'=>e= .returned (zi 12)/\w'=w.setCell (zq B 7) (.pointer bN):=by
 obtain⟨a,b,o,p,s,v,rfl,rfl,m,_,_,k,l⟩:=h;obtain⟨i,f,c⟩:=zt.1 isComp;obtain⟨j,g,d⟩:=zt.1 isSize;have r:=run_typeAssert_hasB (P:=prog) (t:=380) (show prog.underlying 169=_ from Tryz.underlying169) (by kernel_rfl);have I1:=zl<|is_ok a a bL w<|run_eql_iface_ptr_same (P:=prog) w a (show prog.underlying 169=_ from Tryz.underlying169) (show prog.underlying 380=_ from Tryz.underlying380) f c g;clear f c g d k l;go_enter func64.1,Tryz.ntmps64
 go_wp2_with fail
 refine I1.o.mono ?_;rintro e w' ⟨rfl,rfl⟩
 go_wp2_with fail
 go_ret
 exact⟨rfl,rfl⟩
def vby{cv tv:Zv}{lo B p q:Nat}(w:Zy)(h:Two2 lo cv tv w)(j:w.cell? (zq 0 0)=bO cv){v7:Zv}(g:w.cell? (zq B 7)=bO v7)(f7:w.frozen? (zq B 7)=bK)(z:w.cell? (zq p 0)=bO (zo B))(i:xx w q #[zi 0] 33)(f:q≠B):
  CallsD prog 63 #[zo p,zo q] (.panicking [{v:=cv,recovered:=bK}]) w fun e u' w'=>e= .returned (.tuple #[])/\u'= .panicking [{v:=cv,recovered:=bL}]/\w'=(w.setCell (zq B 7)<|.pointer bN).setCell (zq q 0) (zi 12):=by
 have G:=zl<|vbt B w h j g f7;have c:xx (w.setCell (zq B 7)<|.pointer bN) q #[zi 0] 33:=i.but (xb.set w (zq B 7) _) f;have C:(w.setCell (zq B 7)<|.pointer bN).cell? (zq q 0)=bO (zi 0):=c.cell 0 rfl;have F:=c.bT 0;obtain⟨a,b,r,s,D,E,rfl,rfl,d,n,o,k,l⟩:=h;clear k l d n o i c g f7;refine callsD_of_wpS func63.1 rfl fun y x m=>?_;apply wpS_seq;apply wpS_region;simp[wpOpsS,go_sem,recoverD,m,Tryz.ntmps63,Exit.thenS];apply wpS_seq;apply wpS_region;simp[wpOpsS,go_sem,Exit.thenS];refine wpS_cond (t:=bL) (by simp[Act.eval,aW]) ?_;simp only[if_true];refine wpS_of_wp ?_
 go_wp2_with fail
 refine G.o.mono ?_;rintro e w' ⟨rfl,rfl⟩
 go_wp2_with fail
 simp[bodyPostS,aN,Tryz.results63]
def jt.shut{B:Nat}{r r':Sr}{w w':Zy}(h:jt B r w r' w'):jt B r w r'.shut<|w'.setCell (zq B 7)<|.pointer bN:=by
 refine h.trans ⟨(xb.set w' (zq B 7) _).mono fun x a=> .inl a,⟨?_, ?_,fun s e=>by cases e⟩,fun x a=>?_⟩;exact h.at_.blk.set 7 _;exact h.at_.disk.but (xb.set w' (zq B 7) _) fun x a e=>h.at_.fB (by have e:x=B:=e;rw[<-e];exact a);rcases a with e|e|⟨s,e,_⟩
 exact .inl<|.inl e;exact .inl<|.inr<|.inl e;cases e
def vah{cv tv:Zv}{lo:Nat}(f:FuncId)(B:Nat)(r:Sr)(A:Option Int×Sr)(w:Zy)(h:Jq w B r)(G:iA cv tv w)(L:Two2 lo cv tv w)(n:∀x,r.own B x->lo<=x)(m:∀x,r.own B x->4<x)(I:∀args w,(callFunc f args).run prog w= .ok (.enter f args) w)
  (hw:∀w0,Jq w0 B r->iA cv tv w0->bE prog f #[zo B] w0 fun e w'=>∃a r',A=(a,r')/\e=FD cv a/\jt B r w0 r' w'):
  bE prog 34 #[zo B,.func (.func f) #[zo B] #[]] w fun e w'=>(∃v r',A=(bO v,r')/\e= .returned (zi v)/\jt B r w r' w')\/(∃r',A=(bN,r')/\e= .returned (zi 12)/\jt B r w r'.shut w'):=by
 have T:∀(fn:Fn) (first cap:Za) (w:Zy),(Instr.makeFunc fn first cap).run prog w= .ok (.func fn first cap) w:=fun _ _ _ _=>rfl;have l:Nw w<|(w.alloc<|.cells #[zo B] 26).alloc<|.cells #[zi 0] 33:=(xb.alloc _).trans<|xb.alloc _;have O:((w.alloc<|.cells #[zo B] 26).alloc<|.cells #[zi 0] 33).heap.size=w.heap.size+2:=by simp
 have D:xx ((w.alloc<|.cells #[zo B] 26).alloc<|.cells #[zi 0] 33) (w.heap.size+1) #[zi 0] 33:=by
  have:=xx.new (w.alloc<|.cells #[zo B] 26) #[zi 0] 33;rw[xh]at this;exact this
 have K:xx ((w.alloc<|.cells #[zo B] 26).alloc<|.cells #[zi 0] 33) w.heap.size #[zo B] 26:=(xx.new w _ _).alloc _;have C:=zl<|RI<|hw _ (h.but l fun _ _=>id)<|G.but l fun _ x=>x.elim;have d:∀{x:Nat},r.own B x->x<w.heap.size:=fun g=>Sr.bX h g;have i:∀{x r' w'},jt B r ((w.alloc<|.cells #[zo B] 26).alloc<|.cells #[zi 0] 33) r' w'->r'.own B x->x≠w.heap.size+1:=fun c g e=>by
  rcases c.own _ g with m|m;have:=d m;omega;rw[O]at m;omega
 have z:Hid<|∀v r' w',A=(bO v,r')->jt B r ((w.alloc<|.cells #[zo B] 26).alloc<|.cells #[zi 0] 33) r' w'->xx w' (w.heap.size+1) #[zi 0] 33/\jt B r w r' (w'.setCell (zq (w.heap.size+1) 0)<|zi v):=fun v r' w' k c=>
  ⟨D.but c.but fun g=>(by have:=d g;omega),jt.fresh (b:=w.heap.size+1) ((jt.nw h l).trans c) (by omega) (fun g=>i c g rfl)<|xb.set w' (zq (w.heap.size+1) 0) _⟩
 have y:Hid<|∀r' w',A=(bN,r')->jt B r ((w.alloc<|.cells #[zo B] 26).alloc<|.cells #[zi 0] 33) r' w'->CallsD prog 63 #[zo w.heap.size,zo<|w.heap.size+1] (.panicking [{v:=cv,recovered:=bK}]) w' fun e t j=>e= .returned (.tuple #[])/\t= .panicking [{v:=cv,recovered:=bL}]/\j.cell? (zq (w.heap.size+1) 0)=bO (zi 12)/\jt B r w r'.shut j:=fun r' w' k c=>by
  have M:xx w' (w.heap.size+1) #[zi 0] 33:=D.but c.but fun g=>by have:=d g;omega
  have S:B<w.heap.size:=d<|.inl rfl;have H:=(G.but l fun _ x=>x.elim).but c.but m;obtain⟨⟨_,_,_,E⟩,_,_⟩:=H;refine(vby (B:=B) (p:=w.heap.size) (q:=w.heap.size+1) w' ((L.but l fun _ x=>x.elim).but c.but n) E (c.at_.blk.cell 7 rfl) (c.at_.blk.bT 7) ((K.but c.but fun g=>by have:=d g;omega).cell 0 rfl) M<|by omega).mono ?_;rintro e t j ⟨rfl,rfl,rfl⟩;refine⟨rfl,rfl,((M.but (xb.set w' (zq B 7) _) (show w.heap.size+1≠B by omega)).set 0 _).cell 0 rfl, ?_⟩;exact jt.fresh (b:=w.heap.size+1) (((jt.nw h l).trans c).shut) (by omega) (fun g=>i c (Wy.fP g) rfl)<|xb.set _ (zq (w.heap.size+1) 0) _
 clear h G L n m hw l O D K d i
 go_enter_defers func34.1,Tryz.ntmps34
 go_wp2_with fail
 refine C.o.mono ?_;rintro e w1 (⟨v,r',k,rfl,c⟩|⟨r',k,rfl,c⟩)
 ·obtain⟨F,s⟩:=z.o v r' w1 k c
  have E:=F.cell 0 rfl;have U:=F.bT 0;have J:=zl s;have o:=zl k;clear k c F s C z y
  go_wp2_with fail
  refine leaves_cons (f:=63) (args:=#[zo w.heap.size,zo<|w.heap.size+1]) (by simp) (by simp[go_sem]) ?_;refine(Oh _ _ _).mono ?_;rintro e t j ⟨rfl,rfl,rfl⟩;simp[Leaves,settle,aN,Tryz.results34,go_sem,E]
  first
   |exact .inl ⟨v,r',o.o,rfl,J.o⟩
   |exact .inl ⟨r',o.o,J.o⟩
 have Q:=zl<|y.o r' w1 k c;have o:=zl k;clear k c C z y;refine leaves_cons (f:=63) (args:=#[zo w.heap.size,zo<|w.heap.size+1]) (by simp) (by simp[go_sem]) ?_;refine Q.o.mono ?_;rintro e t j ⟨rfl,rfl,R,s⟩;simp[Leaves,settle,aN,Tryz.results34,go_sem,R];exact .inr ⟨r',o.o,s⟩
end P
namespace P
open Go.RowKit
section
variable {F:Ym} {t:Int} {k:Lk} {xs:List Zl}
structure OL(F:Ym):Prop where
 gd:fM F
 each:jX F
 fl:∀n,(Vu F n).2=((qu F n).length:Int)
def FK{k n:Int}{f:Zl×Int}(h:k≠n):Vu (Yx F n f) k=Vu F k:=by unfold Vu;rw[zt8 h]
def NW(g:fM F){n:Int}{f:Zl×Int}(c:f.1=[]->f.2=0):Vu (Yx F n f) n=f:=by
 unfold Vu Yx;split
 rename_i h
 rw[Ri g.nd];obtain⟨a,b⟩:=f;simp only at h c;rw[h,c h];rfl;rw[DH];rfl
def vcc(g:fM F)(n k:Int):Vu (V6 F n) k=if k=n then([],0)else Vu F k:=by
 unfold Vu;split
 rename_i h;subst h;rw[Ri g.nd];rfl
 rename_i h;rw[Me h]
def OL.lay(h:OL F){n:Int}{x:Zl}(a:i64 n)(hx:x.length<=1000000):OL<|Yx F n (x,(x.length:Int)):=by
 refine⟨h.gd.lay _ _,h.each.lay a ⟨by simp,by simp,hx⟩,fun k=>?_⟩;by_cases e:k=n;subst e;rw[NW h.gd<|by intro e;simp only at e;simp[e],uS h.gd,aA rfl];rw[FK e,h.fl,uS h.gd,aB e]
def OL.del(h:OL F)(n:Int):OL<|V6 F n:=by
 refine⟨h.gd.del n,fun p a=>h.each p<|EM a,fun k=>?_⟩;rw[vcc h.gd,KW h.gd];split;rfl;exact h.fl k
def vbw(f:0<=t):∀(ns:List Int) (F:Ym),ns.Nodup->(∀n∈ns,i64 n)->fM F->jX F->fM (ns.foldl (lose1 t) F)/\jX (ns.foldl (lose1 t) F)/\
  ∀k,(k∉ns->Vu (ns.foldl (lose1 t) F) k=Vu F k)/\(k∈ns->qu (ns.foldl (lose1 t) F) k=(qu F k).take (xB t<|Vu F k).toNat/\(Vu (ns.foldl (lose1 t) F) k).2=((qu (ns.foldl (lose1 t) F) k).length:Int))
 |[],F,_,_,g,e=>⟨g,e,fun k=>⟨fun _=>rfl,fun h=>by cases h⟩⟩
 |n::ns,F,hn,hi,g,e=>by
  have d:=Zr.1 hn;have q:fM<|lose1 t F n:=g.lay _ _;obtain⟨i,j,l⟩:=vbw f ns (lose1 t F n) d.2 (fun x v=>hi x<|by simp[v]) q (e.lose1 f<|hi n<|by simp);refine⟨i,j,fun k=>?_⟩;have b:∀{k},k≠n->Vu (lose1 t F n) k=Vu F k:=fun h=>FK h;obtain⟨a,m⟩:=l k;refine⟨fun h=>?_,fun h=>?_⟩;have r:k≠n:=fun e=>h (by simp[e]);exact(a fun x=>h<|by simp[x]).trans<|b r;by_cases hk:k=n;subst hk;have a:=a d.1;have hd:Vu (lose1 t F k) k=((qu F k).take (xB t<|Vu F k).toNat,(((qu F k).take (xB t<|Vu F k).toNat).length:Int)):=NW g (by intro e;simp only at e;rw[e];rfl);have c:qu ((k::ns).foldl (lose1 t) F) k=(qu F k).take (xB t<|Vu F k).toNat:=by
   show(Vu (ns.foldl (lose1 t)<|lose1 t F k) k).1=_;rw[a,hd]
  refine⟨c, ?_⟩;rw[c];show(Vu (ns.foldl (lose1 t)<|lose1 t F k) k).2=_;rw[a,hd];have s:k∈ns:=by rcases xf.1 h with h|h;exact absurd h hk;exact h
  obtain⟨o,p⟩:=m s;refine⟨?_,p⟩;show qu (ns.foldl (lose1 t)<|lose1 t F n) k=_;rw[o,b hk,show qu (lose1 t F n) k=qu F k from congrArg Prod.fst<|b hk]
def vbg(g:fM F):(Xs F).Nodup:=((Xw _ _).nodup_iff).2 g.nd
def vbv(v:0<=t)(g:fM F)(e:jX F):OL (NU t F)/\∀k,qu (NU t F) k=(qu F k).take (xB t<|Vu F k).toNat:=by
 have q:∀n∈Xs F,i64 n:=fun n r=>by
  have:n∈F.map (·.1):=((Xw _ _).mem_iff).1 r;obtain⟨p,s,rfl⟩:=qp.1 this;exact(e p s).1
 obtain⟨f,i,b⟩:=vbw v (Xs F) F (vbg g) q g e;have a:∀k,qu (NU t F) k=(qu F k).take (xB t<|Vu F k).toNat/\(Vu (NU t F) k).2=((qu (NU t F) k).length:Int):=fun k=>by
  by_cases h:k∈Xs F;exact(b k).2 h;have j:=(b k).1 h;have c:qu F k=[]:=jr fun x=>h<|g.nums.2 x;have l:k∉F.map (·.1):=fun x=>g.mem.1 x c;have m:Vu F k=([],0):=by unfold Vu;rw[zww l];rfl
  have d:Vu (NU t F) k=([],0):=j.trans m;have o:qu (NU t F) k=[]:=congrArg Prod.fst d;rw[o,c,d];exact⟨by simp,rfl⟩
 exact⟨⟨f,i,fun k=>(a k).2⟩,fun k=>(a k).1⟩
def OL.lost(c:0<=t)(h:OL F):OL (NU t F)/\∀k,qu (NU t F) k=qu F k:=by
 obtain⟨a,b⟩:=vbv c h.gd h.each;refine⟨a,fun k=>?_⟩;rw[b k,show xB t (Vu F k)=((qu F k).length:Int)from ?_];simp;unfold xB;have:=h.fl k;have e:(Vu F k).1=qu F k:=rfl;rw[e];omega
def OL.dD(i:0<=t)(h:OL F){p:Int}(d:i64 p){x:Zl}(hx:(qu F p).length+x.length<=1000000):∃j:Nat,(j:Int)<=t/\OL (NU t<|Yx F p (qu F p++x,(Vu F p).2))/\∀k,qu (NU t<|Yx F p (qu F p++x,(Vu F p).2)) k=if k=p then qu F p++x.take j else qu F k:=by
 have g:=h.gd.lay p (qu F p++x,(Vu F p).2);have c:=h.fl p;have e:=h.each.lay (f:=(qu F p++x,(Vu F p).2)) d ⟨by rw[c];simp,by rw[c];simp only[zj];omega,by simp only[zj];omega⟩;obtain⟨a,b⟩:=vbv i g e;refine⟨(min t x.length).toNat,by omega,a,fun k=>?_⟩;rw[b k,uS h.gd];by_cases hk:k=p;subst hk;rw[aA rfl,aA rfl,NW h.gd (by
  intro e;simp only[List.append_eq_nil_iff]at e;rw[c,e.1];rfl)]
 unfold xB;simp only;rw[c,zj,show(((qu F k).length:Int)+min t (((qu F k).length+x.length:Nat)-((qu F k).length:Int))).toNat=(qu F k).length+(min t x.length).toNat by omega,List.take_length_add_append];rw[aB hk,aB hk,FK hk];have:=h.fl k;have e:(Vu F k).1=qu F k:=rfl;rw[show xB t (Vu F k)=((qu F k).length:Int) by unfold xB;rw[e];omega];simp
def vcs{a b:List Int}(h:a.Perm b):a.sum=b.sum:=by
 induction h with
 |nil=>rfl
 |cons x _ ih=>rw[Vq,Vq,ih]
 |swap x y l=>simp only[Vq];omega
 |trans _ _ h1 h2=>exact h1.trans h2
def vaq(g:fM F):J6 F=((F.map (·.1)).map fun n=>((qu F n).length:Int)).sum:=by
 unfold J6;rw[uP]
 congr 1
 refine List.map_congr_left fun p a=>?_;have:J9 F p.1=bO p.2:=by
  have h:=g.nd;clear g;induction F with
  |nil=>cases a
  |cons q F ih=>
   obtain⟨k,v⟩:=q;have b:=Zr.1 h;unfold J9;rcases xf.1 a with rfl|a
   rw[aA rfl];rw[aB fun e=>b.1<|by rw[<-e];exact qp.2 ⟨p,a,rfl⟩];exact ih a b.2
 show _=((qu F p.1).length:Int);unfold qu;rw[this];rfl
def vam{F G:Ym}(f:fM F)(g:fM G)(e:∀n,qu G n=qu F n):J6 G=J6 F:=by
 rw[vaq f,vaq g,show(fun n=>((qu G n).length:Int))=fun n=>((qu F n).length:Int)from funext fun n=>by rw[e]];exact vcs<|((List.perm_ext_iff_of_nodup g.nd f.nd).2 fun n=>by rw[f.mem,g.mem,e]).map _
def vay{m mark plain:Zl}{c:Z8}{ep op cnt j:Nat}(g:plain.length<65536)(i:j<(Y5 m mark [c] ep op cnt plain).length):X7 ((Y5 m mark [c] ep op cnt plain).take j)=bK:=by
 have k:=QT m mark [c] ep op cnt plain rfl;have e:(Y5 m mark [c] ep op cnt plain)=Wv [c] ep op cnt plain.length++(qE m [c] ep op cnt plain++(nH m mark [c] ep op cnt plain++[])):=by
  have:=@ZU m mark c ep op cnt plain [];rwa[Xq]at this
 have d:eT (Y5 m mark [c] ep op cnt plain)=plain.length:=by rw[e];exact n_ g
 have a:((Y5 m mark [c] ep op cnt plain).take j).length=j:=by rw[xt];omega
 unfold X7;rw[a];refine decide_eq_false fun⟨b,h⟩=>?_;have f:eT ((Y5 m mark [c] ep op cnt plain).take j)=plain.length:=by
  rw[<-D3,List.take_take,Vg b,D3,d]
 omega
def vbi{k q:Lk}{L L':KV}{num:Nat}{x y:Zl}(h:oZ k L num x q L')(e:q.last=(num:Int))(hy:y≠[])(f:X7 y=bK):eP k L num (x++y)=bO ({q with dD:=bL,whole:=(x.length:Int)},L'):=by
 obtain⟨a,rfl,c,d⟩:=h;have b:=zz6 num<|k.cnt+1;have i:=qb.2 c;have j:=qb.2 hy;have g:(nE num (k.cnt+1)++a++y).take 9=83::(nb num 4++nb (k.cnt+1) 4):=by rw[Zq];exact Zd b
 have hd:(nE num (k.cnt+1)++a++y).drop 9=a++y:=by rw[Zq];exact Z6 b
 unfold eP;rw[aA<|by simp only[zj];omega,aB<|by simpa using g,hd,Ns _ y (ze _) d,KH f];simp only[zj,b];rw[aB<|by omega,show 9+a.length+y.length-y.length=9+a.length by omega];unfold Wq;rw[aA<|by omega,aA e.symm]
def vcj{L:KV}{num j:Nat}{z:Zl}(f:k.last=(num:Int))(l:j<9+z.length)(e:0<j)(g:∀i,i<z.length->X7 (z.take i)=bK):eP k L num ((nE num (k.cnt+1)++z).take j)=bO ({k with dD:=bL,whole:=0},L):=by
 have c:=zz6 num<|k.cnt+1;have a:((nE num (k.cnt+1)++z).take j).length=j:=by rw[xt,zj,c];omega
 have d:Wq k L num j 0=bO ({k with dD:=bL,whole:=0},L):=by
  unfold Wq;rw[aA e,aA f.symm];rfl
 unfold eP;rw[a];by_cases b:9<=j;have h:((nE num (k.cnt+1)++z).take j).take 9=83::(nb num 4++nb (k.cnt+1) 4):=by rw[List.take_take,Vg b];exact Zd c
 have hd:((nE num (k.cnt+1)++z).take j).drop 9=z.take (j-9):=by rw[List.drop_take,Z6 c]
 rw[aA b,aB<|by simpa using h,hd,KH<|g _<|by omega];simp only[xt];rw[aA<|by omega];exact d;rw[aB b];exact d
section
variable {m mark:List UInt8} {F G:Ym} {L0 L:KV} {xs:List<|List UInt8} {q:Lk} {tc:Nat} {op:Int} {mp:Nat}
def vad(k:Lk)(F:Ym):(Y0 k F).m=k.m/\(Y0 k F).tc=k.tc/\(Y0 k F).mark=k.mark:=by unfold Y0;split<;>exact⟨rfl,rfl,rfl⟩
def wY.begin(h:wY m F L0 xs q L)(d:qu G 0=qu F 0)(c:qu G (Y0 (Jp m [] 0 0 0) F).dK=qu F (Y0 (Jp m [] 0 0 0) F).dK)(a:qu F 0≠[]->qJ m tc (qu F 0)):
  Wr (Jp m mark tc op mp) G=bO (Y0 (Jp m mark tc op mp) F,L0):=by
 unfold Wr Y0;rw[d];by_cases e:qu F 0=[];rw[aA e,aA e,h.st0.1 e];rw[aB e,aB e,aA (show qJ (Jp m mark tc op mp).m (Jp m mark tc op mp).tc (qu F 0)from a e)];have b:Y6 (iL<|qu F 0) G (Xz m (iL<|qu F 0).ep)=Y6 (iL<|qu F 0) F (Xz m (iL<|qu F 0).ep):=zyp fun f _=>by
  have:(Y0 (Jp m [] 0 0 0) F).dK=((iL<|qu F 0).file:Int):=by unfold Y0;rw[aB e];exact aA f
  rw[this]at c;exact c
 rw[show(Jp m mark tc op mp).m=m from rfl,b,h.st0.2 e];rfl
def wY.look(h:wY m F L0 xs q L)(c:qu G 0=qu F 0)(l:qu G (Y0 (Jp m [] 0 0 0) F).dK=qu F (Y0 (Jp m [] 0 0 0) F).dK)(b:qu F 0≠[]->qJ m tc (qu F 0)){N:Nat}(f:jT m F+N<=9999)(d:∀i,i<N->qu G ((jT m F+1+i:Nat):Int)≠[])(e:qu G ((jT m F+1+N:Nat):Int)=[]){k2:Lk}{L2:KV}
  (a:dJ (fun i=>qu G (i:Int)) (jT m F+1) {Y0 (Jp m mark tc op mp) F with last:=((jT m F+N:Nat):Int)} L0 N=bO (k2,L2))(j:sS k2):Yu (Jp m mark tc op mp) G=bO (k2,L2):=by
 have g:(Y0 (Jp m mark tc op mp) F).base=(jT m F:Int):=by
  rw[Us (Jp m mark tc op mp) F rfl];have:=AR m F;show(Y0 (Jp m [] 0 0 0) F).base=(((Y0 (Jp m [] 0 0 0) F).base.toNat:Nat):Int);omega
 have k:Jl G (jT m F)=jT m F+N:=Ni _ _ f d e;refine sL (h.begin c l b) g ?_ j;rw[k,Nat.add_sub_cancel_left];exact a
def vcv(l:Int):({Y0 (Jp m mark tc op mp) F with last:=l}:Lk)=({Y0 (Jp m mark tc op mp) F with last:=l}:Lk).set (Y0 (Jp m [] 0 0 0) F):=by
 unfold Y0;split<;>rfl
def wY.logs{ys:List Zl}{k':Lk}{L':KV}(h:jY (jT m F+1) (Y0 (Jp m [] 0 0 0) F) L0 ys k' L')(l:Int)(b:∀i (h:i<ys.length),qu G ((jT m F+1+i:Nat):Int)=ys[i]):
  dJ (fun i=>qu G (i:Int)) (jT m F+1) {Y0 (Jp m mark tc op mp) F with last:=l} L0 ys.length=bO (({Y0 (Jp m mark tc op mp) F with last:=l}:Lk).set k',L'):=by
 have a:=(h.set (k:={Y0 (Jp m mark tc op mp) F with last:=l})<|(vad _ _).1.trans (vad (Jp m mark tc op mp) F).1.symm).dJ (fs:=fun i=>qu G (i:Int)) b;rwa[<-vcv]at a
def vbl(hk:k.tc=(tc:Int)/\k.mark=mark)(c:(q.cnt=tc/\q.tag=mark)\/(q.cnt=tc+1/\q.ahead=mark)):sS<|k.set q:=by
 rcases c with⟨a,b⟩|⟨a,b⟩;exact .inl ⟨by show(q.cnt:Int)=k.tc;rw[hk.1,a],by show q.tag=k.mark;rw[hk.2,b]⟩;exact .inr ⟨by show(q.cnt:Int)=k.tc+1;rw[hk.1,a];rfl,by show q.ahead=k.mark;rw[hk.2,b]⟩
def wY.vco(h:wY m F L0 xs q L)(d:qu G 0=qu F 0)(j:qu G (Y0 (Jp m [] 0 0 0) F).dK=qu F (Y0 (Jp m [] 0 0 0) F).dK)(c:qu F 0≠[]->qJ m tc (qu F 0))
  (e:∀i,i<xs.length->qu G ((jT m F+1+i:Nat):Int)=qu F ((jT m F+1+i:Nat):Int))(f:qu G ((jT m F+1+xs.length:Nat):Int)=[])(g:(q.cnt=tc/\q.tag=mark)\/(q.cnt=tc+1/\q.ahead=mark)):
  Yu (Jp m mark tc op mp) G=bO ({Y0 (Jp m mark tc op mp) F with last:=((jT m F+xs.length:Nat):Int)}.set q,L):=by
 have a:∀i (h:i<xs.length),qu G ((jT m F+1+i:Nat):Int)=xs[i]:=fun i b=>(e i b).trans<|h.dY i b;exact h.look d j c h.low (fun i b=>by rw[a i b];exact h.log.ne _<|Zn b) f (wY.logs h.log _ a)<|vbl ⟨(vad _ _).2.1,(vad _ _).2.2⟩ g
def wY.vbx{x y:Zl}(h:wY m F L0 (xs++[x]) q L)(j:qu G 0=qu F 0)(r:qu G (Y0 (Jp m [] 0 0 0) F).dK=qu F (Y0 (Jp m [] 0 0 0) F).dK)(d:qu F 0≠[]->qJ m tc (qu F 0))
  (l:∀i,i<xs.length->qu G ((jT m F+1+i:Nat):Int)=qu F ((jT m F+1+i:Nat):Int))(hx:qu G ((jT m F+1+xs.length:Nat):Int)=x++y)(n:qu G ((jT m F+1+(xs.length+1):Nat):Int)=[])(hy:y≠[])(p:X7 y=bK)(o:q.cnt=tc/\q.tag=mark):
  Yu (Jp m mark tc op mp) G=bO ({{Y0 (Jp m mark tc op mp) F with last:=((jT m F+(xs.length+1):Nat):Int)}.set q with dD:=bL,whole:=(x.length:Int)},L):=by
 have b:∀i (h:i<xs.length),qu G ((jT m F+1+i:Nat):Int)=xs[i]:=fun i f=>by
  rw[l i f,h.dY i<|by simp;omega,XU f]
 have c:=h.low;have a:=h.log;generalize hys:xs++[x]=ys at a;cases a with
 |nil=>simp at hys
 |snoc hl hx'=>
  obtain⟨rfl,e⟩:=List.append_inj' hys rfl;cases e;refine h.look j r d (N:=xs.length+1) (by simpa using c) (fun i f=>?_) n ?_ ?_;by_cases g:i<xs.length;rw[b i g];exact h.log.ne _ (by simp);rw[show i=xs.length by omega,hx];simp[hy];rw[Rp<|wY.logs hl _ b,hx];exact vbi (hx'.set (k:={Y0 (Jp m mark tc op mp) F with last:=((jT m F+(xs.length+1):Nat):Int)})<|(hl.m.trans (vad _ _).1).trans (vad (Jp m mark tc op mp) F).1.symm) (by show((jT m F+(xs.length+1):Nat):Int)=_;omega) hy p;exact vbl (k:={Y0 (Jp m mark tc op mp) F with last:=((jT m F+(xs.length+1):Nat):Int),dD:=bL,whole:=(x.length:Int)}) ⟨(vad _ _).2.1,(vad _ _).2.2⟩<|.inl o
def wY.vce{z:Zl}{j:Nat}(h:wY m F L0 xs q L)(l:qu G 0=qu F 0)(t:qu G (Y0 (Jp m [] 0 0 0) F).dK=qu F (Y0 (Jp m [] 0 0 0) F).dK)(d:qu F 0≠[]->qJ m tc (qu F 0))
  (n:∀i,i<xs.length->qu G ((jT m F+1+i:Nat):Int)=qu F ((jT m F+1+i:Nat):Int))(hx:qu G ((jT m F+1+xs.length:Nat):Int)=(nE (jT m F+1+xs.length) (q.cnt+1)++z).take j)(o:qu G ((jT m F+1+(xs.length+1):Nat):Int)=[])(r:j<9+z.length)(g:0<j)(s:∀i,i<z.length->X7 (z.take i)=bK)(c:jT m F+(xs.length+1)<=9999)(p:q.cnt=tc/\q.tag=mark):
  Yu (Jp m mark tc op mp) G=bO ({{Y0 (Jp m mark tc op mp) F with last:=((jT m F+(xs.length+1):Nat):Int)}.set q with dD:=bL,whole:=0},L):=by
 have a:∀i (h:i<xs.length),qu G ((jT m F+1+i:Nat):Int)=xs[i]:=fun i f=>(n i f).trans<|h.dY i f;refine h.look l t d (N:=xs.length+1) c (fun i f=>?_) o ?_ ?_;by_cases b:i<xs.length;rw[a i b];exact h.log.ne _<|Zn b;rw[show i=xs.length by omega,hx];intro e;have:=congrArg List.length e;rw[xt,zj,zz6,jn]at this;omega;rw[Rp<|wY.logs h.log _ a,hx];exact vcj (k:={Y0 (Jp m mark tc op mp) F with last:=((jT m F+(xs.length+1):Nat):Int)}.set q) (by show((jT m F+(xs.length+1):Nat):Int)=((jT m F+1+xs.length:Nat):Int);omega) r g s;exact vbl (k:={Y0 (Jp m mark tc op mp) F with last:=((jT m F+(xs.length+1):Nat):Int),dD:=bL,whole:=0}) ⟨(vad _ _).2.1,(vad _ _).2.2⟩<|.inl p
end
def vaf:∀(ns:List Int) (d:Dk),d.nx=bN->OL d.L->∃F',jA k ns d=(bL,{d with L:=F'})/\OL F'/\∀n,qu F' n=if n∈ns/\pJ k n=bK then []else qu d.L n
 |[],d,_,hg=>⟨d.L,rfl,hg,fun n=>by simp⟩
 |n::ns,d,hx,hg=>by
  cases h:pJ k n with
  |true=>
   obtain⟨F',a,b,c⟩:=vaf ns d hx hg;refine⟨F',by unfold jA;rw[aA h];exact a,b,fun j=>?_⟩;rw[c j];by_cases e:j=n;subst e;simp[h];simp[e]
  |false=>
   obtain⟨F',a,b,c⟩:=vaf ns {d with L:=V6 d.L n} hx<|hg.del n;refine⟨F', ?_,b,fun j=>?_⟩;unfold jA;rw[aB<|by rw[h];simp,zY hx,aB<|by simp,Eg hx];exact a;rw[c j];simp only;rw[KW hg.gd];by_cases e:j=n;subst e;simp[h];simp[e]
def vag{d:Dk}(hx:d.nx=bN)(f:OL d.L)(g:∀n,pJ k n=bL->qu d.L n=qu F n)(h:∀n,qu F n≠[]->pJ k n=bL):∃F',qC k d=(bL,k,{d with L:=F'})/\OL F'/\∀n,qu F' n=qu F n:=by
 obtain⟨F',a,b,c⟩:=vaf (k:=k) (Xs d.L) d hx f;refine⟨F',by unfold qC;rw[a],b,fun n=>?_⟩;rw[c n];cases e:pJ k n with
 |true=>rw[aB<|by simp];exact g n e
 |false=>
  have i:qu F n=[]:=jr fun x=>by rw[h n x]at e;cases e
  rw[i];split;rfl
  rename_i hn
  exact jr fun x=>hn ⟨f.gd.nums.2 x,rfl⟩
def wY.same{m:Zl}{F G:Ym}{L0 L:KV}{q:Lk}(h:wY m F L0 xs q L)(e:∀n,qu G n=qu F n):wY m G L0 xs q L:=by
 have hk:Y0 (Jp m [] 0 0 0) G=Y0 (Jp m [] 0 0 0) F:=OK _<|e 0;have f:∀a b,Y6 a G b=Y6 a F b:=fun a b=>zyp fun _ _=>e _;refine⟨h.m32,by rw[e];exact h.X_,by rw[e];simp only[f];exact h.st0,by rw[hk];exact h.log,by rw[hk];exact fun i c=>(e _).trans<|h.dY i c,by rw[hk];exact(e _).trans h.stop,by rw[hk];exact h.low,by rw[hk];exact fun n d=>h.own n<|by rw[<-e];exact d⟩
def Sr.off(r:Sr):Sr:={r with d:={r.d with nx:=bN}}
def Arm(x:Option<|Nat×Int×Int):Prop:=∀c,x=bO c->0<=c.2.1/\c.2.1<=1000/\0<=c.2.2/\c.2.2<=1000
structure IL(r:Sr)(s:Jo):Prop where
 inv:Wy r.off s
 gs:OL r.d.L
 nx:Arm r.d.nx
def Arm.step{d:Dk}(h:Arm d.nx):(d.stops=bK/\Arm d.tick.nx/\(d.nx=bN->d.tick.nx=bN))\/(d.stops=bL/\d.nx≠bN/\∃t,0<=t/\d.lost={d with nx:=bN,L:=NU t d.L}/\∀c,d.nx=bO c->t=c.2.2):=by
 obtain⟨j,M,L,nx⟩:=d;cases nx with
 |none=>exact .inl ⟨rfl,(fun c f=>by cases f),fun _=>rfl⟩
 |some c=>
  obtain⟨b,a,t⟩:=c;obtain⟨k,l,g,m⟩:=h _ rfl;simp only at k l g m;by_cases i:a<=0;exact .inr ⟨by simp[Dk.stops,i],by simp,t,g,rfl,fun c f=>by cases f;rfl⟩;refine .inl ⟨by simp[Dk.stops,i],fun c f=>?_,fun e=>by cases e⟩;have f:bO (b,a-1,t)=bO c:=f;cases f;simp only;omega
structure vcn(r r0:Sr)(s0:Jo)(mp:Nat)(k:Lk)(L:KV):Prop where
 look:Yu (Jp r.m r.mark r.cnt ((r.op+1:Nat):Int) mp) r.d.L=bO (k,L)
 mend:(Xi k r.d).1=bL
 dD:k.dD=bL->0<=k.whole/\k.whole<=((qu r.d.L k.last).length:Nat)
 rC:0<=k.last/\k.last<=10000
 cnt:k.cnt=r0.cnt
 inv:∀S,r.op<999->IL (Wp r k S L) (V4 S (Xi k r.d).2.1 L)
 M:(Xi k r.d).2.2.M=r.d.M
 nx:(Xi k r.d).2.2.nx=bN
 same:iF L s0.L
 ep:(Xi k r.d).2.1.ep=s0.ep
def NL(r r0:Sr)(s0:Jo):Prop:=∀mp,∃k L,vcn r r0 s0 mp k L
structure vcd(r r0:Sr):Prop where
 m:r.m=r0.m
 lim:r.lim=r0.lim
 room:r.d.room=r0.d.room
 nx:r.d.nx=bN
section
variable {r r0:Sr} {s0:Jo} {L0 L Lq:KV} {xs:List<|List UInt8} {q k k':Lk} {F':Ym} {mp:Nat}
def vao(I:Wy r0 s0)(D:MP r0 s0 L0 xs q Lq)(h:vcd r r0)(hk:Yu (Jp r.m r.mark r.cnt ((r.op+1:Nat):Int) mp) r.d.L=bO (k,L))(b:Xi k r.d=(bL,k',{r.d with L:=F'}))(gs:OL F')(o:∀n,qu F' n=qu r0.d.L n)
  (x:k.dD=bL->0<=k.whole/\k.whole<=((qu r.d.L k.last).length:Nat))(y:0<=k.last/\k.last<=10000)(s:k.cnt=r0.cnt)(z:k.tag=r0.mark)(t:k'.base=s0.base)(v:k'.last=s0.last)(w:k'.named=s0.named)(l:k'.ep=s0.ep)(i:iF L s0.L):vcn r r0 s0 mp k L:=by
 have hd:(Xi k r.d).2.2={r.d with L:=F'}:=by rw[b]
 have g:(Xi k r.d).2.1=k':=by rw[b]
 refine⟨hk,by rw[b],x,y,s,fun S C=>⟨?_,by show OL (Xi k r.d).2.2.L;rw[hd];exact gs,by show Arm (Xi k r.d).2.2.nx;rw[hd];show Arm r.d.nx;rw[h.nx];exact fun c B=>by cases B⟩,by rw[hd],by rw[hd];exact h.nx,i,by rw[g];exact l⟩;rw[g];have e:(Wp r k S L).off.d.L=F':=by show(Xi k r.d).2.2.L=F';rw[hd]
 have j:(Wp r k S L).off.m=r0.m:=h.m;have f:(Wp r k S L).off.cnt=r0.cnt:=s;have p:(Wp r k S L).off.mark=r0.mark:=z;have a:Y0 (Jp r0.m [] 0 0 0) F'=Y0 (Jp r0.m [] 0 0 0) r0.d.L:=OK _<|o 0;refine⟨⟨L0,xs,q,Lq, ?_⟩,by rw[p];exact I.mark,by rw[e];exact gs.gd,by rw[e];exact gs.each,rfl, ?_, ?_, ?_, ?_,by rw[f];exact I.cnt,by simp[V4],by simp[V4],i.sK I.sK, ?_, ?_, ?_, ?_,by simp[V4]⟩;refine⟨by rw[j,e];exact D.ok.same o,by rw[f];exact D.cnt,by rw[p];exact D.tag, ?_,D.same.trans i.symm, ?_, ?_, ?_⟩;show q.ep=k'.ep;rw[l];exact D.ep;show k'.base=(Y0 (Jp (Wp r k S L).off.m [] 0 0 0) (Wp r k S L).off.d.L).base;rw[j,e,a,t];exact D.base;show k'.last=k'.base+xs.length;rw[v,t];exact D.last;show k'.named=(Y0 (Jp (Wp r k S L).off.m [] 0 0 0) (Wp r k S L).off.d.L).named;rw[j,e,a,w];exact D.named;show(Xi k r.d).2.2.room=100000;rw[hd];show r.d.room=_;rw[h.room];exact I.room;show r.lim=999;rw[h.lim];exact I.lim;rw[e,f,vam I.gd gs.gd o];exact I.fus;rw[f];show k'.last<=_;rw[v];exact I.rC;rw[f];show L.length<=_;rw[i.len];exact I.len;show k'.ep<=5;rw[l];exact I.ep;show r.op+1<=999;omega;show k'.named=0\/k'.named=10001\/k'.named=10002;rw[w];exact I.named
def vat(I:Wy r0 s0)(D:MP r0 s0 L0 xs q Lq):((jT r0.m r0.d.L:Nat):Int)=s0.base:=by
 have a:=D.base;have b:=I.base0;show(((Y0 (Jp r0.m [] 0 0 0) r0.d.L).base.toNat:Nat):Int)=_;rw[<-a];omega
def NS(I:Wy r0 s0)(D:MP r0 s0 L0 xs q Lq)(f:vcd r r0)(gs:OL r.d.L)(l:∀n,n=0\/n=(Y0 (Jp r0.m [] 0 0 0) r0.d.L).dK\/(s0.base<n/\n<=s0.last)->qu r.d.L n=qu r0.d.L n)(p:qu r.d.L (s0.last+1)=[])
  (h:qu r0.d.L 0≠[]->qJ r0.m r.cnt (qu r0.d.L 0))(C:(q.cnt=r.cnt/\q.tag=r.mark)\/(q.cnt=r.cnt+1/\q.ahead=r.mark)):NL r r0 s0:=fun mp=>by
 have z:=vat I D;have E:=D.last;have B:=I.base0;have t:=D.ok.low;have v:=I.rC;have s:=I.cnt;have g:=D.ok.vco (G:=r.d.L) (mark:=r.mark) (tc:=r.cnt) (op:=((r.op+1:Nat):Int)) (mp:=mp) (l 0<|.inl rfl) (l _<|.inr<|.inl rfl) h (fun i J=>l _<|.inr<|.inr<|by omega) (by rw[<-p];congr 1;omega) C;rw[<-f.m]at g;obtain⟨k,hk⟩:∃k,k=({Y0 (Jp r.m r.mark r.cnt ((r.op+1:Nat):Int) mp) r0.d.L with last:=((jT r.m r0.d.L+xs.length:Nat):Int)}:Lk).set q:=⟨_,rfl⟩;rw[<-hk]at g;rw[<-f.m]at z;have kb:k.base=s0.base:=by rw[hk,D.base,<-f.m];exact Us (Jp r.m r.mark r.cnt ((r.op+1:Nat):Int) mp) r0.d.L rfl
 have kl:k.last=s0.last:=by rw[hk];show((jT r.m r0.d.L+xs.length:Nat):Int)=_;omega
 have H:k.named=s0.named:=by rw[hk,D.named,<-f.m];show(Y0 _ _).named=_;unfold Y0;split<;>rfl
 have w:k.dK=(Y0 (Jp r0.m [] 0 0 0) r0.d.L).dK:=by rw[hk,<-f.m];show(Y0 _ _).dK=_;unfold Y0;split<;>rfl
 have x:k.dD=bK:=by rw[hk];show(Y0 _ _).dD=_;unfold Y0;split<;>rfl
 obtain⟨y,a,b,c⟩:=vag (k:=k) (F:=r0.d.L) f.nx gs (fun n j=>l n (by
   unfold pJ at j;rw[w,kb,kl]at j;simpa using j)) (fun n j=>by
   unfold pJ;rw[w,kb,kl];have:=D.ok.own n j;rw[<-D.base]at this;rw[D.last];simpa using this)
 have o:Xi k r.d=(bL,k,{r.d with L:=y}):=by
  unfold Xi;rw[x,aB<|by simp,aB<|by simp];exact a
 exact⟨k,Lq,vao I D f g o b c (fun e=>by rw[x]at e;cases e) (by rw[kl];omega) (by rw[hk];exact D.cnt) (by rw[hk];exact D.tag) kb kl H (by rw[hk];exact D.ep) D.same⟩
def vbr{y:Zl}(I:Wy r0 s0)(D:MP r0 s0 L0 xs q Lq)(f:vcd r r0)(gs:OL r.d.L)(t:xs≠[])(z:∀n,qu r.d.L n=if n=s0.last then qu r0.d.L s0.last++y else qu r0.d.L n)(hy:y≠[])(W:X7 y=bK)(N:r.cnt=r0.cnt)(E:r.mark=r0.mark):NL r r0 s0:=fun mp=>by
 have M:=vat I D;have B:=D.last;have V:=I.base0;have p:=D.ok.low;have Q:=I.rC;have O:=I.cnt;obtain⟨j,x,rfl⟩:∃j x,xs=j++[x]:=⟨xs.dropLast,xs.getLast t,(List.dropLast_concat_getLast t).symm⟩;simp only[zj,jd]at B p;have v:qu r0.d.L s0.last=x:=by
  have:=D.ok.dY j.length (by simp);rw[XT<|by omega]at this;simp only[V9,List.getElem_cons_zero]at this;rw[<-this]
  congr 1
  have U:(((Y0 (Jp r0.m [] 0 0 0) r0.d.L).base.toNat:Nat):Int)=s0.base:=M;omega
 have J:x≠[]:=D.ok.log.ne x (by simp);have ne:∀{n},n≠s0.last->qu r.d.L n=qu r0.d.L n:=fun h=>by rw[z,aB h]
 have H:(Y0 (Jp r0.m [] 0 0 0) r0.d.L).dK≠s0.last:=fun e=>D.ok.uO (n:=s0.last.toNat) (by omega) (by omega) (by rw[e];omega);have g:=D.ok.vbx (G:=r.d.L) (mark:=r.mark) (tc:=r.cnt) (op:=((r.op+1:Nat):Int)) (mp:=mp) (y:=y) (ne<|by omega) (ne H) (fun h=>by rw[N,<-D.cnt];exact D.ok.X_ h) (fun i hi=>ne<|by omega) (by
   rw[show((jT r0.m r0.d.L+1+j.length:Nat):Int)=s0.last by omega,z,aA rfl,v]) (by
   rw[ne<|by omega];have:=D.ok.stop;simpa using this) hy W ⟨by rw[N];exact D.cnt,by rw[E];exact D.tag⟩
 rw[<-f.m]at g;obtain⟨k,hk⟩:∃k:Lk,k={({Y0 (Jp r.m r.mark r.cnt ((r.op+1:Nat):Int) mp) r0.d.L with last:=((jT r.m r0.d.L+(j.length+1):Nat):Int)}:Lk).set q with dD:=bL,whole:=(x.length:Int)}:=⟨_,rfl⟩;rw[<-hk]at g;rw[<-f.m]at M;have kb:k.base=s0.base:=by rw[hk,D.base,<-f.m];exact Us (Jp r.m r.mark r.cnt ((r.op+1:Nat):Int) mp) r0.d.L rfl
 have kl:k.last=s0.last:=by rw[hk];show((jT r.m r0.d.L+(j.length+1):Nat):Int)=_;omega
 have Y:k.named=s0.named:=by rw[hk,D.named,<-f.m];show(Y0 _ _).named=_;unfold Y0;split<;>rfl
 have Z:k.dK=(Y0 (Jp r0.m [] 0 0 0) r0.d.L).dK:=by rw[hk,<-f.m];show(Y0 _ _).dK=_;unfold Y0;split<;>rfl
 have kt:k.dD=bL:=by rw[hk]
 have K:k.whole=(x.length:Int):=by rw[hk]
 have X:=qb.2 J;have o:qu r.d.L s0.last=x++y:=by rw[z,aA rfl,v]
 have s:=I.jD s0.last;rw[v]at s;have l:r.d.cut k.last k.whole.toNat={r.d with L:=Yx r.d.L s0.last (x,(x.length:Int))}:=by
  unfold Dk.cut;rw[JN f.nx,kl,K,o,Wt,Zd rfl]
 have w:OL<|Yx r.d.L s0.last (x,(x.length:Int)):=gs.lay (by unfold i64;omega) (by omega);have T:∀n,qu (Yx r.d.L s0.last (x,(x.length:Int))) n=qu r0.d.L n:=fun n=>by
  rw[uS gs.gd];split
  rename_i h;rw[h,v]
  rename_i h;exact ne h
 obtain⟨S,a,b,c⟩:=vag (k:=k) (d:={r.d with L:=Yx r.d.L s0.last (x,(x.length:Int))}) (F:=r0.d.L) f.nx w (fun n R=>T n) (fun n R=>by
   unfold pJ;rw[Z,kb,kl];have:=D.ok.own n R;rw[<-D.base]at this;rw[D.last];simpa using this)
 have C:Xi k r.d=(bL,k,{r.d with L:=S}):=by
  unfold Xi;rw[aA ⟨kt,by rw[K];omega⟩,zY f.nx,aB<|by simp,l];exact a
 exact⟨k,Lq,vao I D f g C b c (fun _=>by rw[K,kl,o,zj];omega) (by rw[kl];omega) (by rw[hk];exact D.cnt) (by rw[hk];exact D.tag) kb kl Y (by rw[hk];exact D.ep) D.same⟩
def vcb{z:Zl}{j:Nat}(I:Wy r0 s0)(D:MP r0 s0 L0 xs q Lq)(f:vcd r r0)(gs:OL r.d.L)(B:∀n,qu r.d.L n=if n=s0.last+1 then(nE (s0.last.toNat+1) (r0.cnt+1)++z).take j else qu r0.d.L n)(t:0<j)(R:j<9+z.length)(T:∀i,i<z.length->X7 (z.take i)=bK)(C:r.cnt=r0.cnt)(w:r.mark=r0.mark):NL r r0 s0:=fun mp=>by
 have O:=vat I D;have S:=D.last;have Q:=I.base0;have H:=D.ok.low;have J:=I.rC;have E:=I.cnt;have p:∀{n},n≠s0.last+1->qu r.d.L n=qu r0.d.L n:=fun h=>by rw[B,aB h]
 have y:(Y0 (Jp r0.m [] 0 0 0) r0.d.L).dK≠s0.last+1:=fun e=>D.ok.uO (n:=(s0.last+1).toNat) (by omega) (by omega) (by rw[e];omega);have own:∀n,qu r0.d.L n≠[]->n=0\/n=(Y0 (Jp r0.m [] 0 0 0) r0.d.L).dK\/(s0.base<n/\n<=s0.last):=fun n s=>by
  have:=D.ok.own n s;rw[<-D.base]at this;rw[D.last];exact this
 have g:∀n:Int,s0.last<n->n<=9999->qu r0.d.L n=[]:=fun n X Y=>jr fun x=>by
  rcases own n x with e|e|e;omega;exact D.ok.uO (n:=n.toNat) (by omega) (by omega) (by rw[<-e];omega);omega
 have l:=D.ok.vce (G:=r.d.L) (mark:=r.mark) (tc:=r.cnt) (op:=((r.op+1:Nat):Int)) (mp:=mp) (z:=z) (j:=j) (p<|by omega) (p y) (fun h=>by rw[C,<-D.cnt];exact D.ok.X_ h) (fun i Z=>p<|by omega) (by
   rw[show((jT r0.m r0.d.L+1+xs.length:Nat):Int)=s0.last+1 by omega,B,aA rfl,show jT r0.m r0.d.L+1+xs.length=s0.last.toNat+1 by omega,D.cnt]) (by
   rw[p<|by omega];exact g _ (by omega)<|by omega) R t T (by omega) ⟨by rw[C];exact D.cnt,by rw[w];exact D.tag⟩
 rw[<-f.m]at l;obtain⟨k,hk⟩:∃k:Lk,k={({Y0 (Jp r.m r.mark r.cnt ((r.op+1:Nat):Int) mp) r0.d.L with last:=((jT r.m r0.d.L+(xs.length+1):Nat):Int)}:Lk).set q with dD:=bL,whole:=0}:=⟨_,rfl⟩;rw[<-hk]at l;rw[<-f.m]at O;have kb:k.base=s0.base:=by rw[hk,D.base,<-f.m];exact Us (Jp r.m r.mark r.cnt ((r.op+1:Nat):Int) mp) r0.d.L rfl
 have kl:k.last=s0.last+1:=by rw[hk];show((jT r.m r0.d.L+(xs.length+1):Nat):Int)=_;omega
 have U:k.named=s0.named:=by rw[hk,D.named,<-f.m];show(Y0 _ _).named=_;unfold Y0;split<;>rfl
 have V:k.dK=(Y0 (Jp r0.m [] 0 0 0) r0.d.L).dK:=by rw[hk,<-f.m];show(Y0 _ _).dK=_;unfold Y0;split<;>rfl
 have W:k.dD=bL:=by rw[hk]
 have K:k.whole=0:=by rw[hk]
 have o:r.d.rem k.last={r.d with L:=V6 r.d.L<|s0.last+1}:=by rw[Eg f.nx,kl]
 have N:∀n,qu (V6 r.d.L<|s0.last+1) n=qu r0.d.L n:=fun n=>by
  rw[KW gs.gd];split
  rename_i h;rw[h];exact(g _ (by omega)<|by omega).symm
  rename_i h;exact p h
 obtain⟨M,a,b,c⟩:=vag (k:={k with last:=k.last-1}) (d:={r.d with L:=V6 r.d.L<|s0.last+1}) (F:=r0.d.L) f.nx (gs.del _) (fun n s=>N n) (fun n s=>by
   unfold pJ;show(decide (n=0)||(decide (n=k.dK)||(decide (k.base<n)&&decide (n<=k.last-1))))=bL;rw[V,kb,kl];have:=own n s;simp only[Yk,xl,X9];omega)
 have v:Xi k r.d=(bL,{k with last:=k.last-1},{r.d with L:=M}):=by
  unfold Xi;rw[aB<|by rw[K];simp,aA W,zY f.nx,aB<|by simp,o];exact a
 exact⟨k,Lq,vao I D f l v b c (fun _=>by rw[K];omega) (by rw[kl];omega) (by rw[hk];exact D.cnt) (by rw[hk];exact D.tag) kb (by show k.last-1=_;rw[kl];omega) U (by show k.ep=_;rw[hk];exact D.ep) D.same⟩
end
structure vaz(r r':Sr):Prop where
 keep:tF r r'
 lim:r'.lim=r.lim
 room:r'.d.room=r.d.room
 nx:r'.d.nx=bN
 gs:OL r'.d.L
 len:∀n,(qu r'.d.L n).length<=100000
 few:r'.d.L.length<=1000
def vaz.trans{r1 r2 r3:Sr}(k:tF r1 r2)(a:r2.lim=r1.lim)(b:r2.d.room=r1.d.room)(h:vaz r2 r3):vaz r1 r3:=⟨k.trans h.keep,h.lim.trans a,h.room.trans b,h.nx,h.gs,h.len,h.few⟩
def vcf{F F':Ym}(g:fM F)(g':fM F'){p q:Int}(h:∀n,qu F' n≠[]->qu F n≠[]\/n=p\/n=q):F'.length<=F.length+2:=by
 have a:(F'.map (·.1)).length<=(p::q::F.map (·.1)).length:=Ru g'.nd fun n b=>by
  rcases h n (g'.mem.1 b)with e|e|e;exact xj _<|xj _<|g.mem.2 e;simp[e];simp[e]
 simpa using a
section
variable {r:Sr} {s:Jo} {c:UInt8} {ep:Nat} {plain:List UInt8}
def vab:(r.wrote s [c] ep plain).off=r.off.wrote s [c] ep plain:=by
 obtain⟨g,e,D,⟨b,M,L,f⟩,m,d,a,h,i⟩:=r;cases f<;>rfl
def IL.tV(C:IL r s)(x:Option Jo):IL {r with sn:=x} s:=⟨C.inv.tV x,C.gs,C.nx⟩
def vcm(C:IL r s)(a:plain.length<=1020):OL (r.wrote s [c] ep plain).d.L:=by
 have e:(r.wrote s [c] ep plain).d.L=(r.off.wrote s [c] ep plain).d.L:=by rw[<-vab];rfl
 rw[e];refine⟨It C.inv,AN C.inv a,fun k=>?_⟩;rw[k7 C.inv,ER C.inv];simp only;by_cases hk:k=((r.off.place s).1:Int);rw[aA hk,hk,NW (C.inv.gd.lay _ _)<|by intro e;simp only at e;rw[e];rfl];simp only;rw[uS C.inv.gd,aA rfl];rw[aB hk,FK hk,FK hk];exact C.gs.fl k
def vbu(C:IL r s)(S:plain.length<=1020):
  (r.writes s [c] ep plain=(bO 0,r.wrote s [c] ep plain)/\Arm (r.wrote s [c] ep plain).d.nx)\/
  (∃(F':Ym) (j:Nat),(∀c,r.d.nx=bO c->(j:Int)<=c.2.2)/\r.writes s [c] ep plain=(bN,{r with d:={r.d with nx:=bN,L:=F'}})/\OL F'/\∀n,qu F' n=if n=((r.place s).1:Int)then qu r.d.L (r.place s).1++((r.place s).2++Y5 r.m r.mark [c] ep r.op r.cnt plain).take j else qu r.d.L n):=by
 have I:=C.inv;have l:=I.cnt;have K:=I.lim;have v:=I.fus;have N:=I.room;have U:=b_ r s;have O:=Un I;have w:=I.jD (r.place s).1;have y:=Ta (c:=c) (ep:=ep) I S;have e:¬(r.cnt:Int)=r.lim:=by
  have:r.lim=999:=K;have:r.cnt<=40:=l;omega
 have f:¬r.d.room-J6 r.d.L<((r.place s).2.length:Int)+10+plain.length+32:=by
  have:r.d.room=100000:=N;have v:J6 r.d.L<=16500+1071*(r.cnt:Int):=v;have:r.cnt<=40:=l;omega
 have R:i64 ((r.place s).1:Int):=by
  have:(r.place s).1<=r.cnt+1:=O.2.1;have:r.cnt<=40:=l;unfold i64;omega
 rcases C.nx.step with⟨a,z,_⟩|⟨a,_,t,p,B,_⟩;have Q:Arm (r.d.app (r.place s).1<|(r.place s).2++Y5 r.m r.mark [c] ep r.op r.cnt plain).nx:=z;rcases Q.step with⟨b,E,_⟩|⟨b,_,t,p,F,G⟩;refine .inl ⟨?_,E⟩;unfold Sr.writes;rw[aB e,aB f,a,aB<|by simp,b,aB<|by simp];refine .inr ?_;obtain⟨j,q,i,k⟩:=C.gs.dD p R (x:=(r.place s).2++Y5 r.m r.mark [c] ep r.op r.cnt plain) (by
  have w:(qu r.d.L (r.place s).1).length<=60000:=w;have y:((r.place s).2++Y5 r.m r.mark [c] ep r.op r.cnt plain).length<=1071:=y;omega)
 refine⟨_,j,fun g o=>?_, ?_,i,k⟩;have H:(r.d.app (r.place s).1<|(r.place s).2++Y5 r.m r.mark [c] ep r.op r.cnt plain).nx=bO (g.1,g.2.1-1,g.2.2):=by
  show r.d.tick.nx=_;unfold Dk.tick;rw[o]
 have J:=G _ H;rw[J]at q;exact q;unfold Sr.writes;rw[aB e,aB f,a,aB<|by simp,b,aA rfl,F];simp only[qg,true_and]
 congr 1
 show({r.d.tick with nx:=bN,L:=_}:Dk)=_;obtain⟨T,lim,D,⟨room,M,L,nx⟩,m,cnt,mark,op,V⟩:=r;cases nx<;>rfl
 refine .inr ?_;obtain⟨i,k⟩:=C.gs.lost p;refine⟨_,0,fun c o=>(C.nx c o).2.2.1, ?_,i,fun n=>?_⟩;unfold Sr.writes;rw[aB e,aB f,a,aA rfl,B];rw[k];split
 rename_i h;rw[h];simp
 rfl
def MP.stop{L0 L:KV}{q:Lk}(D:MP r s L0 xs q L)(I:Wy r s):qu r.d.L (s.last+1)=[]:=by
 have h:=D.ok.stop;rw[<-h]
 congr 1
 have a:(((Y0 (Jp r.m [] 0 0 0) r.d.L).base.toNat:Nat):Int)=s.base:=vat I D;have:=D.last;omega
def Reads(r:Sr)(s:Jo)(c:Z8)(ep:Nat)(plain:Zl)(s':Jo):Prop:=∀L0 xs q L,MP r s L0 xs q L->∃q' L',recs q L (Y5 r.m r.mark [c] ep r.op r.cnt plain)=bO (q',L',[])/\q'.cnt=r.cnt+1/\q'.tag=nH r.m r.mark [c] ep r.op r.cnt plain/\q'.ahead=r.mark/\q'.ep=s'.ep/\iF L' s'.L
def vbj{s':Jo}{r':Sr}{j:Nat}(I:Wy r s)(hp:plain.length<=1020)(H:r.cnt<=39)(X:Reads r s c ep plain s')
  (U:s'.base=s.base)(V:s'.last=((r.place s).1:Int))(W:s'.named=s.named)(Z:s'.P=[])(N:jM s'.L)(o:s'.L.length<=20*(r.cnt+1))(J:s'.ep<=5)(O:s'.bP=s.bP)
  (hk:vcd r' r)(g:r'.cnt=r.cnt)(y:r'.mark=r.mark)(gs:OL r'.d.L)(b:∀n,qu r'.d.L n=if n=((r.place s).1:Int)then qu r.d.L (r.place s).1++((r.place s).2++Y5 r.m r.mark [c] ep r.op r.cnt plain).take j else qu r.d.L n):
  NL r' r s\/NL r' {r.wrote s [c] ep plain with sn:=bO s'} s':=by
 obtain⟨z,Q,q,L,D⟩:=I.dsk;have ba:=I.base0;have M:=D.last;have f:plain.length<65536:=by omega
 have l:(∀n,qu r'.d.L n=qu r.d.L n)->NL r' r s:=fun e=>by
  refine NS I D hk gs (fun n _=>e n) ?_ (fun h=>by rw[g,<-D.cnt];exact D.ok.X_ h)<|.inl ⟨by rw[g];exact D.cnt,by rw[y];exact D.tag⟩;rw[e];exact D.stop I
 by_cases k:j<((r.place s).2++Y5 r.m r.mark [c] ep r.op r.cnt plain).length;left;by_cases K:j=0;subst K;refine l fun n=>?_;rw[b];split
 rename_i h;rw[h];simp
 rfl;by_cases t:s.base<s.last/\((qu r.d.L s.last).length:Int)<r.nW;have e:r.place s=(s.last.toNat,[]):=by unfold Sr.place;rw[aA t]
 have a:((r.place s).1:Int)=s.last:=by rw[e];simp only;omega
 have v:(r.place s).2=[]:=by rw[e]
 rw[v,jk]at k;have G:∀n,qu r'.d.L n=if n=s.last then qu r.d.L s.last++(Y5 r.m r.mark [c] ep r.op r.cnt plain).take j else qu r.d.L n:=fun n=>by
  rw[b n,v,jk];by_cases h:n=s.last;rw[aA h,aA<|h.trans a.symm,a];rw[aB h,aB fun x=>h<|x.trans a]
 refine vbr I D hk gs (fun e=>by subst e;simp at M;omega) G (fun e=>?_) (vay f k) g y;have:=congrArg List.length e;rw[xt,jn]at this;omega;have e:r.place s=(s.last.toNat+1,nE (s.last.toNat+1)<|r.cnt+1):=by unfold Sr.place;rw[aB t]
 rw[e]at b k;simp only at b k;have a:((s.last.toNat+1:Nat):Int)=s.last+1:=by omega
 have p:=D.stop I;rw[a,p]at b;simp only[jk]at b;rw[zj,zz6]at k;exact vcb I D hk gs b (by omega) k (fun i hi=>vay f hi) g y;right;rw[qj<|by omega]at b;obtain⟨q',L',B,w,C,T,E,F⟩:=X z Q q L D;obtain⟨bb,R⟩:=k_ (s':=s') I D B w C E F U V W;have S:Wy {r.wrote s [c] ep plain with sn:=bO s'} s':=Sz (q':=q') (L':=L') I hp H (fun z Q q L D=>by
  obtain⟨q',L',B,w,C,T,E,F⟩:=X z Q q L D;exact⟨q',L',B,w,C,E,F⟩) U V W Z N o J O
 have e:∀n,qu r'.d.L n=qu (r.wrote s [c] ep plain).d.L n:=fun n=>by rw[b,k7 I]
 have Y:qu (r.wrote s [c] ep plain).d.L 0=qu r.d.L 0:=by
  rw[k7 I,aB];have:=Un I;omega
 refine NS S R ⟨hk.m,hk.lim, ?_,hk.nx⟩ gs (fun n _=>e n) ?_ (fun h=>?_)<|.inr ⟨by rw[w,g],by rw[T,y]⟩;rw[hk.room];show _=(r.wrote s [c] ep plain).d.room;rw[ER I];rw[e];exact R.stop S;have h:qu (r.wrote s [c] ep plain).d.L 0≠[]:=h;show qJ r.m r'.cnt<|qu (r.wrote s [c] ep plain).d.L 0;rw[Y]at h⊢;rw[g,<-D.cnt];exact D.ok.X_ h
end
structure Comes(r:Sr)(s:Jo)(r0:Sr)(s0:Jo):Prop where
 ge:r.cnt<=r0.cnt
 le:r0.cnt<=r.cnt+2
 old:r0.cnt=r.cnt->iF s0.L s.L
 new:r0.cnt≠r.cnt->iF s0.L (cO s.L s.P)
structure van(r:Sr)(s:Jo)(r':Sr):Prop where
 fell:vaz r r'
 ge:r.cnt<=r'.cnt
 le:r'.cnt<=r.cnt+2
 mark:r'.mark.length=32
 mends:∃r0 s0,NL r' r0 s0/\Comes r s r0 s0
structure var(r:Sr)(s:Jo)(r':Sr)(s':Jo):Prop where
 sn:r'.sn=bO s'
 inv:IL r' s'
 L:s'.L=cO s.L s.P
 P:s'.P=[]
 ge:r.cnt<=r'.cnt
 le:r'.cnt<=r.cnt+2
 same:r'.cnt=r.cnt->s.P=[]
 keep:tF r r'
 lim:r'.lim=r.lim
 room:r'.d.room=r.d.room
section
variable {r r1:Sr} {s:Jo}
def vav(I:Wy r s)(d:s.P≠[]):Reads r s 82 s.ep (Xt s.P)<|r.ses1 s:=fun i j q L D=>by
 have b:r.ses1 s=({s with last:=(r.place s).1}:Jo).synced:=by unfold Sr.ses1;rw[aB d]
 have f:(Xt s.P).length<=1020:=by have:=IQ I.P;have:=I.P20;omega
 have e:1<=s.P.length:=qb.2 d;have g:=D.ok.qm;have h:=tR (k:=q) (L:=L) (op:=r.op) I.P e I.P20 (by rw[D.tag];exact I.mark);have a:=Sb (k:=q) (L:=L) (c:=82) (ep:=q.ep) (op:=r.op) (plain:=Xt s.P) (by omega) (by rw[D.ep];have:=I.ep;omega) (by rw[D.cnt];have:=I.cnt;omega) h;rw[g,D.tag,D.ep,D.cnt]at a;exact⟨_,_,a,rfl,rfl,rfl,by rw[b];rfl,by rw[b];exact iF.app s.P D.same⟩
def vbf(I:Wy r s)(i:s.ep≠5){s':Jo}(b:s'.ep=s.ep+1)(d:s'.L=s.L):Reads r s 75 (s.ep+1) [] s':=fun h j q L D=>by
 have f:=D.ok.qm;have e:=I.ep;have g:=tS (k:=q) (L:=L) (op:=r.op) (by rw[D.ep];omega) (by rw[D.tag];exact I.mark);have a:=Sb (k:=q) (L:=L) (c:=75) (ep:=q.ep+1) (op:=r.op) (plain:=[]) (by simp) (by rw[D.ep];omega) (by rw[D.cnt];have:=I.cnt;omega) g;rw[f,D.tag,D.ep,D.cnt]at a;exact⟨_,_,a,rfl,rfl,rfl,b.symm,by rw[d];exact D.same⟩
def IL.write(C:IL r s){c:Z8}{ep:Nat}{plain:Zl}{s':Jo}(o:plain.length<=1020)(f:r.cnt<=39)(E:Reads r.off s c ep plain s')
  (y:s'.base=s.base)(B:s'.last=((r.place s).1:Int))(b:s'.named=s.named)(w:s'.P=[])(l:jM s'.L)(a:s'.L.length<=20*(r.cnt+1))(g:s'.ep<=5)(t:s'.bP=s.bP):
  (r.writes s [c] ep plain=(bO 0,r.wrote s [c] ep plain)/\IL {r.wrote s [c] ep plain with sn:=bO s'} s'/\tF r {r.wrote s [c] ep plain with sn:=bO s'}/\(r.wrote s [c] ep plain).d.room=r.d.room)\/
  (∃r',r.writes s [c] ep plain=(bN,r')/\vaz r r'/\r'.cnt=r.cnt/\r'.mark=r.mark/\(NL r' r.off s\/NL r' {r.off.wrote s [c] ep plain with sn:=bO s'} s')/\(∀c,r.d.nx=bO c->c.2.2=0->NL r' r.off s)):=by
 rcases vbu (c:=c) (ep:=ep) (plain:=plain) C o with⟨h1,h2⟩|⟨F',j,h0,h1,h2,h3⟩;refine .inl ⟨h1,⟨?_,vcm C o,h2⟩,⟨rfl,rfl,rfl, ?_,rfl⟩, ?_⟩;show Wy {(r.wrote s [c] ep plain).off with sn:=bO s'} s';rw[vab];exact Sz (q':=Jp [] [] 0 0 0) (L':=[]) C.inv o f (fun v F q L D=>by
  obtain⟨q',L',G,H,I,S,J,K⟩:=E v F q L D;exact⟨q',L',G,H,I,J,K⟩) y B b w l a g t
 have:(r.wrote s [c] ep plain).off.d.M=r.off.d.M:=by rw[vab,ER C.inv]
 exact this;have:(r.wrote s [c] ep plain).off.d.room=r.off.d.room:=by rw[vab,ER C.inv]
 exact this;have k:∀n,(qu F' n).length<=100000:=fun n=>by
  have Q:(qu r.d.L n).length<=60000:=C.inv.jD n;have R:(qu r.d.L (r.place s).1).length<=60000:=C.inv.jD (r.place s).1;have T:((r.place s).2++Y5 r.m r.mark [c] ep r.op r.cnt plain).length<=1071:=(Ta (c:=c) (ep:=ep) C.inv o:);rw[h3 n];split;rw[zj,xt];omega;omega
 have i:F'.length<=1000:=by
  have Q:F'.length<=r.d.L.length+2:=vcf (p:=((r.place s).1:Int)) (q:=0) C.gs.gd h2.gd fun n b=>by
   rw[h3 n]at b;split at b
   rename_i e;exact .inr<|.inl e
   exact .inl b
  have R:r.d.L.length<=r.cnt+2:=C.inv.few;omega
 refine .inr ⟨_,h1,⟨⟨rfl,rfl,rfl,rfl,rfl⟩,rfl,rfl,rfl,h2,k,i⟩,rfl,rfl, ?_,fun c N z=>?_⟩;rotate_left;have O:j=0:=by have:=h0 c N;omega
 subst O;obtain⟨v,F,q,L,D⟩:=C.inv.dsk;have e:∀n,qu F' n=qu r.d.L n:=fun n=>by
  rw[h3 n];split
  rename_i x;rw[x];simp
  rfl
 exact NS (r:={r with d:={r.d with nx:=bN,L:=F'}}) C.inv D ⟨rfl,rfl,rfl,rfl⟩ h2 (fun n _=>e n) (by show qu F' _=_;rw[e];exact D.stop C.inv) (fun h=>by have:=D.ok.X_ h;rw[D.cnt]at this;exact this)<|.inl ⟨D.cnt,D.tag⟩;exact vbj (r:=r.off) (r':={r with d:={r.d with nx:=bN,L:=F'}}) (j:=j) C.inv o f E y B b w l a g t ⟨rfl,rfl,rfl,rfl⟩ rfl rfl h2 h3
def vcp(L:KV):cO L []=L:=rfl
def IL.vdq(C:IL r s):r.mark.length=32:=C.inv.mark
def IL.sync(C:IL r s)(m:r.sn=bO s)(j:r.cnt<=39):
  (∃r1,r.bW s=(bO 0,r1)/\var r s r1 (r.ses1 s)/\r1.cnt<=r.cnt+1/\(r.ses1 s).ep=s.ep/\(r.ses1 s).bP=s.bP)\/(∃r1,r.bW s=(bN,r1)/\van r s r1/\r1.cnt=r.cnt/\(∀c,r.d.nx=bO c->c.2.2=0->NL r1 r.off s)):=by
 have I:=C.inv;by_cases b:s.P=[];have a:r.ses1 s=s:=by unfold Sr.ses1;rw[aA b]
 refine .inl ⟨r,by unfold Sr.bW;rw[aA b], ?_,by omega,by rw[a],by rw[a]⟩;rw[a];exact⟨m,C,by rw[b];rfl,b,by omega,by omega,fun _=>b,tF.refl r,rfl,rfl⟩;have a:r.ses1 s=({s with last:=(r.place s).1}:Jo).synced:=by unfold Sr.ses1;rw[aB b]
 have l:(Xt s.P).length<=1020:=by have:=IQ I.P;have:=I.P20;omega
 have g:jM (r.ses1 s).L:=by rw[a];exact F_ s.P I.sK I.P
 have k:(r.ses1 s).L.length<=20*(r.cnt+1):=by
  rw[a];have h:=y_ s.P s.L;have i:s.L.length<=20*r.cnt:=I.len;have:=I.P20;show(cO s.L s.P).length<=_;omega
 rcases C.write (c:=82) (ep:=s.ep) (s':=r.ses1 s) l j (vav I b) (by rw[a];rfl) (by rw[a];rfl) (by rw[a];rfl) (by rw[a];rfl) g k (by rw[a];exact I.ep) (by rw[a];rfl)with⟨h,i,h3,h4⟩|⟨r',h,i,h3,h4,f,h6⟩;refine .inl ⟨{r.wrote s [82] s.ep (Xt s.P)with sn:=bO<|r.ses1 s}, ?_,⟨rfl,i,by rw[a];rfl,by rw[a];rfl, ?_, ?_, ?_,h3,rfl,h4⟩, ?_,by rw[a];rfl,by rw[a];rfl⟩;unfold Sr.bW;rw[aB b,h,aA rfl,a];show r.cnt<=r.cnt+1;omega;show r.cnt+1<=r.cnt+2;omega;intro e;have e:r.cnt+1=r.cnt:=e;omega;show r.cnt+1<=r.cnt+1;omega;refine .inr ⟨r', ?_,⟨i,by omega,by omega,by rw[h4];exact C.vdq, ?_⟩,h3,h6⟩;unfold Sr.bW;rw[aB b,h,aB<|by simp];rcases f with f|f;exact⟨_,_,f,by show r.cnt<=r.cnt;omega,by show r.cnt<=_;omega,fun _=>iF.rfl' I.nd,fun x=>absurd rfl x⟩;refine⟨_,_,f,by show r.cnt<=r.cnt+1;omega,by show r.cnt+1<=_;omega,fun x=>?_,fun _=>?_⟩;have x:r.cnt+1=r.cnt:=x;omega;rw[a];exact iF.rfl' (iF.app s.P<|iF.rfl' I.nd).1
def var.comes(d:var r s r1<|r.ses1 s){r0:Sr}{s0:Jo}(f:r1.cnt<=r0.cnt)(b:r0.cnt<=r.cnt+2)(a:iF s0.L (r.ses1 s).L):Comes r s r0 s0:=by
 have h:=d.ge;refine⟨by omega,b,fun e=>?_,fun _=>by rw[<-d.L];exact a⟩;have c:=d.same (by omega);rw[d.L,c,vcp]at a;exact a
def IL.rotate(C:IL r s)(q:r.sn=bO s)(o:r.cnt<=38):
  (∃v r' s',v≠12/\r.bV s=(bO v,r')/\var r s r' s'/\s'.bP=s.bP)\/(∃r',r.bV s=(bN,r')/\van r s r'):=by
 rcases C.sync q (by omega)with⟨a,i,d,n,j,k⟩|⟨a,i,f,_,_⟩;by_cases m:s.ep=5;refine .inl ⟨10,a,_,by decide, ?_,d,k⟩;unfold Sr.bV;rw[i,aA rfl,aA<|j.trans m];have l:=d.inv;have I1:=l.inv;have b:(r.ses1 s).ep≠5:=by rw[j];exact m
 have p:=I1.ep;rcases l.write (c:=75) (ep:=(r.ses1 s).ep+1) (plain:=[]) (s':={r.ses1 s with last:=(a.place<|r.ses1 s).1,ep:=(r.ses1 s).ep+1}) (by simp) (by omega) (vbf I1 b rfl rfl) rfl rfl rfl d.P I1.sK (by have h:(r.ses1 s).L.length<=20*a.cnt:=I1.len;show(r.ses1 s).L.length<=_;omega) (by show(r.ses1 s).ep+1<=5;omega) rfl with⟨a1,a2,a3,a4⟩|⟨r',a1,a2,a3,a4,g,_⟩
 refine .inl ⟨0,_,_,by decide, ?_,⟨rfl,a2,d.L,d.P, ?_, ?_, ?_,d.keep.trans a3,d.lim,a4.trans d.room⟩,k⟩;unfold Sr.bV;rw[i,aA rfl,aB b];simp only;rw[a1,aA rfl];have:=d.ge;show r.cnt<=a.cnt+1;omega;show a.cnt+1<=r.cnt+2;omega;intro e;have e:a.cnt+1=r.cnt:=e;have:=d.ge;omega;refine .inr ⟨r', ?_,⟨vaz.trans d.keep d.lim d.room a2,by have:=d.ge;omega,by omega,by rw[a4];exact l.vdq, ?_⟩⟩;unfold Sr.bV;rw[i,aA rfl,aB b];simp only;rw[a1,aB<|by simp];rcases g with g|g
 exact⟨_,_,g,d.comes (by show a.cnt<=a.cnt;omega) (by show a.cnt<=_;omega)<|iF.rfl' I1.nd⟩;exact⟨_,_,g,d.comes (by show a.cnt<=a.cnt+1;omega) (by show a.cnt+1<=_;omega)<|iF.rfl' I1.nd⟩;refine .inr ⟨a, ?_,f⟩;unfold Sr.bV;rw[i,aB<|by simp]
end
def Wy.same{r:Sr}{s:Jo}{G:Ym}(I:Wy r s)(g:OL G)(e:∀n,qu G n=qu r.d.L n):Wy {r with d:={r.d with L:=G}} s:=by
 obtain⟨a,b,q,L,D⟩:=I.dsk;have hk:Y0 (Jp r.m [] 0 0 0) G=Y0 (Jp r.m [] 0 0 0) r.d.L:=OK _<|e 0;exact⟨⟨a,b,q,L,⟨D.ok.same e,D.cnt,D.tag,D.ep,D.same,by show s.base=(Y0 (Jp r.m [] 0 0 0) G).base;rw[hk];exact D.base,D.last,by show s.named=(Y0 (Jp r.m [] 0 0 0) G).named;rw[hk];exact D.named⟩⟩,I.mark,g.gd,g.each,I.nx,I.room,I.lim,by show J6 G<=_;rw[vam I.gd g.gd e];exact I.fus,I.rC,I.cnt,I.P,I.P20,I.sK,I.len,I.ep,I.op,I.named,I.sh0⟩
def vak{m:Mf}:∀(ns:List Int) (d:Dk),Arm d.nx->OL d.L->∃F' x,OL F'/\Arm x/\((lK m ns d=(bL,{d with L:=F',nx:=x})/\(d.nx=bN->x=bN)/\∀n,qu F' n=if n∈ns/\n≠0/\n≠(m.file:Int)then []else qu d.L n)\/
  (lK m ns d=(bK,{d with L:=F',nx:=x})/\x=bN/\d.nx≠bN/\∀n,(n=0\/n=(m.file:Int)->qu F' n=qu d.L n)/\(qu F' n=[]\/qu F' n=qu d.L n)))
 |[],d,a,g=>⟨d.L,d.nx,g,a,.inl ⟨rfl,id,fun n=>by simp⟩⟩
 |n::ns,d,a,g=>by
  by_cases h:n=0\/n=(m.file:Int);obtain⟨F',x,q,l,s⟩:=vak (m:=m) ns d a g;refine⟨F',x,q,l, ?_⟩;unfold lK;rw[aA h];refine s.imp_left fun⟨b,f,i⟩=>⟨b,f,fun k=>?_⟩;rw[i k];by_cases e:k=n;subst e;rw[aB fun x=>h.elim x.2.1 x.2.2,aB fun x=>h.elim x.2.1 x.2.2];simp[e];rcases a.step with⟨o,p,j⟩|⟨o,p,t,I,j,_⟩
  obtain⟨F',x,q,l,s⟩:=vak (m:=m) ns (d.rem n) p<|g.del n;have w:∀G y,({d.rem n with L:=G,nx:=y}:Dk)={d with L:=G,nx:=y}:=fun G y=>by
   obtain⟨B,M,L,nx⟩:=d;cases nx<;>rfl
  refine⟨F',x,q,l, ?_⟩;unfold lK;rw[aB h,o,aB<|by simp];rcases s with⟨b,f,i⟩|⟨b,f,i,F⟩
  refine .inl ⟨b.trans<|by rw[w],fun e=>f<|j e,fun k=>?_⟩;rw[i k];show(if _ then _ else qu (V6 d.L n) k)=_;rw[KW g.gd];by_cases e:k=n;subst e;have D:(if k∈k::ns/\k≠0/\k≠(m.file:Int)then []else qu d.L k)=[]:=aA ⟨by simp,fun e=>h<|.inl e,fun e=>h<|.inr e⟩;rw[D,aA rfl];split<;>rfl
  simp[e];refine .inr ⟨b.trans<|by rw[w],f,fun e=>i<|j e,fun k=>?_⟩;have r:=F k;have C:qu (d.rem n).L k=if k=n then []else qu d.L k:=KW g.gd n k
  rw[C]at r;refine⟨fun hk=>?_, ?_⟩;rw[r.1 hk,aB fun e=>h<|by rw[<-e];exact hk];rcases r.2 with e|e
  exact .inl e;by_cases v:k=n;rw[aA v]at e;exact .inl e;rw[aB v]at e;exact .inr e;obtain⟨E,z⟩:=g.lost I;refine⟨_,bN,E,(fun c H=>by cases H),.inr ⟨?_,rfl,p,fun k=>⟨fun _=>z k,.inr<|z k⟩⟩⟩;unfold lK;rw[aB h,o,aA rfl,j]
def vct(m:Mf)(pt sl:Zl)(d:Dk)(y:Bool×Dk):Prop:=∃F' x,OL F'/\Arm x/\((y=(bL,{d with L:=F',nx:=x})/\(d.nx=bN->x=bN)/\∀n,qu F' n=if n=0 then sl else if n=(m.file:Int)then pt else [])\/
  (y=(bK,{d with L:=F',nx:=bN})/\d.nx≠bN/\(((∀n,n≠(m.file:Int)->qu F' n=qu d.L n)/\(qu F' m.file).length<=pt.length)\/(qu F' 0=sl/\qu F' m.file=pt/\∀n,n≠0->n≠(m.file:Int)->qu F' n=[]\/qu F' n=qu d.L n))))
def vap{m:Mf}{sl:Zl}{d:Dk}(a:Arm d.nx)(g:OL d.L)(s:sl.length<=1000000)(H:(m.file:Int)≠0):vct m (qu d.L m.file) sl d<|qB m sl d:=by
 rcases a.step with⟨k,l,j⟩|⟨k,l,t,J,j,_⟩;have i:OL (d.mG 0 sl).L:=g.lay (by unfold i64;omega) s;have h:∀n,qu (d.mG 0 sl).L n=if n=0 then sl else qu d.L n:=fun n=>uS g.gd 0 _ n
 obtain⟨B,x,D,C,I⟩:=vak (m:=m) (Xs (d.mG 0 sl).L) (d.mG 0 sl) l i;have w:∀G y,({d.mG 0 sl with L:=G,nx:=y}:Dk)={d with L:=G,nx:=y}:=fun G y=>by
  obtain⟨z,M,L,nx⟩:=d;cases nx<;>rfl
 refine⟨B,x,D,C, ?_⟩;unfold qB;rw[k,aB<|by simp];rcases I with⟨o,p,q⟩|⟨o,p,q,r⟩
 refine .inl ⟨o.trans<|by rw[w],fun e=>p<|j e,fun n=>?_⟩;rw[q n,h n];by_cases b:n=0;rw[aB fun x=>x.2.1 b,aA b,aA b];rw[aB b,aB b];by_cases f:n=(m.file:Int);rw[aB fun x=>x.2.2 f,aA f,f];rw[aB f];by_cases v:qu d.L n=[];rw[v];split<;>rfl
 rw[aA ⟨i.gd.nums.2<|by rw[h,aB b];exact v,b,f⟩];subst p;refine .inr ⟨o.trans<|by rw[w],fun e=>q<|j e,.inr ⟨?_, ?_,fun n b f=>?_⟩⟩;rw[(r 0).1<|.inl rfl,h,aA rfl];rw[(r m.file).1<|.inr rfl,h,aB H];have:=(r n).2;rw[h,aB b]at this;exact this;obtain⟨E,i⟩:=g.lost J;refine⟨_,bN,E,(fun c F=>by cases F),.inr ⟨?_,l,.inl ⟨fun n _=>i n,by rw[i];exact ze _⟩⟩⟩;unfold qB;rw[k,aA rfl,j]
def vba{r:Sr}{m:Mf}{pt sl:Zl}(a:Arm r.d.nx)(g:OL r.d.L)(v:sl.length<=1000000)(s:pt.length<=1000000)(hf:m.file=10001\/m.file=10002)(i:qu r.d.L m.file=[]):vct m pt sl r.d<|r.lays m pt sl:=by
 have p:(m.file:Int)≠0:=by omega
 have U:i64 (m.file:Int):=by unfold i64;omega
 unfold Sr.lays;by_cases V:pt=[];rw[aA V,V,<-i];exact vap a g v p;rw[aB V];rcases a.step with⟨F,H,o⟩|⟨F,H,t,W,o,_⟩
 have A2:Arm (r.d.app m.file pt).nx:=H;rw[F,aB<|by simp];rcases A2.step with⟨I,J,B⟩|⟨I,J,t,W,B,_⟩
 rw[I,aB<|by simp];have C:=g.gd.lay m.file (qu r.d.L m.file++pt,(Vu r.d.L m.file).2);have Z:qu (r.d.app m.file pt).L m.file=pt:=by
  show qu (Yx r.d.L m.file _) m.file=_;rw[uS g.gd,aA rfl,i];rfl
 have f:OL ((r.d.app m.file pt).mR m.file).L:=by
  have q:=g.fl m.file;rw[i]at q;have e:((r.d.app m.file pt).mR m.file).L=Yx (Yx r.d.L m.file (qu r.d.L m.file++pt,(Vu r.d.L m.file).2)) m.file (pt,(pt.length:Int)):=by
   show Yx (r.d.app m.file pt).L m.file (qu (r.d.app m.file pt).L m.file,((qu (r.d.app m.file pt).L m.file).length:Int))=_;rw[Z];rfl
  rw[e];refine⟨C.lay _ _,(g.each.lay U ?_).lay U ⟨by simp,by simp,s⟩,fun k=>?_⟩;rw[q,i];simp only[jk,jn];omega;rw[uS C];by_cases b:k=(m.file:Int);rw[aA b,b,NW C<|by intro e;simp only at e;rw[e];rfl];rw[aB b,FK b,FK b,uS g.gd,aB b];exact g.fl k
 have N:∀n,qu ((r.d.app m.file pt).mR m.file).L n=if n=(m.file:Int)then pt else qu r.d.L n:=fun n=>by
  show qu (Yx (Yx r.d.L m.file _) m.file _) n=_;rw[uS C];by_cases b:n=(m.file:Int);rw[aA b,aA b];exact Z;rw[aB b,aB b,uS g.gd,aB b]
 have er:∀G y,({(r.d.app m.file pt).mR m.file with L:=G,nx:=y}:Dk)={r.d with L:=G,nx:=y}:=fun G y=>by
  obtain⟨Y,X,D,⟨z,M,L,nx⟩,mm,K,w,op,sn⟩:=r;cases nx<;>rfl
 obtain⟨F',x,g',a',hh⟩:=vap (m:=m) (sl:=sl) (d:=(r.d.app m.file pt).mR m.file) J f v p;rw[N m.file,aA rfl]at hh;have nn:((r.d.app m.file pt).mR m.file).nx≠bN->r.d.nx≠bN:=fun h e=>h<|B<|o e;refine⟨F',x,g',a', ?_⟩;rcases hh with⟨Q,R,l⟩|⟨Q,R,l⟩
 exact .inl ⟨Q.trans<|by rw[er],fun e=>R<|B<|o e,l⟩;refine .inr ⟨Q.trans<|by rw[er],nn R, ?_⟩;rcases l with⟨l,S⟩|⟨l,h4,h5⟩
 exact .inl ⟨fun n E=>by rw[l n E,N,aB E],S⟩;refine .inr ⟨l,h4,fun n n1 n2=>?_⟩;have:=h5 n n1 n2;rw[N,aB n2]at this;exact this;obtain⟨j,_,O,f⟩:=g.dD W U (x:=pt) (by rw[i];simpa using s);refine⟨_,bN,O,(fun c T=>by cases T),.inr ⟨?_,fun e=>J<|o e,.inl ⟨fun n E=>by rw[f,aB E],by rw[f,aA rfl,i,jk,xt];omega⟩⟩⟩;rw[I,aA rfl,B];simp only[qg,true_and];obtain⟨Y,X,D,⟨z,M,L,nx⟩,mm,K,w,op,sn⟩:=r;cases nx<;>rfl
 obtain⟨O,f⟩:=g.lost W;refine⟨_,bN,O,(fun c T=>by cases T),.inr ⟨?_,H,.inl ⟨fun n _=>f n,by rw[f,i];simp⟩⟩⟩;rw[F,aA rfl,o]
section
variable {r r1:Sr} {s:Jo}
def vbk{L0 L:KV}{q:Lk}(D:MP r s L0 xs q L):(Y0 (Jp r.m [] 0 0 0) r.d.L).dK≠(Ye s.named:Int):=by
 have b:=zut s.named;intro e;rcases P9 r.m r.d.L with c|⟨f,c,g,h,i⟩
 omega;have a:=D.named;have:(Y0 (Jp r.m [] 0 0 0) r.d.L).named=((iL<|qu r.d.L 0).file:Int):=by unfold Y0;rw[aB g];rfl
 rw[this,<-h,<-c,e]at a;unfold Ye at a b;split at a<;>omega
def IL.jR(C:IL r s)(hs:r.sn=bO s)(Z:s.P=[])(c3:s.bP<999):
  (∃v r' s',v≠12/\r.jR s=(bO v,r')/\r'.sn=bO s'/\IL r' s'/\s'.L=s.L/\s'.P=[]/\r'.cnt=r.cnt/\tF r r'/\r'.lim=r.lim/\r'.d.room=r.d.room/\s'.bP<=s.bP+1)\/
  (∃r',r.jR s=(bN,r')/\vaz r r'/\r'.cnt=r.cnt/\r'.mark=r.mark/\∃r0 s0,NL r' r0 s0/\r0.cnt=r.cnt/\s0.L=s.L):=by
 have I:=C.inv;have bg:=I.sh0;have T:¬s.bP=999:=by omega
 by_cases U:16384<(Vf s.L).length\/r.d.room-J6 r.d.L<(r.roomFor (Vf s.L).length:Int);refine .inl ⟨9,r,s,by decide, ?_,hs,C,rfl,Z,rfl,tF.refl r,rfl,rfl,by omega⟩;unfold Sr.jR;rw[aB T,aA U];have bd:(Vf s.L).length<=16384:=by omega
 obtain⟨L0,xs,q,L,D⟩:=I.dsk;have Q:=zut s.named;obtain⟨r0,s0,a1,a2,S,a4,a5,a6,a7,a8,a9,W,bi⟩:=I.jR hs Z c3 bd;obtain⟨mf,i⟩:∃mf,mf=r.mf s:=⟨_,rfl⟩;obtain⟨pt,z⟩:∃pt,pt=(r.parts s).flatten:=⟨_,rfl⟩;obtain⟨sl,B⟩:∃sl,sl=mf.bS (Jm r.m s.ep):=⟨_,rfl⟩;have w:mf.file=Ye s.named:=by rw[i];rfl
 have bf:pt.length=(Vf s.L).length:=by rw[z];exact Lq _ _ _
 have bh:sl.length=116:=by
  rw[B];refine YR _ _ ?_ (by rw[i];exact I.mark);rw[i];exact Sd _<|by unfold Sr.parts;rw[zZ];have:=(DU<|Vf s.L).2.1;omega
 have g:qu r.d.L mf.file=[]:=by rw[w];exact W
 obtain⟨t,x0,g0,_,bb⟩:=vba (r:={r.off with sn:=bO {s with bP:=s.bP+1}}) (m:=mf) (pt:=pt) (sl:=sl) (fun c hc=>by cases hc) C.gs (by omega) (by omega) (by rw[w];exact Q) g;obtain⟨b1,b2,X⟩:=bb.resolve_right fun h=>h.2.1 rfl;have be:x0=bN:=b2 rfl;subst be;have bc:r.off.jR s=(bO 0,{r.off with d:={r.off.d with L:=t,nx:=bN},sn:=bO {s with bP:=s.bP+1,base:=s.last,named:=(Ye s.named:Int)}}):=by
  unfold Sr.jR;rw[aB T,aB (show¬(16384<(Vf s.L).length\/r.off.d.room-J6 r.off.d.L<(r.off.roomFor (Vf s.L).length:Int))from U)];have e:(({r.off with sn:=bO {s with bP:=s.bP+1}}:Sr).lays (r.off.mf s) (r.off.parts s).flatten<|(r.off.mf s).bS<|Jm r.off.m s.ep)=(bL,{r.off.d with L:=t,nx:=bN}):=by
   have:r.off.mf s=mf:=i.symm;rw[this];have:(r.off.parts s).flatten=pt:=z.symm;rw[this];have:mf.bS (Jm r.off.m s.ep)=sl:=B.symm;rw[this];exact b1
  rw[e,aA rfl]
 have R:=a1.symm.trans bc;simp only[qg,true_and]at R;subst R;obtain rfl:s0={s with bP:=s.bP+1,base:=s.last,named:=(Ye s.named:Int)}:=(jf a2).symm;obtain⟨l,x,F,ar,hh⟩:=vba (r:={r with sn:=bO {s with bP:=s.bP+1}}) (m:=mf) (pt:=pt) (sl:=sl) C.nx C.gs (by omega) (by omega) (by rw[w];exact Q) g;have j:∀y,(({r with sn:=bO {s with bP:=s.bP+1}}:Sr).lays mf pt sl)=y->(({r with sn:=bO {s with bP:=s.bP+1}}:Sr).lays (r.mf s) (r.parts s).flatten<|(r.mf s).bS<|Jm r.m s.ep)=y:=fun y h=>by rw[<-i,<-z,<-B];exact h
 rcases hh with⟨V,_,a⟩|⟨V,_,a⟩;have e:=j _ V;refine .inl ⟨0,{r with d:={r.d with L:=l,nx:=x},sn:=bO {s with bP:=s.bP+1,base:=s.last,named:=(Ye s.named:Int)}},_,by decide, ?_,rfl,⟨?_,F,ar⟩,rfl,Z,rfl,⟨rfl,rfl,rfl,rfl,rfl⟩,rfl,rfl,Int.le_refl _⟩;unfold Sr.jR;rw[aB T,aB U,e,aA rfl];exact S.same (G:=l) F fun n=>by rw[a n];exact(X n).symm
 have e:=j _ V;have M:∀n,(qu l n).length<=100000:=fun n=>by
  have k1:(qu r.d.L n).length<=60000:=I.jD n;have k0:(0:Int)≠mf.file:=by rw[w];omega
  by_cases k:n=(mf.file:Int);subst k;rcases a with⟨_,a⟩|⟨_,a,_⟩
  omega;rw[a];omega;rcases a with⟨a,_⟩|⟨a,_,H⟩
  exact xz (Nat.le_of_eq<|congrArg List.length<|a n k) (xz k1<|by omega);by_cases o:n=0;rw[o,a];omega;rcases H n o k with e|e
  rw[e];simp;exact xz (Nat.le_of_eq<|congrArg List.length e)<|xz k1<|by omega
 have K:l.length<=1000:=by
  have k1:l.length<=r.d.L.length+2:=vcf (p:=(mf.file:Int)) (q:=0) C.gs.gd F.gd fun n b=>by
   by_cases k:n=(mf.file:Int);exact .inr<|.inl k;rcases a with⟨a,_⟩|⟨a,_,H⟩
   rw[a n k]at b;exact .inl b;by_cases o:n=0;exact .inr<|.inr o;rcases H n o k with e|e
   exact absurd e b;rw[e]at b;exact .inl b
  have k2:r.d.L.length<=r.cnt+2:=I.few;have k3:r.cnt<=40:=I.cnt;omega
 refine .inr ⟨{r with d:={r.d with L:=l,nx:=bN},sn:=bO {s with bP:=s.bP+1}}, ?_,⟨⟨rfl,rfl,rfl,rfl,rfl⟩,rfl,rfl,rfl,F,M,K⟩,rfl,rfl, ?_⟩;unfold Sr.jR;rw[aB T,aB U,e,aB<|by simp];rcases a with⟨a,_⟩|⟨a,h4,H⟩
 have a:∀n,n≠(Ye s.named:Int)->qu l n=qu r.d.L n:=fun n b=>a n (by rw[w];exact b);have ba:=I.base0;have N:s.last<=(r.cnt:Int):=I.rC;have J:r.cnt<=40:=I.cnt;refine⟨r.off,s,NS I D ⟨rfl,rfl,rfl,rfl⟩ F (fun n b=>a n ?_) ?_ (fun h=>?_)<|.inl ⟨D.cnt,D.tag⟩,rfl,rfl⟩;rcases b with b|b|b
 omega;rw[b];exact vbk D;omega;show qu l (s.last+1)=[];rw[a _<|by omega];exact D.stop I;have:=D.ok.X_ h;rw[D.cnt]at this;exact this;obtain⟨K0,ys,q0,Lq,E⟩:=S.dsk;have ba:=S.base0;have N:s.last<=(r.cnt:Int):=I.rC;have J:r.cnt<=40:=I.cnt;refine⟨_,_,NS S E ⟨rfl,rfl,rfl,rfl⟩ F (fun n b=>?_) ?_ (fun h=>?_)<|.inl ⟨E.cnt,E.tag⟩,rfl,rfl⟩;show qu l n=qu t n;by_cases o:n=0;rw[o,a,X,aA rfl];by_cases k:n=(mf.file:Int);rw[k,h4,X,aB<|by rw[<-k];exact o,aA rfl];exfalso;rcases b with b|b|b
 exact o b;rcases P9 r.off.m t with Y|⟨f,Y,f0,hf,hl⟩
 exact o<|b.trans Y;have O:=E.named;have:(Y0 (Jp r.off.m [] 0 0 0) t).named=((iL<|qu t 0).file:Int):=by unfold Y0;rw[aB f0];rfl
 have O:(Ye s.named:Int)=((iL<|qu t 0).file:Int):=O.trans this;refine k<|b.trans<|Y.trans ?_;rw[w,hf];omega;have V:s.last<n/\n<=s.last:=b;omega;show qu l (s.last+1)=[];have bj:0<=s.last:=by have:=I.base0;omega
 rcases H (s.last+1) (by omega) (by rw[w];omega)with e|e;exact e;rw[e];exact D.stop I;have:=E.ok.X_ h;rw[E.cnt]at this;exact this
def IL.GH(C:IL r s)(x:r.sn=bO s)(l:r.cnt<=39)(c3:s.bP<999):
  (∃v r' s',v≠12/\r.dG s=(bO v,r')/\var r s r' s'/\s'.bP<=s.bP+1)\/(∃r',r.dG s=(bN,r')/\van r s r'):=by
 rcases C.sync x l with⟨o,b,d,t,w,m⟩|⟨o,b,f,_,_⟩;rcases d.inv.jR d.sn d.P (by omega)with⟨v,r',s',y,c,h,n,i,j,a,k,p,q,g⟩|⟨r',c,h,n,i,z,B,j,a,k⟩;refine .inl ⟨v,r',s',y, ?_,⟨h,n,i.trans d.L,j,by rw[a];exact d.ge,by rw[a];exact d.le,fun e=>d.same<|a.symm.trans e,d.keep.trans k,p.trans d.lim,q.trans d.room⟩,by rw[<-m];exact g⟩;unfold Sr.dG;rw[b,aA rfl];exact c;refine .inr ⟨r', ?_,⟨vaz.trans d.keep d.lim d.room h,by have:=d.ge;omega,by have:=d.le;omega,by rw[i];exact d.inv.vdq,z,B,j,d.comes (by omega) (by have:=d.le;omega) ?_⟩⟩;unfold Sr.dG;rw[b,aA rfl];exact c;rw[k];exact iF.rfl' d.inv.inv.nd;refine .inr ⟨o, ?_,f⟩;unfold Sr.dG;rw[b,aB<|by simp]
end
section
variable {r:Sr} {s:Jo}
def vbs{ns:List Int}{d:Dk}(hx:d.nx=bN)(g:OL d.L)(j:∀n∈ns,qu d.L n≠[])(h:jA k ns d=(bL,d)):∀n∈ns,pJ k n=bL:=fun n a=>by
 obtain⟨b,c,_,f⟩:=vaf (k:=k) ns d hx g;rw[c]at h;simp only[qg,true_and]at h;have i:b=d.L:=congrArg Dk.L h;cases e:pJ k n with
 |true=>rfl
 |false=>
  have:=f n;rw[aA ⟨a,e⟩,i]at this;exact absurd this<|j n a
def IL.reopen(C:IL r s)(mp:Nat):∃k L,Yu (Jp r.m r.mark r.cnt ((r.op+1:Nat):Int) mp) r.d.L=bO (k,L)/\Xi k r.d=(bL,k,r.d)/\k.dD=bK/\(0<=k.last/\k.last<=9999)/\k.cnt=r.cnt/\iF L s.L/\∀S,r.op<999->IL (Wp r k S L) (V4 S k L):=by
 obtain⟨k,L,R⟩:=C.inv.reopen mp;have b:Xi k r.d=(bL,k,r.d):=by
  have a:=R.mend;unfold Xi at a⊢;rw[R.dD,aB<|by simp,aB<|by simp]at a⊢;unfold qC at a⊢;simp only[qg,true_and]at a;have c:jA k (Xs r.off.d.L) r.off.d=(bL,r.off.d):=Prod.ext a.1 a.2;have f:=vbs (d:=r.off.d) rfl C.gs (fun n g=>C.gs.gd.nums.1 g) c;rw[Rt f]
 refine⟨k,L,R.look,b,R.dD,R.rC,R.cnt,R.same,fun S i=>⟨?_, ?_, ?_⟩⟩;have h:=R.inv S i;have e:(Wp r k S L).off=Wp r.off k S L:=by
  unfold Wp Sr.off;simp only;rw[b,show Xi k {r.d with nx:=bN}=(bL,k,{r.d with nx:=bN})from R.mend]
 rw[e];exact h;show OL (Xi k r.d).2.2.L;rw[b];exact C.gs;show Arm (Xi k r.d).2.2.nx;rw[b];exact C.nx
def IL.arm(C:IL r s){b:Nat}{a t:Nat}(f:a<=1000)(g:t<=1000):IL {r with d:={r.d with nx:=bO (b,(a:Int),(t:Int))}} s:=
 ⟨C.inv,C.gs,fun c e=>by cases e;simp only;omega⟩
end
section
variable {r r1 r':Sr} {s:Jo} {B x:Nat}
def vbh{kind plain:Zl}{ep:Nat}(h:r.writes s kind ep plain=(bO 0,r1)):r1.D=r.D/\∀D x,r1.d.own D x->r.d.own D x:=by
 unfold Sr.writes at h;split at h;cases h;split at h;cases h;split at h;cases h;split at h;cases h;cases h;refine⟨rfl,fun D x c=>?_⟩;have b:(r.d.app (r.place s).1<|(r.place s).2++Y5 r.m r.mark kind ep r.op r.cnt plain).tick.own D x:=c;have a:(r.d.app (r.place s).1<|(r.place s).2++Y5 r.m r.mark kind ep r.op r.cnt plain).own D x:=(Dk.dS _ D x).1 b;have a:r.d.tick.own D x:=a;exact(Dk.dS _ D x).1 a
def vca(f:r.sn=bO s)(h:r.bW s=(bO 0,r1))(hx:r1.own B x):r.own B x:=by
 unfold Sr.bW at h;split at h;cases h;exact hx;split at h
 rename_i hw
 cases h;obtain⟨b,d⟩:=vbh (r1:=(r.writes s [82] s.ep<|Xt s.P).2)<|Prod.ext hw rfl;rcases hx with e|e|⟨t,g,e⟩
 exact .inl e;refine .inr<|.inl<|d _ _ ?_;rw[<-b];exact e;cases g;refine .inr<|.inr ⟨s,f, ?_⟩;rcases e with e|e|⟨a,n,c,i,e⟩
 exact .inl e;exact .inr<|.inl e;cases i
 rename_i hw
 rw[h]at hw;exact absurd rfl hw
def IL.awaits{ok:Bool}{c:dM}{e:Int}(C:IL r s)(d:r.sn=bO s)(h:r.awaits ok c e r')(b:ok=bL->mF c):∃s',r'.sn=bO s'/\IL r' s'/\e≠12/\s'.L=s.L/\s'.bP=s.bP/\r'.cnt=r.cnt/\r'.op=r.op/\(e=0->s'.now=app1 s.now c)/\(e≠0->s'=s):=by
 unfold Sr.awaits at h;rw[d]at h;simp only at h;split at h;obtain⟨rfl,rfl⟩:=h;exact⟨s,d,C,by decide,rfl,rfl,rfl,rfl,fun x=>absurd x<|by decide,fun _=>rfl⟩
 rename_i h1
 split at h;obtain⟨rfl,rfl⟩:=h;exact⟨s,d,C,by decide,rfl,rfl,rfl,rfl,fun x=>absurd x<|by decide,fun _=>rfl⟩
 rename_i h2
 obtain⟨rfl,f,rfl⟩:=h;have I:=C.inv;have g:=I.P20;have i:=b (by simpa using h1);refine⟨s.more f c,rfl,⟨?_,C.gs,C.nx⟩,by decide,rfl,rfl,rfl,rfl,fun _=>?_,fun x=>absurd rfl x⟩
 ·refine I.swap (s':=s.more f c) rfl rfl rfl rfl rfl rfl (fun y a=>?_) ?_
  rcases Je.1 a with a|a;exact I.P y a;rw[jp.1 a];exact i;show(s.P++[c]).length<=20;rw[zj,jd];omega
 unfold Jo.now Jo.more cO;rw[IJ];rfl
def vbm{b:Nat}(h:r.d.nx=bO (b,1,t))(c:s.P≠[]):(r.bW s).1≠bO 0:=by
 have a:(r.writes s [82] s.ep<|Xt s.P).1≠bO 0:=by
  unfold Sr.writes;split;simp;split;simp;split;simp;have e:(r.d.app (r.place s).1<|(r.place s).2++Y5 r.m r.mark [82] s.ep r.op r.cnt (Xt s.P)).nx=bO (b,0,t):=by
   show r.d.tick.nx=_;unfold Dk.tick;rw[h];rfl
  rw[aA<|by unfold Dk.stops;rw[e];rfl];simp
 unfold Sr.bW;rw[aB c,aB a];exact a
def Sr.wrt(r:Sr)(s:Jo)(kd:Int):Option Int×Sr:=if kd=5 then r.bW s else if kd=6 then r.bV s else r.dG s
def IL.wrt{kd:Int}(C:IL r s)(g:r.sn=bO s)(m:r.cnt<=38)(h:s.bP<999):
  (∃v r' s',v≠12/\r.wrt s kd=(bO v,r')/\var r s r' s'/\s'.bP<=s.bP+1/\(kd=5->r'.cnt<=r.cnt+1))\/(∃r',r.wrt s kd=(bN,r')/\van r s r'/\(kd=5->r'.cnt<=r.cnt+1)):=by
 unfold Sr.wrt;by_cases c:kd=5;rw[aA c];rcases C.sync g (by omega)with⟨b,a,d,k,_,e⟩|⟨b,a,f,k,_⟩
 exact .inl ⟨0,b,_,by decide,a,d,by omega,fun _=>k⟩;exact .inr ⟨b,a,f,fun _=>by omega⟩;rw[aB c];by_cases l:kd=6;rw[aA l];rcases C.rotate g m with⟨v,b,j,i,a,d,e⟩|⟨b,a,f⟩
 exact .inl ⟨v,b,j,i,a,d,by omega,fun x=>absurd x c⟩;exact .inr ⟨b,a,f,fun x=>absurd x c⟩;rw[aB l];rcases C.GH g (by omega) h with⟨v,b,j,i,a,d,e⟩|⟨b,a,f⟩
 exact .inl ⟨v,b,j,i,a,d,e,fun x=>absurd x c⟩;exact .inr ⟨b,a,f,fun x=>absurd x c⟩
end
end
end P
namespace P
open A.Tryq Go.RowKit
attribute [local go_sem] xe zv
def I8(B:Nat)(r:Sr)(A:Option Int×Sr)(w:Zy)(e:Ending)(w':Zy):Prop:=(∃v r',A=(bO v,r')/\e= .returned (zi v)/\jt B r w r' w')\/(∃r',A=(bN,r')/\e= .returned (zi 12)/\jt B r w r'.shut w')
def I8.val{B:Nat}{r:Sr}{A:Option Int×Sr}{w w':Zy}{e:Ending}(h:I8 B r A w e w'):∃v,e= .returned (zi v):=by
 rcases h with⟨v,_,_,h,_⟩|⟨_,_,h,_⟩;exact⟨v,h⟩;exact⟨12,h⟩
section
variable {cv tv:Value} {lo:Nat}
def vbe(B:Nat)(r:Sr)(s:Jo)(w:Zy)(h:Jq w B r)(g:r.sn=bO s)(a:fV B r)(j:iA cv tv w)(i:Two2 lo cv tv w)(d:∀x,r.own B x->lo<=x)(k:∀c∈s.P,mF c):
  bE prog 11 #[zo B] w (I8 B r (r.bW s) w):=by
 have t:w.cell? (zq B 7)=bO (zo s.S):=(h.blk.cell 7 rfl).trans (by simp[Sr.cells,Sr.iJ,g]);have l:=zl<|vah 35 B r _ w h j i d a.own (fun b w=>func35.2 b w) fun q o n=>O_ B r s q o g a n k;have p:∀(fn:Fn) (first cap:Za) (w:Zy),(Instr.makeFunc fn first cap).run prog w= .ok (.func fn first cap) w:=fun _ _ _ _=>rfl;clear h a j k g i d;go_enter func11.1,Tryz.ntmps11
 go_wp2_with fail
 refine l.o.mono ?_;intro e w1 f;obtain⟨v,rfl⟩:=I8.val f;have m:Hid<|I8 B r (r.bW s) w (.returned<|zi v) w1:=f;clear f
 go_wp2_with fail
 go_ret
 exact m.o
def vbq(B:Nat)(r:Sr)(s:Jo)(w:Zy)(h:Jq w B r)(j:r.sn=bO s)(b:fV B r)(a:∀r1,r.bW s=(bO 0,r1)->fV B r1)(l:iA cv tv w)(k:Two2 lo cv tv w)(f:∀x,r.own B x->lo<=x)(m:∀c∈s.P,mF c)(i:s.ep<=1000000):
  bE prog 40 #[zo B] w (I8 B r (r.bV s) w):=by
 have z:w.cell? (zq B 7)=bO (zo s.S):=(h.blk.cell 7 rfl).trans (by simp[Sr.cells,Sr.iJ,j]);have n:=zl<|vah 69 B r _ w h l k f b.own (fun d w=>func69.2 d w) fun y q p=>LS B r s y q j b a p m i;have t:∀(fn:Fn) (first cap:Za) (w:Zy),(Instr.makeFunc fn first cap).run prog w= .ok (.func fn first cap) w:=fun _ _ _ _=>rfl;clear h b a l m j k f;go_enter func40.1,Tryz.ntmps40
 go_wp2_with fail
 refine n.o.mono ?_;intro e w1 g;obtain⟨v,rfl⟩:=I8.val g;have o:Hid<|I8 B r (r.bV s) w (.returned<|zi v) w1:=g;clear g
 go_wp2_with fail
 go_ret
 exact o.o
def vau(B:Nat)(r:Sr)(s:Jo)(w:Zy)(h:Jq w B r)(k:r.sn=bO s)(b:fV B r)(a:∀r1,r.bW s=(bO 0,r1)->fV B r1/\r1.d.L.length+2<1000000/\jM (r.ses1 s).L/\(r.ses1 s).L.length<=1000000/\0<=(r.ses1 s).bP/\(r.ses1 s).bP<=999/\(qu r1.d.L<|Ye (r.ses1 s).named).length<=900000)(m:iA cv tv w)(l:Two2 lo cv tv w)(g:∀x,r.own B x->lo<=x)(n:∀c∈s.P,mF c)(j:s.ep<=1000000):
  bE prog 41 #[zo B] w (I8 B r (r.dG s) w):=by
 have C:w.cell? (zq B 7)=bO (zo s.S):=(h.blk.cell 7 rfl).trans (by simp[Sr.cells,Sr.iJ,k]);have o:=zl<|vah 70 B r _ w h m l g b.own (fun f w=>func70.2 f w) fun z t q=>Kp B r s z t k b a q n j;have y:∀(fn:Fn) (first cap:Za) (w:Zy),(Instr.makeFunc fn first cap).run prog w= .ok (.func fn first cap) w:=fun _ _ _ _=>rfl;clear h b a m n k l g;go_enter func41.1,Tryz.ntmps41
 go_wp2_with fail
 refine o.o.mono ?_;intro e w1 i;obtain⟨v,rfl⟩:=I8.val i;have p:Hid<|I8 B r (r.dG s) w (.returned<|zi v) w1:=i;clear i
 go_wp2_with fail
 go_ret
 exact p.o
end
def vbn(B:Nat)(r:Sr)(s:Jo)(kd:Int)(w:Zy)(g:bE prog 11 #[zo B] w<|I8 B r (r.bW s) w)(h:bE prog 40 #[zo B] w<|I8 B r (r.bV s) w)(i:bE prog 41 #[zo B] w<|I8 B r (r.dG s) w):
  bE prog 19 #[zo B,zi kd] w (I8 B r (r.wrt s kd) w):=by
 have j:=zl g;have k:=zl h;have l:=zl i;clear g h i;by_cases d:kd=5
 ·subst d
  have b:Hid<|r.wrt s 5=r.bW s:=rfl;go_enter vdt,Tryz.ntmps19
  go_wp2_with fail
  refine j.o.mono ?_;intro e w1 a;obtain⟨v,rfl⟩:=I8.val a;have c:Hid<|I8 B r (r.wrt s 5) w (.returned<|zi v) w1:=by rw[b.o];exact a
  clear a
  go_wp2_with fail
  go_ret
  exact c.o
 by_cases f:kd=6
 ·subst f
  have b:Hid<|r.wrt s 6=r.bV s:=rfl;go_enter vdt,Tryz.ntmps19
  go_wp2_with fail
  refine k.o.mono ?_;intro e w1 a;obtain⟨v,rfl⟩:=I8.val a;have c:Hid<|I8 B r (r.wrt s 6) w (.returned<|zi v) w1:=by rw[b.o];exact a
  clear a
  go_wp2_with fail
  go_ret
  exact c.o
 have b:Hid<|r.wrt s kd=r.dG s:=by show _=_;unfold Sr.wrt;rw[aB d,aB f]
 go_enter vdt,Tryz.ntmps19
 go_wp2_with fail
 refine l.o.mono ?_;intro e w1 a;obtain⟨v,rfl⟩:=I8.val a;have c:Hid<|I8 B r (r.wrt s kd) w (.returned<|zi v) w1:=by rw[b.o];exact a
 clear a
 go_wp2_with fail
 go_ret
 exact c.o
def Sr.arm(r:Sr)(b:Nat)(a t:Int):Sr:={r with d:={r.d with nx:=bO (b,a,t)}}
def vas(D:Nat)(d:Dk)(a t:Int)(w:Zy)(h:Xg w D d):bE prog 42 #[zo D,zi a,zi t] w fun e w'=>e= .returned (.tuple #[])/\∃b,w.heap.size<=b/\xb (·=D) w w'/\Xg w' D {d with nx:=bO (b,a,t)}:=by
 have l:=zl h;have m:=h.blk.cell 2 rfl;have n:=h.blk.bT 2;have o:=h.blk.lt;have p:¬D=w.heap.size:=by omega
 have i:Hid (xb (·=D) w ((w.setCell (zq D 2)<|zo w.heap.size).alloc<|.cells #[zi a,zi t] 129)/\Xg ((w.setCell (zq D 2)<|zo w.heap.size).alloc<|.cells #[zi a,zi t] 129) D {d with nx:=bO (w.heap.size,a,t)}):=by
  have g:xb (·=D) w<|w.setCell (zq D 2)<|zo w.heap.size:=xb.set _ (zq D 2) _;have f:=xx.new (w.setCell (zq D 2)<|zo w.heap.size) #[zi a,zi t] 129;have k:(w.setCell (zq D 2)<|zo w.heap.size).heap.size=w.heap.size:=by simp
  rw[k]at f;refine⟨g.trans<|xb.alloc _,(h.blk.set 2 _).but (S:=fun _=>False) (xb.alloc _) id,(h.map.but g h.vW).but (S:=fun _=>False) (xb.alloc _) id,fun c j=>?_⟩;cases j;exact f
 clear h;go_enter func42.1,Tryz.ntmps42
 go_wp2_with fail
 go_end0
 exact⟨rfl,w.heap.size,ze _,i.o⟩
def vbd(B:Nat)(r:Sr)(a t:Nat)(w:Zy)(h:Jq w B r):bE prog 21 #[zo B,zi a,zi t] w fun e w'=>e= .returned (zi 0)/\∃b,jt B r w (r.arm b a t) w':=by
 have v:w.cell? (zq B 2)=bO (zo r.D):=h.blk.cell 2 rfl;have q:=zl fun n=>vas r.D r.d (a:Int) (t:Int) (w.drewN n) ⟨h.disk.blk,h.disk.map,h.disk.eU⟩;have j:=zl<|vas r.D r.d (a:Int) (t:Int) w h.disk;have y:¬(a:Int)<0:=by omega
 have z:¬(t:Int)<0:=by omega
 have o:Hid (∀w' b,w.heap.size<=b->xb (·=r.D) w w'->Xg w' r.D {r.d with nx:=bO (b,(a:Int),(t:Int))}->jt B r w (r.arm b a t) w'):=fun w' b i f hd=>by
  refine⟨f.mono fun x g=> .inr (.inl<|.inl g),⟨?_,hd,fun s k=>?_⟩,fun x g=>?_⟩;exact h.blk.but f fun e=>h.fB<|.inl e;exact⟨(h.bU s k).1.but f fun x g l=>h.apart k g<|.inl l,(h.bU s k).2⟩;rcases g with e|(e|e|⟨c,p,e⟩)|e
  exact .inl<|.inl e;exact .inl<|.inr<|.inl<|.inl e;exact .inl<|.inr<|.inl<|.inr<|.inl e;cases p;exact .inr (by rw[e];exact i);exact .inl<|.inr<|.inr e
 clear h;go_enter veg,Tryz.ntmps21
 go_wp2_with fail
 refine j.o.mono ?_;rintro e w' ⟨rfl,b,i,f,hd⟩;have m:=zl<|o.o w' b i f hd;clear i f hd
 go_wp2_with fail
 go_ret
 exact⟨rfl,b,m.o⟩
end P
namespace P
open A.Tryq Go.RowKit A
variable [pn:A.Pn]
attribute [local go_sem] xe zv
section
variable {n:Nat} {B:Nat}
noncomputable def pD:=Qa<|Qf Tryz.f9.body
noncomputable def pH:=Qa<|Qb<|Qf Tryz.f9.body
noncomputable def pL:=Qa<|Qb<|Qb<|Qf Tryz.f9.body
noncomputable def pN:=Qa<|Qn 3<|Qf Tryz.f9.body
noncomputable def pP:=Qa<|Qn 5<|Qf Tryz.f9.body
noncomputable def pS:=Qa<|Qn 6<|Qf Tryz.f9.body
noncomputable def pT:=Qa<|Qn 7<|Qf Tryz.f9.body
noncomputable def y9:=Qn 9<|Qf Tryz.f9.body
noncomputable def lR:=Qa<|Qn 4<|Qf Tryz.f9.body
noncomputable def mA:=Qa<|Qn 8<|Qf Tryz.f9.body
def xtm:Tryz.f9.body=bO (.seq pD<|.seq pH<|.seq pL<|.seq pN<|.seq lR<|.seq pP<|.seq pS<|.seq pT<|.seq mA y9):=by kernel_rfl
def kQ:¬Mc bM 9:=xO (by decide) (by decide) Tryz.func9
def Ic:Jo:=⟨0,0,[],.slice bN 0 0,[],0,0,0,0,0⟩
def Wy.new{nW:Int}{m:Zl}{D M:Nat}(e:m.length=32):Wy (Sr.new 100000 nW 999 m D M) Ic:=by
 have hk:Y0 (Jp m [] 0 0 0) []=Jp m [] 0 0 0:=by unfold Y0;rw[aA (show qu [] 0=[]from rfl)]
 refine⟨⟨[],[],Jp m [] 0 0 0,[],⟨⟨e,fun h=>absurd rfl h,⟨fun _=>rfl,fun h=>absurd rfl h⟩, ?_,fun i d=>absurd d<|Wd _,rfl, ?_,fun n f=>absurd rfl f⟩,rfl,rfl,rfl,iF.rfl' List.nodup_nil, ?_,rfl, ?_⟩⟩,Pg,fM.nil,(fun p a=>(Vy a).elim),rfl,rfl,rfl, ?_, ?_, ?_,(fun c b=>(Vy b).elim), ?_,(fun p a=>(Vy a).elim),Vj _,Vj _,Vj _,.inl rfl,Int.le_refl _⟩;show jY _ (Y0 (Jp m [] 0 0 0) []) [] [] _ _;rw[hk];exact jY.nil _ _ _;show(Y0 (Jp m [] 0 0 0) []).base.toNat+_<=_;rw[hk];show(0:Nat)+0<=_;omega;show(0:Int)=(Y0 (Jp m [] 0 0 0) []).base;rw[hk];rfl;show(0:Int)=(Y0 (Jp m [] 0 0 0) []).named;rw[hk];rfl;show J6 []<=16500+1071*((0:Nat):Int);simp[J6];show(0:Int)<=((0:Nat):Int);omega;show(0:Nat)<=40;omega;show([]:List dM).length<=20;simp
structure U0(cv tv:Zv)(lo B:Nat)(r:Sr)(s:Jo)(w:Zy):Prop where
 st:Jq w B r
 sn:r.sn=bO s
 inv:Wy r s
 L:s.L=[]
 P:s.P=[]
 cnt:r.cnt=0
 op:r.op=2
 ep:s.ep=0
 bP:s.bP=0
 own:∀x,r.own B x->lo<=x
 dl:r.d.L=[]
def MG(cv tv:Zv)(w:Zy)(e:Ending)(w':Zy):Prop:=∃B r s,e= .returned (zo B)/\U0 cv tv w.heap.size B r s w'/\Nw w w'
def Jq.nw{w w':Zy}{r:Sr}(h:Jq w B r)(n:Nw w w'):Jq w' B r:=h.but n fun _ _=>id
def m6{cv tv:Zv}{w w':Zy}{e:Ending}{t:Nat->Question->Nat}{d:Nat}:MG cv tv w e (re w' t d)↔MG cv tv w e w':=by
 have n1:Nw w'<|re w' t d:=Nw.gL (xb.refl _ _) t d;have f:Nw (re w' t d) w':=⟨rfl,rfl,ze _,fun _ _ _=>rfl⟩;constructor;rintro⟨B,r,s,b,a,c⟩;exact⟨B,r,s,b,⟨a.st.nw f,a.sn,a.inv,a.L,a.P,a.cnt,a.op,a.ep,a.bP,a.own,a.dl⟩,c.trans f⟩;rintro⟨B,r,s,b,a,c⟩;exact⟨B,r,s,b,⟨a.st.nw n1,a.sn,a.inv,a.L,a.P,a.cnt,a.op,a.ep,a.bP,a.own,a.dl⟩,c.trans n1⟩
def jt.zP{r r':Sr}{w0 w w':Zy}(n:Nw w0 w)(t:jt B r w r' w')(ho:∀x,r.own B x->w0.heap.size<=x):Nw w0 w':=
 ⟨t.but.os.trans n.os,t.but.output.trans n.output,xz n.size t.but.size,fun i a _=>(t.but.block i (zn a n.size) fun h=>by have:=ho i h;omega).trans<|n.block i a id⟩
def cQ{L:KV}(h:iF L []):L=[]:=xa<|h.len.trans rfl
def Ny{cv tv:Zv}{r:Sr}{s:Jo}{w:Zy}(h:Jq w B r)(b:r.sn=bN)(I:Wy r s)(hop:r.op<999)(g:iA cv tv w)(a:∀x,r.own B x->4<x):
  CC bM 13 #[zo B] w fun e w'=>e= .returned (zi 0)/\∃mp kk L SS,FJ r s mp kk L/\jt B r w (Wp r kk SS L) w':=by
 refine(G_ (cv:=cv) (tv:=tv) h b hop (fV.of (s:=s) I (.inr b) a) g (fun i=>by have:=I.jD i;omega) fun mp=>?_).mono fun e w' ⟨j,mp,kk,L,SS,d,f⟩=>?_;obtain⟨kk,L,R⟩:=I.reopen mp;have n:=R.rC;exact⟨kk,L,R.look,by rw[R.mend],(fun k=>absurd (R.dD.symm.trans k)<|by simp),by omega,by omega⟩;obtain⟨l,m,R⟩:=I.reopen mp;have c:=d.symm.trans R.look;cases c;exact⟨j,mp,kk,L,SS,R,f⟩
def ZZ{r:Sr}{s:Jo}{mp SS:Nat}{kk:Lk}{L:KV}(R:FJ r s mp kk L):(Wp r kk SS L).sn=bO (V4 SS kk L):=by
 show bO (V4 SS (Xi kk r.d).2.1 L)=_;rw[R.mend]
def Ln{cv tv:Zv}(ms:Zl)(sg:Int)(b2:-9223372036854775808<=sg/\sg<=9223372036854775807){w:Zy}(hG:iA cv tv w):
  CC bM 9 #[zs ms,zi sg,zi 999] w (MG cv tv w):=by
 have hQ:kT<|nJ bM funcs Tryz.f9<|MG cv tv w:=AO fun e w' t d=>m6;refine CC.fA bQ kQ (bZ rfl Tryz.func9 rfl).1 Tryz.func9 xtm ?_;rw[show Tryz.f9.ntmps=89 from rfl];generalize hPX:nJ bM funcs Tryz.f9 (MG cv tv w)=PX at hQ;have J:=zl hQ;have b6:=zl hPX;have HG:=zl hG;have cz:=hG.pos;clear hQ hPX hG;simp only[jg,zh,jn,Nat.reduceAdd,Nat.reduceSub,qw,qx,Z7,Zi,jk,jc];refine gG kQ J.o fun w1 cu bq S bv=>?_;have N1:=zl<|ji bq;clear bv
 conv=>arg 2;whnf
 go_wp2_with fail
 refine S.o _ _ ?_;clear S;refine gG kQ J.o fun w2 c0 cl bt cn=>?_;have N2:Hid<|Nw w w2:=N1.o.trans<|ji cl;clear cn
 conv=>arg 2;whnf
 go_wp2_with fail
 refine(VZ sg 400 (by omega) (by omega) b2.1 b2.2 _).mono ?_;rintro e c3 ⟨⟨p,hp,rfl⟩,rfl⟩;have co:IntKind.i64.wrap (1+(p:Int))=1+(p:Int):=by rw[xn];omega
 go_wp2_with fail
 refine(Dr ms 32 (by omega) 32 rfl _).mono ?_;rintro e w3 ⟨rfl,b0⟩;have N3:Hid<|Nw w w3:=N2.o.trans<|xb.of_below b0;have bj:=xoo ms 32;clear b0;generalize wM ms 32=m at*
 go_wp2_with fail
 refine(xpw _ _ 999 m (by omega) (by omega) (by omega) (by omega) (by omega) (by omega) bj _).mono ?_;rintro e w4 ⟨B,D,M,rfl,hB,hD,hM,b1,bc⟩;have N4:Hid<|Nw w w4:=N3.o.trans<|xb.of_below b1;have S4:=zl bc;have I4:Hid<|Wy (Sr.new 100000 (1+(p:Int)) 999 m D M) Ic:=Wy.new bj;have O4:Hid<|∀x,(Sr.new 100000 (1+(p:Int)) 999 m D M).own B x->w.heap.size<=x:=fun x o=>by
  have h3:=N3.o.size;rcases o with e|(e|e|⟨c,W,_⟩)|⟨t,G,_⟩
  omega;have e:x=D:=e;omega;have e:x=M:=e;omega;cases W;cases G
 have C:(Sr.new 100000 (1+(p:Int)) 999 m D M).cnt=0:=rfl;have ba:(Sr.new 100000 (1+(p:Int)) 999 m D M).op=0:=rfl;have X:(Sr.new 100000 (1+(p:Int)) 999 m D M).d.L=[]:=rfl;have bb:(Sr.new 100000 (1+(p:Int)) 999 m D M).sn=bN:=rfl;clear b1 bc hB hD hM co hp bj;generalize Sr.new 100000 (1+(p:Int)) 999 m D M=r0 at*;have bm:=zl C;have be:=zl ba;have b7:=zl bb;have b8:Hid<|r0.d.L=[]:=X;clear C ba bb X
 go_wp2_with fail
 refine bt.o _ _ ?_;clear bt;refine gG kQ J.o fun w5 cw br T bw=>?_;have N5:=zl<|ji br;clear bw
 conv=>arg 2;whnf
 go_wp2_with fail
 refine T.o _ _ ?_;clear T;refine gG kQ J.o fun w6 cx bs U bx=>?_;have N6:Hid<|Nw w4 w6:=N5.o.trans<|ji bs;clear bx
 conv=>arg 2;whnf
 go_wp2_with fail
 refine(Tm B r0 _<|S4.o.nw N6.o).mono ?_;rintro e b4 ⟨rfl,rfl⟩;rw[show((r0.cnt:Nat):Int)=0 by rw[bm.o];rfl]
 go_wp2_with fail
 refine U.o _ _ ?_;clear U;have G6:=HG.o.but (N4.o.trans N6.o) fun _ x=>x.elim;have bd:∀x,r0.own B x->4<x:=fun x o=>by have:=O4.o x o;omega
 have g:=Ny (S4.o.nw N6.o) b7.o I4.o (by rw[be.o];omega) G6 bd;refine Xn.seq bQ kQ trivial ?_
 conv=>arg 3;whnf
 refine Xn.dB bQ kQ ?_;refine Jc.value (val:=zo B) (w':=b4) bQ kQ rfl (fun t d=>⟨t,d,by show(bG _ _).run prog _=_;simp[bG,go_sem]⟩) ?_;refine Jc.call bQ kQ rfl rfl (fun v=>by show(bG _ _).run prog _=_;simp[bG,go_sem,resolve,Act.put]) (bZ rfl Tryz.func13 rfl) g ?_ ?_;rotate_left;rintro ch wx ⟨Y,_⟩;cases Y;rintro v w7 ⟨Y,mp,kk,L,SS,R,b3⟩;cases Y;refine mZ (val:=zi 0) kQ ⟨rfl,rfl⟩ ?_;refine Jc.nil bQ kQ ?_;refine(show Xn _ 9 _ PX _ w7 from ?_);simp only[Act.put,xv,Zz,Z9];have hL:=cQ R.same;subst hL;obtain⟨F,h⟩:∃F,F=Wp r0 kk SS []:=⟨_,rfl⟩;obtain⟨q,n⟩:∃q,q=V4 SS kk []:=⟨_,rfl⟩;have I7:Hid<|Wy F q:=by show Wy _ _;rw[h,n];exact R.inv SS<|by rw[be.o];omega
 have T7:Hid<|jt B r0 b4 F w7:=by show jt _ _ _ _ _;rw[h];exact b3
 have Q7:Hid<|F.sn=bO q:=by show _=_;rw[h,n];exact ZZ R
 have E7:Hid<|q.ep=0:=by show _=_;rw[n];exact R.ep
 have K:Hid<|q.L=[]/\q.P=[]/\F.cnt=0/\F.op=1:=by
  refine⟨by rw[n];rfl,by rw[n];rfl, ?_, ?_⟩;rw[h];exact R.cnt.trans bm.o;rw[h];show r0.op+1=1;rw[be.o]
 have O7:Hid<|∀x,F.own B x->w.heap.size<=x:=fun x o=>by
  rcases T7.o.own x o with N|N;exact O4.o x N;have:=(N4.o.trans N6.o).size;omega
 have N7:=zl<|jt.zP (N4.o.trans N6.o) T7.o O4.o;have G7:Hid<|F.d.L=[]:=by
  show _=_;rw[h];show(Xi kk r0.d).2.2.L=_;rw[R.mend];exact b8.o
 clear h n b3 R g bd G6;refine gG kQ J.o fun w8 cy Q V bz=>?_;have S8:=zl<|T7.o.at_.nw<|ji Q;have N8:Hid<|Nw w w8:=N7.o.trans<|ji Q;clear bz
 conv=>arg 2;whnf
 go_wp2_with fail
 refine(Dv B F [107] [118] _ S8.o fun t G=>by rw[Q7.o]at G;cases G;exact I7.o.P20).mono ?_;rintro e w9 ⟨aa,f,rfl,I,l⟩;obtain⟨rfl,pv,H⟩:aa=0/\∃pv,f={F with sn:=bO<|q.more pv<|.put [107] [118]}:=by
  unfold Sr.awaits at l;rw[Q7.o]at l;simp only at l;rw[aB<|by decide,aB<|by rw[K.o.2.1];simp]at l;exact l
 have T9:=zl I;have E9:=zl H;have I9:Hid<|Wy f<|q.more pv<|.put [107] [118]:=by
  show Wy _ _;rw[H];refine I7.o.swap rfl rfl rfl rfl rfl rfl (fun c W=>?_) ?_;rcases Je.1 W with W|W
  rw[K.o.2.1]at W;cases W;rw[jp.1 W];exact⟨by simp,by simp,by simp⟩;show(q.P++[_]).length<=20;rw[K.o.2.1];simp
 have G9:Hid<|f.gets [107]=([118],0):=by
  show _=_;rw[SY<|by rw[H],aB<|by decide];have:(q.more pv<|.put [107] [118]).now=[([107],[118])]:=by
   unfold Jo.now Jo.more;simp only;rw[K.o.1,K.o.2.1];rfl
  rw[this];rfl
 have O9:Hid<|∀x,f.own B x->w.heap.size<=x:=fun x o=>by
  rcases I.own x o with N|N;exact O7.o x N;have:=N8.o.size;omega
 have N9:=zl<|jt.zP N8.o I O7.o;clear I l H
 go_wp2_with fail
 refine V.o _ _ ?_;clear V;refine gG kQ J.o fun cp ce r y bg=>?_;have bp:=zl<|T9.o.at_.nw<|ji r;have b9:Hid<|Nw w cp:=N9.o.trans<|ji r;clear bg
 conv=>arg 2;whnf
 go_wp2_with fail
 refine(TM B f [107] _ bp.o fun t G=>by rw[E9.o]at G;cases G;exact I9.o.P20).mono ?_;rintro e cq ⟨rfl,E⟩;rw[G9.o];have cg:=zl<|bp.o.nw E;have ca:Hid<|Nw w cq:=b9.o.trans E;clear E
 go_wp2_with fail
 refine y.o _ _ ?_;clear y;refine gG kQ J.o fun cr cf s z bh=>?_;have ci:=zl<|cg.o.nw<|ji s;have cb:Hid<|Nw w cr:=ca.o.trans<|ji s;clear bh
 conv=>arg 2;whnf
 go_wp2_with fail
 refine(x_ B f _ ci.o).mono ?_;rintro e cs ⟨rfl,bi⟩;have ck:=zl bi;rw[show(if f.sn.isSome then(0:Int)else 5)=0 by rw[E9.o];rfl];have bf:=zl<|jt.zP cb.o bi O9.o;clear bi
 go_wp2_with fail
 refine z.o _ _ ?_;clear z;have bl:=HG.o.but bf.o fun _ x=>x.elim;have bn:Wy f.shut<|q.more pv<|.put [107] [118]:=I9.o.tV bN;have i:f.shut.op=1:=by show f.op=1;rw[E9.o];exact K.o.2.2.2
 have g:=Ny ck.o.at_ rfl bn (by rw[i];omega) bl (fun x o=>by have:=O9.o x<|Wy.fP o;omega);refine Xn.seq bQ kQ trivial ?_
 conv=>arg 3;whnf
 refine Xn.dB bQ kQ ?_;refine Jc.value (val:=zo B) (w':=cs) bQ kQ rfl (fun t d=>⟨t,d,by show(bG _ _).run prog _=_;simp[bG,go_sem]⟩) ?_;refine Jc.call bQ kQ rfl rfl (fun v=>by show(bG _ _).run prog _=_;simp[bG,go_sem,resolve,Act.put]) (bZ rfl Tryz.func13 rfl) g ?_ ?_;rotate_left;rintro ch wx ⟨Y,_⟩;cases Y;rintro v bk ⟨Y,c1,b,L2,k,R2,j⟩;cases Y;refine mZ (val:=zi 0) kQ ⟨rfl,rfl⟩ ?_;refine Jc.nil bQ kQ ?_;refine(show Xn _ 9 _ PX _ bk from ?_);simp only[Act.put,xv,Zz,Z9];have cm:=cQ (by have:=R2.same;rwa[show(q.more pv<|.put [107] [118]).L=[]from K.o.1]at this);subst cm;have a:Hid<|U0 cv tv w.heap.size B (Wp f.shut b k []) (V4 k b []) bk:=by
  refine⟨j.at_,ZZ R2,R2.inv k<|by rw[i];omega,rfl,rfl, ?_, ?_, ?_,rfl,fun x o=>?_, ?_⟩;show b.cnt=0;rw[R2.cnt];show f.cnt=0;rw[E9.o];exact K.o.2.2.1;show f.shut.op+1=2;rw[i];show b.ep=0;rw[R2.ep];exact E7.o;rcases j.own x o with N|N
  exact O9.o x<|Wy.fP N;have:=bf.o.size;omega;have e2:=E9.o;show(Xi b f.d).2.2.L=_;rw[show Xi b f.d=(bL,b,f.d)from R2.mend,e2];exact G7.o
 have cc:=zl<|jt.zP bf.o j fun x o=>O9.o x<|Wy.fP o;have b5:Hid<|(Wp f.shut b k []).gets [107]=([],8):=by
  show _=_;rw[SY a.o.sn,aB<|by decide];rfl
 clear j R2 g bl bn i;generalize Wp f.shut b k []=r3 at*;generalize V4 k b []=s3 at*;refine mY kQ J.o fun c2 ct O bu=>?_;have cj:=zl<|a.o.st.nw<|ji O;have cd:=zl<|ji O
 conv=>arg 2;whnf
 go_wp2_with fail
 refine(TM B r3 [107] _ cj.o fun t G=>by rw[a.o.sn]at G;cases G;exact a.o.inv.P20).mono ?_;rintro e w16 ⟨rfl,Z⟩;rw[b5.o];have bo:Hid<|Nw bk w16:=cd.o.trans Z;have hv:(st [118]).toList=[118]:=xo _;have Y:(st ([]:Zl)).toList=[]:=xo _;clear Z
 go_wp2_with fail
 refine bu.o .ret _ _ ?_;rw[<-b6.o];refine⟨rfl,zo B,fun t d=>⟨t,d, ?_⟩,B,r3,s3,rfl,⟨a.o.st.nw bo.o,a.o.sn,a.o.inv,a.o.L,a.o.P,a.o.cnt,a.o.op,a.o.ep,a.o.bP,a.o.own,a.o.dl⟩,cc.o.trans bo.o⟩;show(aN Tryz.f9 _).run prog _=_;simp[aN,Tryz.results9,go_sem]
noncomputable def c6:=Qf Tryz.f6.body
noncomputable def xCa:=Qa c6
noncomputable def rCa:=Qa<|Qb c6
noncomputable def rCb:=Qa<|Qb<|Qb c6
noncomputable def xCb:=Qa<|Qn 3 c6
noncomputable def rCc:=Qa<|Qn 4 c6
noncomputable def xCc:=Qa<|Qn 5 c6
noncomputable def xCd:=Qa<|Qn 6 c6
noncomputable def xCe:=Qa<|Qn 7 c6
noncomputable def xCf:=Qa<|Qn 8 c6
noncomputable def lpC:=Ql<|Qk<|Qb<|Qa<|Qn 9 c6
noncomputable def xCg:=Qa<|Qa<|Qn 9 c6
noncomputable def enC:=Qn 10 c6
noncomputable def xCt:=Qa lpC
noncomputable def mdC:=Qk<|Qa<|Qb lpC
noncomputable def xCn:=Qb<|Qb lpC
noncomputable def xCh:=Qa mdC
noncomputable def xCi:=Qa<|Qb mdC
noncomputable def swC:=Qa<|Qb<|Qb mdC
noncomputable def rtC:=Qa<|Qn 3 mdC
noncomputable def tlC:=Qn 4 mdC
noncomputable def tCa:=Qa tlC
noncomputable def tCb:=Qa<|Qb tlC
noncomputable def tCc:=Qa<|Qa<|Qb<|Qb tlC
noncomputable def ksC:=Qc<|Qb<|Qa<|Qb<|Qb tlC
noncomputable def tCd:=Qn 3 tlC
noncomputable def rtA:=Qa rtC
noncomputable def rtL:=Ql<|Qk<|Qb rtC
noncomputable def rtT:=Qa rtL
noncomputable def rtB:=Qk<|Qa<|Qb rtL
noncomputable def rtN:=Qb<|Qb rtL
noncomputable def rtO:=Qa rtB
noncomputable def rtE:=Qb rtB
def vdg:tlC= .seq tCa (.seq tCb<|.seq (.seq tCc<|.cond (.tmp 188) ksC .skip) tCd):=by kernel_rfl
def vdz:rtC= .seq rtA (.block 3<|.loop<|.seq rtT<|.seq (.block 4<|.seq rtO rtE) rtN):=by kernel_rfl
theorem ved:Tryz.f6.body=bO c6:=by kernel_rfl
def veb:c6= .seq xCa (.seq rCa<|.seq rCb<|.seq xCb<|.seq rCc<|.seq xCc<|.seq xCd<|.seq xCe<|.seq xCf<|.seq (.seq xCg<|.block 0<|.loop lpC) enC):=by kernel_rfl
def vdj:lpC= .seq xCt (.seq (.block 1 mdC) xCn):=by kernel_rfl
def vdy:mdC= .seq xCh (.seq xCi<|.seq swC<|.seq rtC tlC):=by kernel_rfl
theorem hV:¬Mc bM 6:=xO (by decide) (by decide) Tryz.func6
structure Ac where
 kd:Int
 N:Int
 M:Int
 S:Zl
 T:Zl
def Ac.At(w:Zy)(g o:Nat)(c:Ac):Prop:=w.cell? (zq g o)=bO (zi c.kd)/\w.cell? (zq g<|o+1)=bO (zi c.N)/\w.cell? (zq g<|o+2)=bO (zi c.M)/\w.cell? (zq g<|o+3)=bO (zs c.S)/\w.cell? (zq g<|o+4)=bO (zs c.T)/\i64 c.N/\i64 c.M
def AL(lo:Nat)(w:Zy)(v:Zv)(D:List Ac):Prop:=∃a cap,v= .slice a D.length cap/\D.length<=maxLen/\∀i (h:i<D.length),∃g off,a=bO ⟨g,off,bN⟩/\g<lo/\Ac.At w g (off+i*5) D[i]
def AL.but{lo:Nat}{w w':Zy}{v:Zv}{D:List Ac}(h:AL lo w v D)(b:xb (fun x=>lo<=x) w w'):AL lo w' v D:=by
 obtain⟨a,d,p,q,r⟩:=h;refine⟨a,d,p,q,fun i s=>?_⟩;obtain⟨g,e,n,o,f,j,k,l,c6,m⟩:=r i s;have c:¬lo<=g:=by omega
 exact⟨g,e,n,o,b.cell c f,b.cell c j,b.cell c k,b.cell c l,b.cell c c6,m⟩
def AL.bnd{lo:Nat}{w:Zy}{v:Zv}{D:List Ac}(h:AL lo w v D)(i:Nat)(e:i<D.length):i64 D[i].N/\i64 D[i].M:=by
 obtain⟨a,c,p,q,d⟩:=h;obtain⟨g,f,n,o,j,k,l,m,c6,b⟩:=d i e;exact b
def FI(g:Nat->Zv):Za:=#[g 0,g 1,g 2,g 3,g 4,g 5,g 6,g 7,g 8,g 9,g 10,g 11,g 12,g 13,g 14,g 15,g 16,g 17,g 18,g 19,g 20,g 21,g 22,g 23,g 24,g 25,g 26,g 27,g 28,g 29,g 30,g 31,g 32,g 33,g 34,g 35,g 36,g 37,g 38,g 39,g 40,g 41,g 42,g 43,g 44,g 45,g 46,g 47,g 48,g 49,g 50,g 51,g 52,g 53,g 54,g 55,g 56,g 57,g 58,g 59,g 60,g 61,g 62,g 63,g 64,g 65,g 66,g 67,g 68,g 69,g 70,g 71,g 72,g 73,g 74,g 75,g 76,g 77,g 78,g 79,g 80,g 81,g 82,g 83,g 84,g 85,g 86,g 87,g 88,g 89,g 90,g 91,g 92,g 93,g 94,g 95,g 96,g 97,g 98,g 99,g 100,g 101,g 102,g 103,g 104,g 105,g 106,g 107,g 108,g 109,g 110,g 111,g 112,g 113,g 114,g 115,g 116,g 117,g 118,g 119,g 120,g 121,g 122,g 123,g 124,g 125,g 126,g 127,g 128,g 129,g 130,g 131,g 132,g 133,g 134,g 135,g 136,g 137,g 138,g 139,g 140,g 141,g 142,g 143,g 144,g 145,g 146,g 147,g 148,g 149,g 150,g 151,g 152,g 153,g 154,g 155,g 156,g 157,g 158,g 159,g 160,g 161,g 162,g 163,g 164,g 165,g 166,g 167,g 168,g 169,g 170,g 171,g 172,g 173,g 174,g 175,g 176,g 177,g 178,g 179,g 180,g 181,g 182,g 183,g 184,g 185,g 186,g 187,g 188,g 189,g 190,g 191,g 192,g 193,g 194,g 195,g 196,g 197,g 198,g 199,g 200,g 201,g 202,g 203,g 204,g 205,g 206,g 207,g 208,g 209,g 210,g 211,g 212,g 213,g 214,g 215,g 216,g 217,g 218,g 219,g 220,g 221,g 222,g 223,g 224,g 225,g 226]
def FE{x:Za}(h:x.size=227):∃g,(⟨x,[]⟩:Act)=⟨FI g,[]⟩:=by
 refine⟨fun i=>x[i]?.getD bJ, ?_⟩
 congr 1
 rw[show FI (fun i=>x[i]?.getD bJ)=((List.range 227).map fun i=>x[i]?.getD bJ).toArray from rfl];refine Array.ext (by simp[h]) fun i a b=>?_;simp[a]
structure FrC(v:Zv)(B:Nat)(kv sv:Zv)(cn j:Nat)(a:Act):Prop where
 lt:∃g,a=⟨FI g,[]⟩
 a2:At a 2 v
 a7:At a 7<|zo B
 a10:At a 10 kv
 a11:At a 11 sv
 a12:At a 12<|zi cn
 a13:At a 13<|zi j
def FrC.lit{v:Zv}{kv sv:Zv}{cn j:Nat}{a:Act}(h:FrC v B kv sv cn j a):∃g,a=⟨FI g,[]⟩/\g 2=v/\g 7=zo B/\g 10=kv/\g 11=sv/\g 12=zi cn/\g 13=zi j:=by
 obtain⟨g,rfl⟩:=h.lt;exact⟨g,rfl,jf h.a2,jf h.a7,jf h.a10,jf h.a11,jf h.a12,jf h.a13⟩
structure CrP(cv tv:Zv)(lo B:Nat)(v:Zv)(D:List Ac)(w0:Zy)(r:Sr)(s:Jo)(w:Zy):Prop where
 st:Jq w B r
 sn:r.sn=bO s
 inv:IL r s
 own:∀x,r.own B x->lo<=x
 l4:4<lo
 sz:lo<=w0.heap.size
 wC:iA cv tv w
 two:Two2 lo cv tv w
 old:xb (fun x=>lo<=x) w0 w
 al:AL lo w v D
section
variable {cv tv:Value} {lo B j cn:Nat} {v kv sv:Value} {D:List Ac} {w0 w w':World} {a:Act} {r r':Sr} {s s':Jo} {Po:Exit->Act->World->Prop}
def CrP.nw(h:CrP cv tv lo B v D w0 r s w)(n:Nw w w'):CrP cv tv lo B v D w0 r s w':=
 ⟨h.st.nw n,h.sn,h.inv,h.own,h.l4,h.sz,h.wC.but (S:=fun _=>False) n fun _ x=>x.elim,h.two.but (S:=fun _=>False) n fun _ x=>x.elim,h.old.trans<|n.mono fun _ x=>x.elim,h.al.but<|n.mono fun _ x=>x.elim⟩
def IL.vee(C:IL r s)(d:r.sn=bO s)(a:∀x,r.own B x->4<x):fV B r:=by
 have k:=fV.of (Bx:=B) C.inv (.inl d) fun x f=>a x (by
  rcases f with e|(e|e|⟨c,b,_⟩)|e;exact .inl e;exact .inr<|.inl<|.inl e;exact .inr<|.inl<|.inr<|.inl e;cases b;exact .inr<|.inr e)
 exact⟨k.m,k.mark,k.cnt,k.op,k.room,k.files,k.few,fun c b=>by have:=C.nx c b;unfold i64;omega,a,k.bU⟩
def CrP.ok(h:CrP cv tv lo B v D w0 r s w):fV B r:=h.inv.vee h.sn fun x a=>by have:=h.own x a;have:=h.l4;omega
def CrP.to(h:CrP cv tv lo B v D w0 r s w)(t:jt B r w r' w')(d:r'.sn=bO s')(c:IL r' s'):CrP cv tv lo B v D w0 r' s' w':=by
 have f:w0.heap.size<=w.heap.size:=h.old.size;have e:=h.sz;refine⟨t.at_,d,c,fun x a=>?_,h.l4,h.sz,h.wC.but t.but fun x a=>?_,h.two.but t.but fun x a=>h.own x a,h.old.trans<|t.but.mono fun x a=>h.own x a,h.al.but<|t.but.mono fun x a=>h.own x a⟩;rcases t.own x a with b|b
 exact h.own x b;omega;have:=h.own x a;have:=h.l4;omega
def jt.psl{l:KV}{q:Zv}(h:Jq w B r)(t:jt B r w r' w')(k:qW w q l):qW w' q l:=
 k.but t.but fun g a b c=>(h.dX c b).1 rfl
def vaa{cs:Za}{t:Zt}{q:Nat}(h:xx w q cs t)(k:xb (r.own B) w w')(a:¬r.own B q):xx w' q cs t:=h.but k a
def vdc(n:FrC v B kv sv cn j a)(i:AL lo w v D)(s:j<=D.length)(t:j<=300)(E:cn<=1000)
  (k:Hid<|∀a',FrC v B kv sv cn j a'->j<D.length->j<300->cn<30->Po .normal a' w)(b:Hid<|∀a',FrC v B kv sv cn j a'->Po (.exit 0) a' w):xCt.wp prog Po a w:=by
 obtain⟨g,rfl,l,m,c,d,e,f⟩:=n.lit;obtain⟨C,o,rfl,h,_⟩:=i;unfold maxLen at h;clear n;simp only[FI,l,m,c,d,e,f];clear l m c d e f
 conv=>arg 2;whnf
 by_cases p:j<D.length
 ·have x:(j:Int)<(D.length:Nat):=by omega
  by_cases q:j<300
  ·have y:(j:Int)<300:=by omega
   by_cases r:cn<30
   ·have z:(cn:Int)<30:=by omega
    go_wp2_with fail
    exact k.o _ ⟨FE rfl,rfl,rfl,rfl,rfl,rfl,rfl⟩ p q r
   have z:¬(cn:Int)<30:=by omega
   go_wp2_with fail
   exact b.o _ ⟨FE rfl,rfl,rfl,rfl,rfl,rfl,rfl⟩
  have y:¬(j:Int)<300:=by omega
  go_wp2_with fail
  exact b.o _ ⟨FE rfl,rfl,rfl,rfl,rfl,rfl,rfl⟩
 have x:¬(j:Int)<(D.length:Nat):=by omega
 go_wp2_with fail
 exact b.o _ ⟨FE rfl,rfl,rfl,rfl,rfl,rfl,rfl⟩
def vde(i:FrC v B kv sv cn j a)(l:j<=300)(k:Hid<|∀a',FrC v B kv sv cn (j+1) a'->Po .normal a' w):xCn.wp prog Po a w:=by
 obtain⟨g,rfl,f,h,b,c,d,e⟩:=i.lit;have m:IntKind.i64.wrap ((j:Int)+1)=(j:Int)+1:=by rw[xn];omega
 clear i;simp only[FI,f,h,b,c,d,e];clear f h b c d e
 conv=>arg 2;whnf
 go_wp2_with fail
 exact k.o _ ⟨FE rfl,rfl,rfl,rfl,rfl,rfl,rfl⟩
def acC(x:Ac):Za:=#[.int .i64 x.kd,.int .i64 x.N,.int .i64 x.M,.string<|st x.S,.string<|st x.T]
def vdb(l:FrC v B kv sv cn j a)(h:AL lo w v D)(p:j<D.length)
  (o:Hid<|∀a' w',FrC v B kv sv cn j a'->At a' 14 (zo w.heap.size)->Nw w w'->w.heap.size<w'.heap.size->xx w' w.heap.size (acC D[j]) 39->Po .normal a' w'):xCh.wp prog Po a w:=by
 obtain⟨g,rfl,i,k,c,d,e,f⟩:=l.lit;obtain⟨r,n,rfl,m,b⟩:=h;obtain⟨E,q,rfl,F,s,t,y,z,C,_⟩:=b j p;generalize D[j]=x at*;have H:(j:Int)<(D.length:Nat):=by omega
 have G:(0:Int)<=(j:Int):=by omega
 clear l b;simp only[FI,i,k,c,d,e,f];clear i k c d e f
 conv=>arg 2;whnf
 go_wp2_with fail
 exact o.o _ _ ⟨FE rfl,rfl,rfl,rfl,rfl,rfl,rfl⟩ rfl (Nw.alloc _ _) (xx.new _ _ _).lt<|xx.new _ _ _
structure OV(v:Zv)(B:Nat)(kv sv:Zv)(cn j:Nat)(q:Nat)(e:Int)(a:Act):Prop where
 fr:FrC v B kv sv cn j a
 a14:At a 14<|zo q
 a15:At a 15<|zi e
def OV.lit{q:Nat}{e:Int}(h:OV v B kv sv cn j q e a):∃g,a=⟨FI g,[]⟩/\g 2=v/\g 7=zo B/\g 10=kv/\g 11=sv/\g 12=zi cn/\g 13=zi j/\g 14=zo q/\g 15=zi e:=by
 obtain⟨g,rfl,b,c,d,f,i,k⟩:=h.fr.lit;exact⟨g,rfl,b,c,d,f,i,k,jf h.a14,jf h.a15⟩
def vcw{q:Nat}(l:FrC v B kv sv cn j a)(h:At a 14<|zo q)(m:Hid<|∀a',OV v B kv sv cn j q 0 a'->Po .normal a' w):xCi.wp prog Po a w:=by
 obtain⟨g,rfl,i,k,b,c,d,e⟩:=l.lit;have f:g 14=_:=jf h;clear l h;simp only[FI,i,k,b,c,d,e,f];clear i k b c d e f
 conv=>arg 2;whnf
 go_wp2_with fail
 exact m.o _ ⟨⟨FE rfl,rfl,rfl,rfl,rfl,rfl,rfl⟩,rfl,rfl⟩
end
section
variable {lo B j cn q:Nat} {v kv sv:Value} {w:World} {a:Act} {r:Sr} {s:Jo} {Po:Exit->Act->World->Prop} {N M:Int} {S T:List UInt8} {l:KV}
def vdl(Q:OV v B kv sv cn j q 0 a)(hx:xx w q #[zi 1,zi N,zi M,zs S,zs T] 39)(h:Jq w B r)(U:¬r.own B q)(V:r.sn=bO s)(O:s.P.length<=20)(R:qW w sv l)(y:l.length<=100000)
  (L:Hid<|∀a' w1 w' e sv' r',OV v B kv sv' cn j q e a'->jt B r w r' w1->Nw w1 w'->r.awaits (Ve S&&iW T) (.put S T) e r'->(e=0->qW w' sv' (Vc l S T bK))->(e≠0->sv'=sv)->Po .normal a' w'):swC.wp prog Po a w:=by
 obtain⟨g,rfl,J,K,f,i,k,m,n,o⟩:=Q.lit;have I:=zl hx;have H:=zl U;have G:=zl h;have C:=zl R;have c0:w.cell? (zq q 0)=bO (zi 1):=hx.cell 0 rfl;have c3:w.cell? (zq q 3)=bO (zs S):=hx.cell 3 rfl;have c4:w.cell? (zq q 4)=bO (zs T):=hx.cell 4 rfl;have F:=zl (Dv B r S T w h fun t W=>by rw[V]at W;cases W;exact O);clear Q hx h U R V O;simp only[FI,J,K,f,i,k,m,n,o];clear J K f i k m n o
 conv=>arg 2;whnf
 go_wp2_with fail
 refine F.o.mono ?_;rintro e w1 ⟨d,r',rfl,c,x⟩;have T1:=zl c;have E:=zl x;have D:=vaa I.o c.but H.o;have d3:w1.cell? (zq q 3)=bO (zs S):=D.cell 3 rfl;have d4:w1.cell? (zq q 4)=bO (zs T):=D.cell 4 rfl;have Y:=zl<|jt.psl G.o c C.o;clear c x D F I H c0 c3 c4 G;by_cases p:d=0
 ·subst p
  obtain⟨pp,pg,pc,rfl,bb,_⟩:=id C.o;clear C
  go_wp2_with fail
  refine(Cb l _ S T bK y _ Y.o).mono ?_;rintro e w2 ⟨v5,rfl,b,z⟩;have Z:=zl z;have O5:=zl b;obtain⟨a5,k5,rfl,ba⟩:=Jh b;clear b z
  go_wp2_with fail
  exact L.o _ w1 _ 0 _ r' ⟨⟨FE rfl,rfl,rfl,rfl,rfl,rfl,rfl⟩,rfl,rfl⟩ T1.o Z.o E.o (fun _=>Uk O5.o) fun h=>absurd rfl h
 have i0:decide (d=0)=bK:=by simpa using p
 have bc:(d==0)=bK:=by simpa using p
 have X:Hid<|d≠0:=p;clear p
 go_wp2_with fail
 exact L.o _ w1 w1 d _ r' ⟨⟨FE rfl,rfl,rfl,rfl,rfl,rfl,rfl⟩,rfl,rfl⟩ T1.o (xb.refl _ _) E.o (fun h=>absurd h X.o) fun _=>rfl
def vdx(Q:OV v B kv sv cn j q 0 a)(hx:xx w q #[zi 2,zi N,zi M,zs S,zs T] 39)(h:Jq w B r)(U:¬r.own B q)(V:r.sn=bO s)(O:s.P.length<=20)(R:qW w sv l)(y:l.length<=100000)
  (L:Hid<|∀a' w1 w' e sv' r',OV v B kv sv' cn j q e a'->jt B r w r' w1->Nw w1 w'->r.awaits (Ve S) (.del S) e r'->(e=0->qW w' sv' (Vc l S [] bL))->(e≠0->sv'=sv)->Po .normal a' w'):swC.wp prog Po a w:=by
 obtain⟨g,rfl,J,K,f,i,k,m,n,o⟩:=Q.lit;have H:=zl hx;have G:=zl U;have F:=zl h;have C:=zl R;have c0:w.cell? (zq q 0)=bO (zi 2):=hx.cell 0 rfl;have c3:w.cell? (zq q 3)=bO (zs S):=hx.cell 3 rfl;have E:=zl (CA B r S w h fun t W=>by rw[V]at W;cases W;exact O);clear Q hx h U R V O;simp only[FI,J,K,f,i,k,m,n,o];clear J K f i k m n o
 conv=>arg 2;whnf
 go_wp2_with fail
 refine E.o.mono ?_;rintro e w1 ⟨d,r',rfl,c,x⟩;have T1:=zl c;have D:=zl x;have I:=vaa H.o c.but G.o;have d3:w1.cell? (zq q 3)=bO (zs S):=I.cell 3 rfl;have Y:=zl<|jt.psl F.o c C.o;clear c x I E H G c0 c3 F;by_cases p:d=0
 ·subst p
  obtain⟨pp,pg,pc,rfl,bb,_⟩:=id C.o;clear C
  go_wp2_with fail
  refine(Cb l _ S [] bL y _ Y.o).mono ?_;rintro e w2 ⟨v5,rfl,b,z⟩;have Z:=zl z;have O5:=zl b;obtain⟨a5,k5,rfl,ba⟩:=Jh b;clear b z
  go_wp2_with fail
  exact L.o _ w1 _ 0 _ r' ⟨⟨FE rfl,rfl,rfl,rfl,rfl,rfl,rfl⟩,rfl,rfl⟩ T1.o Z.o D.o (fun _=>Uk O5.o) fun h=>absurd rfl h
 have i0:decide (d=0)=bK:=by simpa using p
 have bc:(d==0)=bK:=by simpa using p
 have X:Hid<|d≠0:=p;clear p
 go_wp2_with fail
 exact L.o _ w1 w1 d _ r' ⟨⟨FE rfl,rfl,rfl,rfl,rfl,rfl,rfl⟩,rfl,rfl⟩ T1.o (xb.refl _ _) D.o (fun h=>absurd h X.o) fun _=>rfl
def vcy{kd:Int}(m:kd≠1)(n:kd≠2)(o:kd≠5)(p:kd≠6)(r:kd≠7)(s:kd≠8)(t:kd≠9)(l:OV v B kv sv cn j q 0 a)(hx:xx w q #[zi kd,zi N,zi M,zs S,zs T] 39)
  (x:Hid<|∀a',OV v B kv sv cn j q 0 a'->Po .normal a' w):swC.wp prog Po a w:=by
 obtain⟨g,rfl,i,k,b,c,d,e,f,h⟩:=l.lit;have y:w.cell? (zq q 0)=bO (zi kd):=hx.cell 0 rfl;have z:decide (kd=1)=bK:=by simpa using m
 have C:decide (kd=2)=bK:=by simpa using n
 have D:decide (kd=5)=bK:=by simpa using o
 have E:decide (kd=6)=bK:=by simpa using p
 have F:decide (kd=7)=bK:=by simpa using r
 have G:decide (kd=8)=bK:=by simpa using s
 have H:decide (kd=9)=bK:=by simpa using t
 clear l hx;simp only[FI,i,k,b,c,d,e,f,h];clear i k b c d e f h
 conv=>arg 2;whnf
 go_wp2_with fail
 exact x.o _ ⟨⟨FE rfl,rfl,rfl,rfl,rfl,rfl,rfl⟩,rfl,rfl⟩
def vea{kd:Int}{A:Option Int×Sr}(H:kd=5\/kd=6\/kd=7)(W:OV v B kv sv cn j q 0 a)(hx:xx w q #[zi kd,zi N,zi M,zs S,zs T] 39)(h:Jq w B r)(I:¬r.own B q)(ba:cn<=1000)(hw:bE prog 19 #[zo B,zi kd] w<|I8 B r A w)
  (C:∀o r',A=(o,r')->cn<=r'.cnt/\r'.cnt<=cn+2/\(o=bO 0->kd=5->r'.cnt<=cn+1))
  (hN:Hid<|∀a' w' e,OV v B kv sv cn j q e a'->I8 B r A w (.returned<|zi e) w'->Po .normal a' w'):swC.wp prog Po a w:=by
 obtain⟨g,rfl,Q,U,k,l,m,n,p,s⟩:=W.lit;have HX:=zl hx;have Z:=zl I;have O:=zl hw;have X:=zl C;have c0:w.cell? (zq q 0)=bO (zi kd):=hx.cell 0 rfl;have y:∀e w1,I8 B r A w (.returned<|zi e) w1->∃R:Sr,Jq w1 B R/\xb (r.own B) w w1/\cn<=R.cnt/\R.cnt<=cn+2/\(e=0->kd=5->R.cnt<=cn+1):=fun e w1 d=>by
  rcases d with⟨v',r',E,F,t⟩|⟨r',E,F,t⟩;have c:=C _ _ E;cases F;exact⟨r',t.at_,t.but,c.1,c.2.1,fun x=>c.2.2<|by rw[x]⟩;have c:=C _ _ E;cases F;exact⟨r'.shut,t.at_,t.but,c.1,c.2.1,fun x=>by cases x⟩
 have L:=zl y;have f:Hid<|∀w1,xb (r.own B) w w1->w1.cell? (zq q 0)=bO (zi kd):=fun w1 D=>(vaa hx D I).cell 0 rfl;clear W hx h I hw C y;simp only[FI,Q,U,k,l,m,n,p,s];clear Q U k l m n p s;have w2:IntKind.i64.wrap ((cn:Int)+2)=(cn:Int)+2:=by rw[xn];omega
 have bd:IntKind.i64.wrap ((cn:Int)+1)=(cn:Int)+1:=by rw[xn];omega
 conv=>arg 2;whnf
 rcases H with rfl|rfl|rfl
 all_goals
  go_wp2_with fail
  refine O.o.mono ?_;intro e J d;obtain⟨b,rfl⟩:=I8.val d;obtain⟨R,V,D,k1,k2,k3⟩:=L.o b J d;have Y:=zl d;have d0:=f.o J D;have CC:=zl<|Tm B R J V;have i:=zl k3;clear d D HX Z O L f c0 X
  go_wp2_with fail
  refine CC.o.mono ?_;rintro e w4 ⟨rfl,rfl⟩;have j1:¬(R.cnt:Int)<(cn:Int):=by omega
  have bc:¬R.cnt<cn:=by omega
  have j2:¬(cn:Int)+2<(R.cnt:Int):=by omega
  have K:Hid<|∀a',OV v B kv sv cn j q b a'->Po .normal a' w4:=fun a' G=>hN.o a' _ b G Y.o;clear CC V;by_cases z:b=0
  ·subst z
   go_wp2_with fail
   all_goals
    first
     |exact K.o _ ⟨⟨FE rfl,rfl,rfl,rfl,rfl,rfl,rfl⟩,rfl,rfl⟩
     |(exfalso;have:=i.o trivial trivial;omega)
     |(exfalso;have:=i.o rfl rfl;omega)
  have j0:decide (b=0)=bK:=by simpa using z
  have bb:(b==0)=bK:=by simpa using z
  clear z
  go_wp2_with fail
  exact K.o _ ⟨⟨FE rfl,rfl,rfl,rfl,rfl,rfl,rfl⟩,rfl,rfl⟩
end
section
variable {lo B j cn q:Nat} {v kv sv:Value} {w:World} {a:Act} {r:Sr} {s:Jo} {Po:Exit->Act->World->Prop} {N M:Int} {S T:List UInt8} {l:KV}
def vbp{e:Int}(k:e≠12)(n:OV v B kv sv cn j q e a)(o:Hid<|∀a',OV v B kv sv cn j q e a'->Po .normal a' w):rtC.wp prog Po a w:=by
 obtain⟨g,rfl,l,m,b,c,d,f,h,i⟩:=n.lit;have r:decide (e=12)=bK:=by simpa using k
 have p:(e==12)=bK:=by simpa using k
 clear n k;simp only[FI,l,m,b,c,d,f,h,i];clear l m b c d f h i
 conv=>arg 2;whnf
 go_wp2_with fail
 refine wp_loop_rounds 1 ?_;rw[rounds_succ]
 go_wp2_with fail
 exact o.o _ ⟨⟨FE rfl,rfl,rfl,rfl,rfl,rfl,rfl⟩,rfl,rfl⟩
structure FrB(v:Zv)(B:Nat)(kv sv:Zv)(cn j:Nat)(q:Nat)(n:Nat)(a:Act):Prop where
 fr:FrC v B kv sv cn j a
 a14:At a 14<|zo q
 a18:At a 18<|zi n
def FrB.lit(h:FrB v B kv sv cn j q n a):∃g,a=⟨FI g,[]⟩/\g 2=v/\g 7=zo B/\g 10=kv/\g 11=sv/\g 12=zi cn/\g 13=zi j/\g 14=zo q/\g 18=zi n:=by
 obtain⟨g,rfl,b,c,d,e,f,i⟩:=h.fr.lit;exact⟨g,rfl,b,c,d,e,f,i,jf h.a14,jf h.a18⟩
def vdh{e:Int}(n:OV v B kv sv cn j q e a)(h:Jq w B r)(o:Hid<|∀a',FrB v B kv sv cn j q r.cnt a'->Po .normal a' w):tCa.wp prog Po a w:=by
 obtain⟨g,rfl,l,m,b,c,d,f,i,k⟩:=n.lit;have CC:=zl<|Tm B r w h;clear n h;simp only[FI,l,m,b,c,d,f,i,k];clear l m b c d f i k
 conv=>arg 2;whnf
 go_wp2_with fail
 refine CC.o.mono ?_;rintro p s ⟨rfl,rfl⟩
 go_wp2_with fail
 exact o.o _ ⟨⟨FE rfl,rfl,rfl,rfl,rfl,rfl,rfl⟩,rfl,rfl⟩
def vdm(o:FrB v B kv sv cn j q n a){pk ps:Option Addr}{nk ck ns cs:Nat}(hk:kv= .slice pk nk ck)(p:sv= .slice ps ns cs)(k:Hid<|∀a',FrB v B (if n=cn then kv else sv) sv cn j q n a'->Po .normal a' w):tCb.wp prog Po a w:=by
 obtain⟨g,rfl,l,m,b,c,d,e,f,i⟩:=o.lit;subst hk p;clear o;simp only[FI,l,m,b,c,d,e,f,i];clear l m b c d e f i
 conv=>arg 2;whnf
 by_cases h:n=cn
 ·subst h
  rw[aA rfl]at k
  go_wp2_with fail
  exact k.o _ ⟨⟨FE rfl,rfl,rfl,rfl,rfl,rfl,rfl⟩,rfl,rfl⟩
 have s:decide ((n:Int)=(cn:Int))=bK:=decide_eq_false (by omega);have r:((n:Int) != (cn:Int))=bL:=by simp;omega
 rw[aB h]at k;clear h
 go_wp2_with fail
 exact k.o _ ⟨⟨FE rfl,rfl,rfl,rfl,rfl,rfl,rfl⟩,rfl,rfl⟩
def vcz{kd:Int}(s:FrB v B kv sv cn j q n a)(hx:xx w q #[zi kd,zi N,zi M,zs S,zs T] 39)(b:Hid<|∀a',FrB v B kv sv cn j q n a'->At a' 188 (.bool (decide (kd=5\/kd=6\/kd=7\/kd=8)))->Po .normal a' w):tCc.wp prog Po a w:=by
 obtain⟨g,rfl,p,r,c,d,e,f,h,i⟩:=s.lit;have D:w.cell? (zq q 0)=bO (zi kd):=hx.cell 0 rfl;clear s hx;simp only[FI,p,r,c,d,e,f,h,i];clear p r c d e f h i
 conv=>arg 2;whnf
 by_cases k:kd=5
 ·subst k
  go_wp2_with fail
  exact b.o _ ⟨⟨FE rfl,rfl,rfl,rfl,rfl,rfl,rfl⟩,rfl,rfl⟩ rfl
 by_cases l:kd=6
 ·subst l
  go_wp2_with fail
  exact b.o _ ⟨⟨FE rfl,rfl,rfl,rfl,rfl,rfl,rfl⟩,rfl,rfl⟩ rfl
 by_cases m:kd=7
 ·subst m
  go_wp2_with fail
  exact b.o _ ⟨⟨FE rfl,rfl,rfl,rfl,rfl,rfl,rfl⟩,rfl,rfl⟩ rfl
 by_cases o:kd=8
 ·subst o
  go_wp2_with fail
  exact b.o _ ⟨⟨FE rfl,rfl,rfl,rfl,rfl,rfl,rfl⟩,rfl,rfl⟩ rfl
 have E:decide (kd=5)=bK:=by simpa using k
 have F:decide (kd=6)=bK:=by simpa using l
 have G:decide (kd=7)=bK:=by simpa using m
 have H:decide (kd=8)=bK:=by simpa using o
 have x:¬kd=5:=k;have y:¬kd=6:=l;have z:¬kd=7:=m;have C:¬kd=8:=o;have t:decide (kd=5\/kd=6\/kd=7\/kd=8)=bK:=by simp[k,l,m,o]
 rw[t]at b;clear k l m o t
 go_wp2_with fail
 refine b.o _ ⟨⟨FE rfl,rfl,rfl,rfl,rfl,rfl,rfl⟩,rfl,rfl⟩ ?_;show bO _=bO _
 first|rfl|simp[x,y,z,C]
def vcr(O:FrB v B kv sv cn j q n a)(h:Jq w B r)(F:r.sn=bO s)(D:s.P.length<=20)(f:∀p∈s.now,p.1.length<=1000000)(E:s.now.length<=1000000)(N:qW w kv l)
  (b:Vp s.now=l.map (·.1))(c:∀i (h:i<l.length),r.gets l[i].1=(l[i].2,0))
  (S:Hid<|∀a' w',FrB v B kv kv cn j q n a'->Nw w w'->Po .normal a' w'):ksC.wp prog Po a w:=by
 obtain⟨g,rfl,L,M,m,o,t,x,y,z⟩:=O.lit;have H:=zl<|Pr B r s w h F D f E;have K:Hid<|∀w',Nw w w'->bE prog 14 #[zo B,kv] w' fun e G=>e= .returned (.bool bL)/\Nw w' G:=fun w' n=>Pp B r s l kv w' (h.but n fun _ _=>id) F D f E (N.but n fun _ _ _=>id) b c;obtain⟨Y,W,V,rfl,_,_⟩:=N;clear O h F D f E b c;simp only[FI,L,M,m,o,t,x,y,z];clear L M m o t x y z
 conv=>arg 2;whnf
 go_wp2_with fail
 refine H.o.mono ?_;rintro R w1 ⟨Z,rfl,d,k⟩;obtain⟨U,X,rfl,T⟩:=Jh d;have I:=zl k;have J:=zl<|K.o w1 k;clear d k H K
 go_wp2_with fail
 refine J.o.mono ?_;rintro R w2 ⟨rfl,C⟩;have Q:=zl<|I.o.trans C;clear C J I
 go_wp2_with fail
 exact S.o _ _ ⟨⟨FE rfl,rfl,rfl,rfl,rfl,rfl,rfl⟩,rfl,rfl⟩ Q.o
def vcg(l:FrB v B kv sv cn j q n a)(m:Hid<|∀a',FrC v B kv sv n j a'->Po .normal a' w):tCd.wp prog Po a w:=by
 obtain⟨g,rfl,i,k,b,c,d,e,f,h⟩:=l.lit;clear l;simp only[FI,i,k,b,c,d,e,f,h];clear i k b c d e f h
 conv=>arg 2;whnf
 go_wp2_with fail
 exact m.o _ ⟨FE rfl,rfl,rfl,rfl,rfl,rfl,rfl⟩
end
end
end P
namespace P
open Go.RowKit A
variable [pn:A.Pn]
section
variable {cv tv:Value} {lo B:Nat} {v:Value} {D:List Ac} {w0 w w1 w2:World} {r r':Sr} {s:Jo} {e:Ending}
structure vai(cv tv:Zv)(lo B:Nat)(v:Zv)(D:List Ac)(w0:Zy)(r:Sr)(s:Jo)(r':Sr)(w:Zy):Prop where
 st:Jq w B r'.shut
 fell:van r s r'
 c40:r.cnt<=38
 inv:IL r s
 own:∀x,r'.shut.own B x->lo<=x
 l4:4<lo
 sz:lo<=w0.heap.size
 wC:iA cv tv w
 two:Two2 lo cv tv w
 old:xb (fun x=>lo<=x) w0 w
 al:AL lo w v D
def vai.nw(h:vai cv tv lo B v D w0 r s r' w)(n:Nw w w1):vai cv tv lo B v D w0 r s r' w1:=
 ⟨h.st.nw n,h.fell,h.c40,h.inv,h.own,h.l4,h.sz,h.wC.but (S:=fun _=>False) n fun _ x=>x.elim,h.two.but (S:=fun _=>False) n fun _ x=>x.elim,h.old.trans<|n.mono fun _ x=>x.elim,h.al.but<|n.mono fun _ x=>x.elim⟩
def CrP.fel(h:CrP cv tv lo B v D w0 r s w)(c:r.cnt<=38)(f:van r s r')(t:jt B r w r'.shut w1):vai cv tv lo B v D w0 r s r' w1:=by
 have e:w0.heap.size<=w.heap.size:=h.old.size;have d:=h.sz;refine⟨t.at_,f,c,h.inv,fun x a=>?_,h.l4,h.sz,h.wC.but t.but fun x a=>?_,h.two.but t.but fun x a=>h.own x a,h.old.trans<|t.but.mono fun x a=>h.own x a,h.al.but<|t.but.mono fun x a=>h.own x a⟩;rcases t.own x a with b|b
 exact h.own x b;omega;have:=h.own x a;have:=h.l4;omega
def vai.ok(h:vai cv tv lo B v D w0 r s r' w):fV B r'.shut:=by
 have f:=h.fell;have I:=h.inv.inv;have a:=h.c40;have g:=f.le;have i:r.op<=999:=I.op;refine⟨by show r'.m.length=32;rw[f.fell.keep.m];exact I.m,f.mark,by show r'.cnt<_;omega,by show r'.op<_;rw[f.fell.keep.op];omega, ?_,⟨f.fell.gs.each, ?_⟩, ?_,fun c a=>?_,fun x b=>by have:=h.own x b;have:=h.l4;omega,fun s e=>by cases e⟩;show 0<=r'.d.room/\r'.d.room<=1000000;rw[f.fell.room,show r.d.room=100000 from I.room];omega;have:=f.fell.few;show r'.d.L.length<=_;omega;have:=f.fell.few;show r'.d.L.length<_;omega;have a:r'.d.nx=bO c:=a;rw[f.fell.nx]at a;cases a
def vai.cc(h:vai cv tv lo B v D w0 r s r' w)(hop:r.op<999):CC bM 13 #[zo B] w<|FH B r'.shut w:=by
 refine G_ (cv:=cv) (tv:=tv) h.st rfl (by show r'.op<_;rw[h.fell.fell.keep.op];exact hop) h.ok h.wC (fun i=>h.fell.fell.len i) fun b=>?_;obtain⟨c,d,a,_⟩:=h.fell.mends;obtain⟨k,L,M⟩:=a b;have:=M.rC;exact⟨k,L,M.look,M.mend,M.dD,by omega,by omega⟩
def vdv{r2:Sr}{s2:Jo}(h:4<lo)(i:lo<=w0.heap.size)(own:∀x,r'.own B x->lo<=x)(b:iA cv tv w)(c:Two2 lo cv tv w)(old:xb (fun x=>lo<=x) w0 w)(e:AL lo w v D)(t:jt B r' w r2 w1)(g:r2.sn=bO s2)(f:IL r2 s2):CrP cv tv lo B v D w0 r2 s2 w1:=by
 have j:w0.heap.size<=w.heap.size:=old.size;refine⟨t.at_,g,f,fun x a=>?_,h,i,b.but t.but fun x a=>?_,c.but t.but fun x a=>own x a,old.trans<|t.but.mono fun x a=>own x a,e.but<|t.but.mono fun x a=>own x a⟩;rcases t.own x a with d|d
 exact own x d;omega;have:=own x a;omega
def vai.back{r0:Sr}{s0:Jo}(h:vai cv tv lo B v D w0 r s r' w)(j:NL r' r0 s0)(hop:r.op<999)(ho:FH B r'.shut w e w1):e= .returned (zi 0)/\∃r2 s2,jt B r'.shut w r2 w1/\CrP cv tv lo B v D w0 r2 s2 w1/\r2.cnt=r0.cnt/\fD s2.L=fD s0.L/\s2.P=[]/\r2.op=r.op+1/\s2.bP=0:=by
 obtain⟨i,l,k,L,c,g,b⟩:=ho;obtain⟨n,m,M⟩:=j l;have f:=g.symm.trans M.look;cases f;have a:r'.op<999:=by rw[h.fell.fell.keep.op];exact hop
 exact⟨i,Wp r'.shut k c L,V4 c (Xi k r'.d).2.1 L,b,vdv h.l4 h.sz h.own h.wC h.two h.old h.al b rfl<|M.inv c a,M.cnt,VK M.same,rfl,by show r'.op+1=_;rw[h.fell.fell.keep.op],rfl⟩
def vai.done(h:vai cv tv lo B v D w0 r s r' w)(hop:r.op<999)(ho:FH B r'.shut w e w1):e= .returned (zi 0)/\∃r2 s2,jt B r'.shut w r2 w1/\CrP cv tv lo B v D w0 r2 s2 w1/\r.cnt<=r2.cnt/\r2.cnt<=r.cnt+2/\fD s2.L=(if r2.cnt=r.cnt then fD s.L else fD s.now)/\s2.P=[]/\r2.op=r.op+1/\s2.bP=0:=by
 obtain⟨k,l,d,a⟩:=h.fell.mends;obtain⟨c,r2,s2,f,g,b,i,j⟩:=h.back d hop ho;refine⟨c,r2,s2,f,g,by rw[b];exact a.ge,by rw[b];exact a.le, ?_,j⟩;rw[b,i];split
 rename_i x;exact VK<|a.old x
 rename_i x;exact VK<|a.new x
def CrP.vcx(h:CrP cv tv lo B v D w0 r s w):fV B r.shut:=by
 have k:=h.ok;exact⟨k.m,k.mark,k.cnt,k.op,k.room,k.files,k.few,k.nx,fun x a=>k.own x<|Wy.fP a,fun s e=>by cases e⟩
def CrP.cc(h:CrP cv tv lo B v D w0 r s w)(t:jt B r w r.shut w1)(hop:r.op<999):CC bM 13 #[zo B] w1<|FH B r.shut w1:=by
 refine G_ (cv:=cv) (tv:=tv) t.at_ rfl hop h.vcx (h.wC.but t.but fun x f=>by have:=h.own x f;have:=h.l4;omega) (fun i=>by have:(qu r.d.L i).length<=60000:=h.inv.inv.jD i;show(qu r.d.L i).length<=_;omega) fun g=>?_;obtain⟨k,L,b,c,e,j,_⟩:=h.inv.reopen g;exact⟨k,L,b,by show(Xi k r.d).1=bL;rw[c],(fun a=>by rw[e]at a;cases a),by omega,by omega⟩
def CrP.done(h:CrP cv tv lo B v D w0 r s w)(t:jt B r w r.shut w1)(hop:r.op<999)(ho:FH B r.shut w1 e w2):e= .returned (zi 0)/\∃r2 s2,jt B r w r2 w2/\CrP cv tv lo B v D w0 r2 s2 w2/\r2.cnt=r.cnt/\fD s2.L=fD s.L/\s2.P=[]/\r2.op=r.op+1/\s2.bP=0:=by
 obtain⟨o,p,k,L,a,c,g⟩:=ho;obtain⟨z,q,i,j,x,y,l,m,n⟩:=h.inv.reopen p;have b:=c.symm.trans i;cases b;have T:jt B r w (Wp r k a L) w2:=t.trans g;have f:(Wp r k a L).sn=bO (V4 a k L):=by
  show bO (V4 a (Xi k r.d).2.1 L)=_;rw[j]
 exact⟨o,Wp r k a L,V4 a k L,T,h.to T f<|n a hop,l,VK m,rfl,rfl,rfl⟩
end
end P
namespace P
open A.Tryq Go.RowKit A
variable [pn:A.Pn]
attribute [local go_sem] xe zv
section
variable {e:Int} {n:Nat}
noncomputable def swA:=Qa swC
noncomputable def sw1:=Qa<|Qk<|Qb swC
noncomputable def sx1:=Qc<|Qb<|Qk<|Qb swC
noncomputable def MZ:=Qd<|Qb<|Qk<|Qb swC
noncomputable def sw2:=Qa MZ
noncomputable def sx2:=Qc<|Qb MZ
noncomputable def sz2:=Qd<|Qb MZ
noncomputable def sw3:=Qa sz2
noncomputable def sx3:=Qc<|Qb sz2
noncomputable def sz3:=Qd<|Qb sz2
noncomputable def sw4:=Qa sz3
noncomputable def rpC:=Qc<|Qb sz3
noncomputable def sz4:=Qd<|Qb sz3
noncomputable def rpA:=Qa rpC
noncomputable def rpO:=Qa<|Qb rpC
noncomputable def rpE:=Qb<|Qb rpC
def vcl:swC= .seq swA (.block 2<|.seq sw1<|.cond (.tmp 62) sx1<|.seq sw2<|.cond (.tmp 79) sx2<|.seq sw3<|.cond (.tmp 92) sx3<|.seq sw4<|.cond (.tmp 126) (.seq rpA<|.seq rpO rpE) sz4):=by kernel_rfl
section
variable {cv tv:Value} {lo B j cn q:Nat} {v kv sv:Value} {D:List Ac} {w0 w:World} {a:Act} {r r':Sr} {s:Jo} {N M:Int} {S T:List UInt8} {Q:Exit->Act->World->Prop}
def vbz(hQ:kT Q)(ha:OV v B kv sv cn j q 0 a)(hx:xx w q #[zi 8,zi N,zi M,zs S,zs T] 39)(h:CrP cv tv lo B v D w0 r s w)(hq:¬r.own B q)(hop:r.op<999)
  {pk:Option Addr}{nk ck:Nat}(bc:kv= .slice pk nk ck)
  (hN:∀a' w' r2 s2,OV v B kv kv cn j q 0 a'->jt B r w r2 w'->CrP cv tv lo B v D w0 r2 s2 w'->r2.cnt=r.cnt->fD s2.L=fD s.L->s2.P=[]->r2.op=r.op+1->s2.bP=0->Q .normal a' w'):Xn bM 6 swC Q a w:=by
 obtain⟨g,rfl,e2,e7,i,k,l,m,n,o⟩:=ha.lit;have d:=zl hQ;have HX:=zl hx;have HC:=zl h;have HN:=zl hN;subst bc;clear ha hx h hN hQ;simp only[FI,e2,e7,i,k,l,m,n,o];clear e2 e7 i k l m n o;rw[vcl];refine gG hV d.o fun v0 bd p x V=>?_;have c0:v0.cell? (zq q 0)=bO (zi 8):=(HX.o.nw<|ji p).cell 0 rfl;have M0:Hid<|Nw w v0:=ji p;clear V
 conv=>arg 2;whnf
 go_wp2_with fail
 refine x.o _ _ ?_;clear x c0;refine Xn.block bQ hV ?_;refine gG hV (Vz d.o) fun v1 be K y W=>?_;have M1:Hid<|Nw w v1:=M0.o.trans<|ji K;clear W
 conv=>arg 2;whnf
 go_wp2_with fail
 refine y.o _ _ ?_;clear y;refine Xn.cond bQ hV rfl ?_;simp only[xu,if_false];refine gG hV (Vz d.o) fun v2 bf O z X=>?_;have M2:Hid<|Nw w v2:=M1.o.trans<|ji O;clear X
 conv=>arg 2;whnf
 go_wp2_with fail
 refine z.o _ _ ?_;clear z;refine Xn.cond bQ hV rfl ?_;simp only[xu,if_false];refine gG hV (Vz d.o) fun v3 bg R C Y=>?_;have M3:Hid<|Nw w v3:=M2.o.trans<|ji R;clear Y
 conv=>arg 2;whnf
 go_wp2_with fail
 refine C.o _ _ ?_;clear C;refine Xn.cond bQ hV rfl ?_;simp only[xu,if_false];refine gG hV (Vz d.o) fun v4 bh U E Z=>?_;have M4:Hid<|Nw w v4:=M3.o.trans<|ji U;clear Z
 conv=>arg 2;whnf
 go_wp2_with fail
 refine E.o _ _ ?_;clear E;refine Xn.cond bQ hV rfl ?_;simp only[if_true];refine gG hV (Vz d.o) fun v5 bi t F ba=>?_;have J:=zl<|HC.o.nw<|M4.o.trans<|ji t;have M5:Hid<|Nw w v5:=M4.o.trans<|ji t;clear ba
 conv=>arg 2;whnf
 go_wp2_with fail
 refine(x_ B r _ J.o.st).mono ?_;rintro e w8 ⟨rfl,H⟩;have T8:=zl H;rw[show(if r.sn.isSome then(0:Int)else 5)=0 by rw[J.o.sn];rfl];clear H
 go_wp2_with fail
 refine F.o _ _ ?_;clear F;have b:=J.o.cc T8.o hop;refine Xn.seq bQ hV trivial ?_
 conv=>arg 3;whnf
 refine Xn.dB bQ hV ?_;refine mZ (val:=zo B) hV ⟨rfl,rfl⟩ ?_;refine Jc.call bQ hV rfl rfl (fun v=>by show(bG _ _).run prog _=_;simp[bG,go_sem,resolve,Act.put]) (bZ rfl Tryz.func13 rfl) b ?_ ?_;rotate_left;rintro ch w9 ⟨he,_⟩;cases he;rintro v9 w9 ho;obtain⟨he,r2,s2,t2,p2,k1,k2,k3,k4,k5⟩:=J.o.done T8.o hop ho;cases he;have P9:=zl p2;have T9:Hid<|jt B r w r2 w9:=(jt.nw HC.o.st M5.o).trans t2;clear ho b t2 p2;refine mZ (val:=zi 0) hV ⟨rfl,rfl⟩ ?_;refine Jc.nil bQ hV ?_;refine mY hV (Vz d.o) fun I f c G=>?_;simp only[Act.put,xv,Zz,Z9];have HF:Hid<|∀a',OV v B (.slice pk nk ck) (.slice pk nk ck) cn j q 0 a'->f .normal a' I:=fun a' bb=>G.o .normal _ _<|HN.o a' I r2 s2 bb (T9.o.trans<|jt.nw T9.o.at_<|ji c) (P9.o.nw<|ji c) k1 k2 k3 k4 k5
 conv=>arg 2;whnf
 go_wp2_with fail
 exact HF.o _ ⟨⟨FE rfl,rfl,rfl,rfl,rfl,rfl,rfl⟩,rfl,rfl⟩
end
def m5{Q:Exit->Act->Zy->Prop}(h:kT Q){I:Act->Zy->Prop}{m:Act->Zy->Nat}{a0:Act}{w0:Zy}(b:∀a w t d,I a (re w t d)↔I a w)(c:∀a w t d,m a (re w t d)=m a w):kT (fun e a' w'=>match e with
   | .normal=>I a' w'/\m a' w'<m a0 w0
   |e=>Q e a' w'):=by
 intro e a w t d;cases e with
 |normal=>show(I a (re w t d)/\m a (re w t d)<m a0 w0)↔(I a w/\m a w<m a0 w0);rw[b,c]
 |exit id=>exact h _ _ _ _ _
 |goto l=>exact h _ _ _ _ _
 |ret=>exact h _ _ _ _ _
 |panic ch=>exact h _ _ _ _ _
 |outgrown=>exact h _ _ _ _ _
section
variable {cv tv:Value} {lo B j cn q:Nat} {v kv sv:Value} {D:List Ac} {w0 w:World} {a:Act} {r r':Sr} {s:Jo} {N M:Int} {S T:List UInt8} {Q:Exit->Act->World->Prop} {Po:Exit->Act->World->Prop}
structure FrR(v:Zv)(B:Nat)(kv sv:Zv)(cn j:Nat)(q:Nat)(e:Int)(n:Nat)(a:Act):Prop where
 fr:OV v B kv sv cn j q e a
 a17:At a 17<|zi n
def FrR.lit(h:FrR v B kv sv cn j q e n a):∃g,a=⟨FI g,[]⟩/\g 2=v/\g 7=zo B/\g 10=kv/\g 11=sv/\g 12=zi cn/\g 13=zi j/\g 14=zo q/\g 15=zi e/\g 17=zi n:=by
 obtain⟨g,rfl,b,c,d,f,i,k,l,m⟩:=h.fr.lit;exact⟨g,rfl,b,c,d,f,i,k,l,m,jf h.a17⟩
def idx17(a:Act):Nat:=3-(intOf<|a.tmps[17]?.getD bJ).toNat
def FrR.idx(h:FrR v B kv sv cn j q e n a):idx17 a=3-n:=by
 have:=h.a17;unfold At at this;simp[idx17,this,intOf]
def vds(m:OV v B kv sv cn j q e a)(n:Hid<|∀a',FrR v B kv sv cn j q e 0 a'->Po .normal a' w):rtA.wp prog Po a w:=by
 obtain⟨g,rfl,k,l,b,c,d,f,h,i⟩:=m.lit;clear m;simp only[FI,k,l,b,c,d,f,h,i];clear k l b c d f h i
 conv=>arg 2;whnf
 go_wp2_with fail
 exact n.o _ ⟨⟨⟨FE rfl,rfl,rfl,rfl,rfl,rfl,rfl⟩,rfl,rfl⟩,rfl⟩
def vdo(m:FrR v B kv sv cn j q 12 0 a)(n:Hid<|∀a',FrR v B kv sv cn j q 12 0 a'->Po .normal a' w):rtT.wp prog Po a w:=by
 obtain⟨g,rfl,k,l,b,c,d,e,f,h,i⟩:=m.lit;clear m;simp only[FI,k,l,b,c,d,e,f,h,i];clear k l b c d e f h i
 conv=>arg 2;whnf
 go_wp2_with fail
 exact n.o _ ⟨⟨⟨FE rfl,rfl,rfl,rfl,rfl,rfl,rfl⟩,rfl,rfl⟩,rfl⟩
def vdf(m:FrR v B kv sv cn j q 0 n a)(o:Hid<|∀a',OV v B kv sv cn j q 0 a'->Po (.exit 3) a' w):rtT.wp prog Po a w:=by
 obtain⟨g,rfl,k,l,b,c,d,e,f,h,i⟩:=m.lit;clear m;simp only[FI,k,l,b,c,d,e,f,h,i];clear k l b c d e f h i
 conv=>arg 2;whnf
 go_wp2_with fail
 exact o.o _ ⟨⟨FE rfl,rfl,rfl,rfl,rfl,rfl,rfl⟩,rfl,rfl⟩
def vdp(m:FrR v B kv sv cn j q 0 n a)(o:Hid<|∀a',FrR v B kv sv cn j q 0 n a'->Po .normal a' w):rtE.wp prog Po a w:=by
 obtain⟨g,rfl,k,l,b,c,d,e,f,h,i⟩:=m.lit;clear m;simp only[FI,k,l,b,c,d,e,f,h,i];clear k l b c d e f h i
 conv=>arg 2;whnf
 go_wp2_with fail
 exact o.o _ ⟨⟨⟨FE rfl,rfl,rfl,rfl,rfl,rfl,rfl⟩,rfl,rfl⟩,rfl⟩
def vdi(n:FrR v B kv sv cn j q e 0 a)(o:Hid<|∀a',FrR v B kv sv cn j q e 1 a'->Po .normal a' w):rtN.wp prog Po a w:=by
 obtain⟨g,rfl,l,m,b,c,d,f,h,i,k⟩:=n.lit;clear n;simp only[FI,l,m,b,c,d,f,h,i,k];clear l m b c d f h i k
 conv=>arg 2;whnf
 go_wp2_with fail
 exact o.o _ ⟨⟨⟨FE rfl,rfl,rfl,rfl,rfl,rfl,rfl⟩,rfl,rfl⟩,rfl⟩
def vae(cv tv:Zv)(lo B:Nat)(v:Zv)(D:List Ac)(w0:Zy)(r:Sr)(s:Jo)(r':Sr)(w1 w:Zy):Prop:=∃r2 s2,jt B r'.shut w1 r2 w/\CrP cv tv lo B v D w0 r2 s2 w/\r.cnt<=r2.cnt/\r2.cnt<=r.cnt+2/\fD s2.L=(if r2.cnt=r.cnt then fD s.L else fD s.now)/\s2.P=[]/\r2.op=r.op+1/\s2.bP=0
def vae.nw{w1 w2:Zy}(h:vae cv tv lo B v D w0 r s r' w1 w)(n:Nw w w2):vae cv tv lo B v D w0 r s r' w1 w2:=by
 obtain⟨d,e,a,b,c⟩:=h;exact⟨d,e,a.trans<|jt.nw a.at_ n,b.nw n,c⟩
def vck(hQ:kT Q)(ha:OV v B kv sv cn j q 12 a)(h:vai cv tv lo B v D w0 r s r' w)(hop:r.op<999)
  (hN:∀a' w',OV v B kv sv cn j q 0 a'->vae cv tv lo B v D w0 r s r' w w'->Q .normal a' w'):Xn bM 6 rtC Q a w:=by
 have HQ:=zl hQ;have HN:=zl hN;clear hN hQ;rw[vdz];refine gG hV HQ.o fun w1 bg W N ba=>vds ha fun a1 bb=>N.o _ _ ?_;have n1:=ji W;clear N ba;refine Xn.block bQ hV ?_;have Z:=Vz HQ.o (id:=3);have b:∀{x:Zy} {t:Nat->Question->Nat} {d:Nat},Nw (re x t d) x:=fun {x t d}=>⟨rfl,rfl,ze _,fun _ _ _=>rfl⟩;have l:∀(x:Zy) (t:Nat->Question->Nat) (d:Nat),Nw x<|re x t d:=fun x t d=>Nw.gL (xb.refl _ _) t d;refine Xn.loop bQ hV (by trivial) (fun a w'=>(FrR v B kv sv cn j q 12 0 a/\Nw w w')\/(FrR v B kv sv cn j q 0 1 a/\vae cv tv lo B v D w0 r s r' w w')) (fun a _=>idx17 a) ?_ _ _<|.inl ⟨bb,n1⟩;rintro a2 w2 X;have hI:∀a w' t d,((FrR v B kv sv cn j q 12 0 a/\Nw w (re w' t d))\/(FrR v B kv sv cn j q 0 1 a/\vae cv tv lo B v D w0 r s r' w (re w' t d)))↔((FrR v B kv sv cn j q 12 0 a/\Nw w w')\/(FrR v B kv sv cn j q 0 1 a/\vae cv tv lo B v D w0 r s r' w w')):=fun a w' t d=>
  ⟨fun h=>h.imp (fun h=>⟨h.1,h.2.trans b⟩) fun h=>⟨h.1,h.2.nw b⟩,fun h=>h.imp (fun h=>⟨h.1,h.2.trans<|l _ t d⟩) fun h=>⟨h.1,h.2.nw<|l _ t d⟩⟩
 have c:=m5 Z (I:=fun a w'=>(FrR v B kv sv cn j q 12 0 a/\Nw w w')\/(FrR v B kv sv cn j q 0 1 a/\vae cv tv lo B v D w0 r s r' w w')) (m:=fun a _=>idx17 a) (a0:=a2) (w0:=w2) hI fun _ _ _ _=>rfl;rcases X with⟨e,n2⟩|⟨e,g2⟩
 ·have bf:=e.idx
  refine gG hV c fun w3 T o p z=>vdo e fun a3 f=>p.o _ _ ?_;have n3:=n2.trans<|ji o;clear p z;refine Xn.seq bQ hV trivial (Xn.block bQ hV ?_);have Y:=Vz (c.dV (P:=bM) (fn:=6) (y:=rtN)) (id:=4);refine Xn.seq bQ hV trivial ?_;obtain⟨g,rfl,e2,e7,C,E,F,G,H,J,K⟩:=f.lit;simp only[FI,e2,e7,C,E,F,G,H,J,K];clear e2 e7 C E F G H J K f
  conv=>arg 3;whnf
  refine Xn.dB bQ hV ?_;refine mZ (val:=zo B) hV ⟨rfl,rfl⟩ ?_;refine Jc.call bQ hV rfl rfl (fun v=>by show(bG _ _).run prog _=_;simp[bG,go_sem,resolve,Act.put]) (bZ rfl Tryz.func13 rfl) ((h.nw n3).cc hop) ?_ ?_;rotate_left;rintro ch w9 ⟨he,_⟩;cases he;rintro v9 w9 ho;obtain⟨he,r2,s2,t2,k⟩:=(h.nw n3).done hop ho;cases he;have g9:vae cv tv lo B v D w0 r s r' w w9:=⟨r2,s2,(jt.nw h.st n3).trans t2,k⟩;clear ho t2 k;refine mZ (val:=zi 0) hV ⟨rfl,rfl⟩ ?_;refine Jc.nil bQ hV ?_;show Xn bM 6 rtE _ _ w9;simp only[Act.put,xv,Zz,Z9];refine mY hV Y fun bc bd L O=>?_;refine vdp (v:=v) (B:=B) (kv:=kv) (sv:=sv) (cn:=cn) (j:=j) (q:=q) (n:=0) ⟨⟨⟨FE rfl,rfl,rfl,rfl,rfl,rfl,rfl⟩,rfl,rfl⟩,rfl⟩ fun U S=>O.o .normal _ _ ?_;show Xn bM 6 rtN _ U bc;refine mY hV c fun bh be M R=>vdi S fun V i=>R.o .normal _ _ ⟨.inr ⟨i,(g9.nw<|ji L).nw<|ji M⟩, ?_⟩;have:=i.idx;show idx17 V<idx17 a2;omega
 refine gG hV c fun w3 T o p z=>vdf e fun a3 f=>z.o _ _ _ (by simp) ?_;show(if 3=3 then _ else _);rw[aA rfl];exact HN.o a3 w3 f<|g2.nw<|ji o
structure LpP(cv tv:Zv)(lo B:Nat)(v:Zv)(D:List Ac)(w0:Zy)(kv sv:Zv)(cn j:Nat)(w:Zy):Prop where
 ex:∃r s,CrP cv tv lo B v D w0 r s w/\r.cnt=cn/\r.op<=2+2*j/\s.bP<=(j:Int)/\qW w kv (fD s.L)/\qW w sv (fD s.now)
 c31:cn<=31
 j1:j<=D.length
 j2:j<=300
def LpP.nw{w1:Zy}(h:LpP cv tv lo B v D w0 kv sv cn j w)(n:Nw w w1):LpP cv tv lo B v D w0 kv sv cn j w1:=by
 obtain⟨r,s,a,b,c,d,e,f⟩:=h.ex;exact⟨⟨r,s,a.nw n,b,c,d,e.but n fun _ _ _=>id,f.but n fun _ _ _=>id⟩,h.c31,h.j1,h.j2⟩
def vac{l:KV}(h:qW w kv l):∃p n c,kv= .slice p n c:=by obtain⟨p,g,c,h,_⟩:=h;exact⟨p,_,c,h⟩
def vaj(h:s.P=[]):s.now=s.L:=by unfold Jo.now;rw[h];rfl
def vec{kd e:Int}{Kl Sl:KV}(n:kT Q)(ha:OV v B kv sv cn j q e a)(hx:xx w q #[zi kd,zi N,zi M,zs S,zs T] 39)(h:CrP cv tv lo B v D w0 r s w)(bl:cn<=r.cnt)(hK:qW w kv Kl)(hS:qW w sv Sl)
  (be:kd=5\/kd=6\/kd=7\/kd=8->s.P=[]/\fD s.L=(if r.cnt=cn then Kl else Sl))(bc:¬(kd=5\/kd=6\/kd=7\/kd=8)->r.cnt=cn/\Kl=fD s.L/\Sl=fD s.now)
  (hN:∀a' w' kv' sv',FrC v B kv' sv' r.cnt j a'->Nw w w'->qW w' kv' (fD s.L)->qW w' sv' (fD s.now)->Q .normal a' w'):Xn bM 6 tlC Q a w:=by
 obtain⟨pk,nk,ck,bb⟩:=vac hK;obtain⟨ps,ns,cs,bd⟩:=vac hS;rw[vdg];refine gG hV n fun w1 bf t U bi=>vdh ha (h.st.nw<|ji t) fun a1 Y=>U.o _ _ ?_;have n1:=ji t;refine gG hV n fun w2 bg O V bj=>vdm Y bb bd fun a2 Z=>V.o _ _ ?_;have n2:=n1.trans<|ji O;refine Xn.seq bQ hV trivial ?_;refine gG hV n.dV fun w3 bh x W bk=>vcz Z (hx.nw<|n2.trans<|ji x) fun a3 C d=>W.o _ _ ?_;have G:=n2.trans<|ji x;have y:qW w3 kv Kl:=hK.but G fun _ _ _=>id;have z:qW w3 sv Sl:=hS.but G fun _ _ _=>id;have ev:a3.eval (.tmp 188)= .bool (decide (kd=5\/kd=6\/kd=7\/kd=8)):=by
  unfold At at d;simp[Act.eval,d]
 refine Xn.cond bQ hV ev ?_;by_cases hk:kd=5\/kd=6\/kd=7\/kd=8;obtain⟨hP,hL⟩:=be hk;rw[decide_eq_true hk,aA rfl];have b:=vaj hP;have F:qW w3 (if r.cnt=cn then kv else sv)<|fD s.L:=by
  rw[hL];split;exact y;exact z
 have h3:=h.nw G;refine mY hV n.dV fun w4 H f k=>?_;have n4:=ji f;have I:=h.inv.inv;refine vcr (l:=fD s.L) C (h3.st.nw n4) h.sn (by rw[hP];simp) (fun p hp=>by have:=TF I p hp;omega) (by have:=EP I;omega) (F.but n4 fun _ _ _=>id) (by rw[b];exact(KN _).symm) (fun i hi=>by
  have:=D8 (r:=r.off) I h.sn i (by rw[b];exact hi);have h9:r.off.gets (fD s.L)[i].1=((fD s.L)[i].2,0):=by simpa[b]using this
  exact h9) fun a5 w5 ba n5=>k.o .normal _ _ ?_
 show Xn bM 6 tCd Q a5 w5;refine mY hV n fun w6 J g m=>vcg ba fun K c=>m.o .normal _ _ ?_;have o:=(n4.trans n5).trans<|ji g;have E:=F.but o fun _ _ _=>id;exact hN K w6 _ _ c (G.trans o) E (by rw[b];exact E);obtain⟨hc,R,X⟩:=bc hk;rw[decide_eq_false hk,aB<|by simp];refine mY hV n.dV fun w4 H f k=>wp_skip<|k.o .normal _ _ ?_;show Xn bM 6 tCd Q a3 w4;refine mY hV n fun w6 J g m=>vcg C fun K c=>m.o .normal _ _ ?_;have o:=(ji f).trans<|ji g;rw[aA hc]at c;exact hN K w6 _ _ c (G.trans o) (by rw[<-R];exact y.but o fun _ _ _=>id)<|by rw[<-X];exact z.but o fun _ _ _=>id
end
end
end P
namespace P
open A.Tryq Go.RowKit A
def pickF(c:Int)(n:Nat):Nat:=if c<0 then(-(c+1)).toNat%n else c.toNat%n
def pickF_lt(c:Int){n:Nat}(a:0<n):pickF c n<n:=by
 unfold pickF;split<;>exact Nat.mod_lt _ a
def pick_is(c:Int)(n:Nat)(i:0<n)(f:n<=100000)(g:-9223372036854775808<=c)(h:c<=9223372036854775807)(w:Zy):
  bE prog 22 #[zi c,zi n] w fun en w'=>en= .returned (zi (pickF c n:Nat))/\w'=w:=by
 by_cases d:c<0
 ·have e:-((c+1).tmod (n:Int))=((pickF c n:Nat):Int):=by
   unfold pickF;obtain⟨m,b⟩:∃m:Nat,-(c+1)=m:=⟨(-(c+1)).toNat,by omega⟩;rw[aA d,b,Wt,show c+1= -(m:Int) by omega,Int.neg_tmod,Int.neg_neg,Js<|by omega];rfl
  have a:=zl e;clear e;go_enter func22.1,Tryz.ntmps22
  go_wp2
  go_ret
  exact⟨congrArg (fun z:Int=>Ending.returned<|zi z) a.o,rfl⟩
 have e:c%(n:Int)=((pickF c n:Nat):Int):=by
  unfold pickF;obtain⟨m,b⟩:∃m:Nat,c=m:=⟨c.toNat,by omega⟩;rw[aB d,b,Wt];rfl
 have a:=zl e;clear e;go_enter func22.1,Tryz.ntmps22
 go_wp2
 go_ret
 exact⟨congrArg (fun z:Int=>Ending.returned<|zi z) a.o,rfl⟩
variable [pn:A.Pn]
attribute [local go_sem] xe zv
noncomputable def sw5:=Qa sz4
noncomputable def ops39:Array Oper:=match sz4 with
 | .seq _ (.cond _ (.region _ x _) _)=>x
 |_=>#[]
def vdr:sz4= .seq sw5 (.cond (.tmp 139) (.region 39 ops39 bL) .skip):=by kernel_rfl
def vcq:ops39=#[⟨bO 141,.move<|.tmp 7,26,"stores.go:270",#[],bN⟩,⟨bO 142,.fieldAddr 39 (.tmp 14) 1,0,"stores.go:270",#[],bN⟩,⟨bO 143,.load 3<|.tmp 142,3,"stores.go:270",#[⟨1,.data⟩],bN⟩,⟨bO 144,.call ⟨.value<|.func 22,#[.tmp 143,.const<|zi 8],#[3,3]⟩,3,"stores.go:270",#[⟨2,.data⟩],bN⟩,⟨bO 145,.fieldAddr 39 (.tmp 14) 2,0,"stores.go:270",#[],bN⟩,⟨bO 146,.load 3<|.tmp 145,3,"stores.go:270",#[⟨4,.data⟩],bN⟩,⟨bO 147,.call ⟨.value<|.func 22,#[.tmp 146,.const<|zi 200],#[3,3]⟩,3,"stores.go:270",#[⟨5,.data⟩,⟨3,.chain⟩],bN⟩,⟨bO 148,.call ⟨.value<|.func 21,#[.tmp 141,.tmp 144,.tmp 147],#[26,3,3]⟩,33,"stores.go:270",#[⟨0,.data⟩,⟨3,.data⟩,⟨6,.data⟩,⟨6,.chain⟩],bN⟩]:=by kernel_rfl
def ord39:TG ops39=bL:=by kernel_rfl
def size39:ops39.size=8:=by kernel_rfl
section
variable {cv tv:Value} {lo B j cn q:Nat} {v kv sv:Value} {D:List Ac} {w0 w w1:World} {a:Act} {r:Sr} {s:Jo} {N M:Int} {S T:List UInt8} {Q:Exit->Act->World->Prop} {l:Array Bool}
def OV.put{e:Int}(h:OV v B kv sv cn j q e a){t:Nat}(o:15<t)(u:Zv):OV v B kv sv cn j q e<|a.put (bO t) u:=by
 obtain⟨⟨⟨g,l⟩,m,n,b,c,d,f⟩,i,k⟩:=h;refine⟨⟨?_,m.put (by omega) _,n.put (by omega) _,b.put (by omega) _,c.put (by omega) _,d.put (by omega) _,f.put (by omega) _⟩,i.put (by omega) _,k.put (by omega) _⟩;subst l;exact FE<|by simp[FI]
def vax{x y:Zy}{t:Nat->Question->Nat}{d:Nat}(h:kE x<|re y t d):kE x y:=by
 obtain⟨c,b,a⟩:=h;exact⟨y.tape,y.drawn,by have:=congrArg (fun z=>re z y.tape y.drawn) a;simpa[vK,KX]using this⟩
structure J39(v:Zv)(B:Nat)(kv sv:Zv)(cn j q:Nat)(r:Sr)(N M:Int)(S T:Zl)(w:Zy)(l:Array Bool)(a:Act)(w1:Zy):Prop where
 fr:OV v B kv sv cn j q 0 a
 n7:¬l[7]?=bO bL->Nw w w1
 l7:Li l 7<|∃b,jt B r w (r.arm b (pickF N 8:Nat) (pickF M 200:Nat)) w1
 X:xx w1 q #[zi 9,zi N,zi M,zs S,zs T] 39
 T:Tb [(0,141,zo B),(1,142,zk q 1),(2,143,zi N),(3,144,zi (pickF N 8:Nat)),(4,145,zk q 2),(5,146,zi M),(6,147,zi (pickF M 200:Nat))] l a
def OV.sz{e:Int}(h:OV v B kv sv cn j q e a):a.tmps.size=227/\a.defers=[]:=by
 obtain⟨g,b⟩:=h.fr.lt;subst b;exact⟨by simp[FI],rfl⟩
def J39.mv(J:J39 v B kv sv cn j q r N M S T w l a w1){i t:Nat}{u:Zv}(d:i<7)(e:t=i+141)(c:∀x∈[(0,141,zo B),(1,142,zk q 1),(2,143,zi N),(3,144,zi (pickF N 8:Nat)),(4,145,zk q 2),(5,146,zi M),(6,147,zi (pickF M 200:Nat))],(x.2.1≠t/\x.1≠i)\/x=(i,t,u)):J39 v B kv sv cn j q r N M S T w (l.setIfInBounds i bL) (a.put (bO t) u) w1:=
 ⟨J.fr.put (by omega) _,fun h=>J.n7 fun b=>h<|Vo b,J.l7.next (by omega) id,J.X,J.T.put J.fr.sz.1 (by omega) c⟩
def J39.eqv{w2:Zy}(J:J39 v B kv sv cn j q r N M S T w l a w1)(e:kE w1 w2):J39 v B kv sv cn j q r N M S T w l a w2:=by
 have n:=ji e;exact⟨J.fr,fun h=>(J.n7 h).trans n,fun h=>(J.l7 h).imp fun b x=>x.trans<|jt.nw x.at_ n,J.X.nw n,J.T⟩
def vdu(K:OV v B kv sv cn j q 0 a)(hx:xx w q #[zi 9,zi N,zi M,zs S,zs T] 39)(h:Jq w B r)(U:¬r.own B q)(p:i64 N/\i64 M)
  (I:∀a' w' b x y,x<8->y<200->OV v B kv sv cn j q 0 a'->jt B r w (r.arm b (x:Nat) (y:Nat)) w'->Q .normal a' w'):Xn bM 6 (.region 39 ops39 bL) Q a w:=by
 refine Xn.inv bQ hV (by kernel_rfl) ord39 (J39 v B kv sv cn j q r N M S T w) ⟨K,fun _=>xb.refl _ _,Li.none,hx,Tb.none⟩ (fun l a w1 J E=>?_) ?_;obtain⟨b,L⟩:=J.l7 (E 7<|by rw[size39];decide);exact I a w1 b _ _ (pickF_lt _<|by decide) (pickF_lt _<|by decide) J.fr L;intro l a w1 i o J V c E hd;have g:=c;rw[vcq]at c;have a7:a.tmps[7]?=bO _:=J.fr.fr.a7;have a14:a.tmps[14]?=bO _:=J.fr.a14
 match i,c with
 |0,c=>
  obtain rfl:=jf c;refine oX.value (val:=zo B) (w':=w1) bQ hV g rfl (fun t k=>⟨t,k, ?_⟩) (J.mv (by decide) rfl<|by simp);show(bG a.eval _).run prog (re w1 t k)=_;simp[bG,go_sem,a7]
 |1,c=>
  obtain rfl:=jf c;refine oX.value (val:=zk q 1) (w':=w1) bQ hV g rfl (fun t k=>⟨t,k, ?_⟩) (J.mv (by decide) rfl<|by simp);show(bG a.eval _).run prog (re w1 t k)=_;simp[bG,go_sem,a14]
 |2,c=>
  obtain rfl:=jf c;have e0:a.tmps[142]?=bO _:=J.T (1,142,zk q 1) (by simp)<|hd ⟨1,.data⟩ (by simp) rfl;refine oX.value (val:=zi N) (w':=w1) bQ hV g rfl (fun t k=>⟨t,k, ?_⟩) (J.mv (by decide) rfl<|by simp);show(bG a.eval _).run prog (re w1 t k)=_;have D:(re w1 t k).cell? (zq q 1)=bO (zi N):=J.X.cell 1 rfl;simp[bG,go_sem,e0,D]
 |3,c=>
  obtain rfl:=jf c;have e0:a.tmps[143]?=bO _:=J.T (2,143,zi N) (by simp)<|hd ⟨2,.data⟩ (by simp) rfl;refine oX.call (R:=fun e w'=>e= .returned (zi (pickF N 8:Nat))/\kE w1 w') bQ hV J.fr.sz.2 g rfl (f:=22) (args:=#[zi N,zi 8]) (fun v=>?_) (bZ rfl Tryz.func22 rfl) (UM rfl (by decide) Tryz.func22 rfl (fun e w t d h=>⟨h.1,vax h.2⟩) (fun w' h=>by cases h.1) fun t d=>(pick_is N 8 (by decide) (by decide) p.1.1 p.1.2<|re w1 t d).mono fun e w' h=>⟨h.1,by rw[h.2];exact⟨t,d,rfl⟩⟩) ?_ ?_
  ·show(bG a.eval _).run prog v=_
   simp[bG,go_sem,resolve,e0]
  rintro v C ⟨e,s⟩;cases e;exact(J.eqv s).mv (by decide) rfl (by simp);rintro ch C ⟨e,s⟩;cases e
 |4,c=>
  obtain rfl:=jf c;refine oX.value (val:=zk q 2) (w':=w1) bQ hV g rfl (fun t k=>⟨t,k, ?_⟩) (J.mv (by decide) rfl<|by simp);show(bG a.eval _).run prog (re w1 t k)=_;simp[bG,go_sem,a14]
 |5,c=>
  obtain rfl:=jf c;have e0:a.tmps[145]?=bO _:=J.T (4,145,zk q 2) (by simp)<|hd ⟨4,.data⟩ (by simp) rfl;refine oX.value (val:=zi M) (w':=w1) bQ hV g rfl (fun t k=>⟨t,k, ?_⟩) (J.mv (by decide) rfl<|by simp);show(bG a.eval _).run prog (re w1 t k)=_;have D:(re w1 t k).cell? (zq q 2)=bO (zi M):=J.X.cell 2 rfl;simp[bG,go_sem,e0,D]
 |6,c=>
  obtain rfl:=jf c;have e0:a.tmps[146]?=bO _:=J.T (5,146,zi M) (by simp)<|hd ⟨5,.data⟩ (by simp) rfl;refine oX.call (R:=fun e w'=>e= .returned (zi (pickF M 200:Nat))/\kE w1 w') bQ hV J.fr.sz.2 g rfl (f:=22) (args:=#[zi M,zi 200]) (fun v=>?_) (bZ rfl Tryz.func22 rfl) (UM rfl (by decide) Tryz.func22 rfl (fun e w t d h=>⟨h.1,vax h.2⟩) (fun w' h=>by cases h.1) fun t d=>(pick_is M 200 (by decide) (by decide) p.2.1 p.2.2<|re w1 t d).mono fun e w' h=>⟨h.1,by rw[h.2];exact⟨t,d,rfl⟩⟩) ?_ ?_
  ·show(bG a.eval _).run prog v=_
   simp[bG,go_sem,resolve,e0]
  rintro v C ⟨e,s⟩;cases e;exact(J.eqv s).mv (by decide) rfl (by simp);rintro ch C ⟨e,s⟩;cases e
 |7,c=>
  obtain rfl:=jf c;have e0:a.tmps[141]?=bO _:=J.T (0,141,zo B) (by simp)<|hd ⟨0,.data⟩ (by simp) rfl;have G:a.tmps[144]?=bO _:=J.T (3,144,zi (pickF N 8:Nat)) (by simp)<|hd ⟨3,.data⟩ (by simp) rfl;have H:a.tmps[147]?=bO _:=J.T (6,147,zi (pickF M 200:Nat)) (by simp)<|hd ⟨6,.data⟩ (by simp) rfl;have n1:=J.n7 (by rw[E];simp);refine oX.call (R:=fun e w'=>e= .returned (zi 0)/\∃b,jt B r w1 (r.arm b (pickF N 8:Nat) (pickF M 200:Nat)) w') bQ hV J.fr.sz.2 g rfl (f:=21) (args:=#[zo B,zi (pickF N 8:Nat),zi (pickF M 200:Nat)]) (fun v=>?_) (bZ rfl Tryz.func21 rfl) (UM rfl (by decide) Tryz.func21 rfl (fun e w t d h=>⟨h.1,h.2.imp fun b x=>x.re⟩) (fun w' h=>by cases h.1) fun t d=>(vbd B r (pickF N 8) (pickF M 200) (re w1 t d)<|(h.nw n1).nw<|Nw.gL (xb.refl _ _) t d).mono fun e w' F=>⟨F.1,F.2.imp fun b x=>(jt.nw (h.nw n1)<|Nw.gL (xb.refl _ _) t d).trans x⟩) ?_ ?_
  ·show(bG a.eval _).run prog v=_
   simp[bG,go_sem,resolve,e0,G,H]
  ·rintro v C ⟨e,b,z⟩
   cases e;refine⟨J.fr.put (by decide) _,fun O=>absurd (cT (n:=8) (by rw[V,size39])<|by decide) O,.now ⟨b,(jt.nw h n1).trans z⟩,J.X.but z.but U,fun x m=>(J.T x m).next ?_ fun y=>y.put ?_ _⟩;simp only[xf,Vy,or_false]at m;rcases m with rfl|rfl|rfl|rfl|rfl|rfl|rfl<;>simp
   simp only[xf,Vy,or_false]at m;rcases m with rfl|rfl|rfl|rfl|rfl|rfl|rfl<;>simp
  rintro ch C ⟨e,s⟩;cases e
 |i+8,c=>simp at c
def vch(hQ:kT Q)(ha:OV v B kv sv cn j q 0 a)(hx:xx w q #[zi 9,zi N,zi M,zs S,zs T] 39)(h:Jq w B r)(hq:¬r.own B q)(J:i64 N/\i64 M)
  (hN:∀a' w' b x y,x<8->y<200->OV v B kv sv cn j q 0 a'->jt B r w (r.arm b (x:Nat) (y:Nat)) w'->Q .normal a' w'):Xn bM 6 swC Q a w:=by
 obtain⟨g,rfl,Y,Z,d,e,f,i,k,l⟩:=ha.lit;have c:=zl hQ;have X:=zl hx;have W:=zl h;have HN:=zl hN;clear ha hx h hN hQ;simp only[FI,Y,Z,d,e,f,i,k,l];clear Y Z d e f i k l;rw[vcl];refine gG hV c.o fun v0 ba m n K=>?_;have c0:v0.cell? (zq q 0)=bO (zi 9):=(X.o.nw<|ji m).cell 0 rfl;have M0:Hid<|Nw w v0:=ji m;clear K
 conv=>arg 2;whnf
 go_wp2_with fail
 refine n.o _ _ ?_;clear n c0;refine Xn.block bQ hV ?_;refine gG hV (Vz c.o) fun v1 bb E o L=>?_;have M1:Hid<|Nw w v1:=M0.o.trans<|ji E;clear L
 conv=>arg 2;whnf
 go_wp2_with fail
 refine o.o _ _ ?_;clear o;refine Xn.cond bQ hV rfl ?_;simp only[xu,if_false];refine gG hV (Vz c.o) fun v2 bc F p O=>?_;have M2:Hid<|Nw w v2:=M1.o.trans<|ji F;clear O
 conv=>arg 2;whnf
 go_wp2_with fail
 refine p.o _ _ ?_;clear p;refine Xn.cond bQ hV rfl ?_;simp only[xu,if_false];refine gG hV (Vz c.o) fun v3 bd G s R=>?_;have M3:Hid<|Nw w v3:=M2.o.trans<|ji G;clear R
 conv=>arg 2;whnf
 go_wp2_with fail
 refine s.o _ _ ?_;clear s;refine Xn.cond bQ hV rfl ?_;simp only[xu,if_false];refine gG hV (Vz c.o) fun v4 be H z U=>?_;have M4:Hid<|Nw w v4:=M3.o.trans<|ji H;clear U
 conv=>arg 2;whnf
 go_wp2_with fail
 refine z.o _ _ ?_;clear z;refine Xn.cond bQ hV rfl ?_;simp only[xu,if_false];rw[vdr];refine gG hV (Vz c.o) fun v5 bf I C V=>?_;have D:Hid<|Nw w v5:=M4.o.trans<|ji I;clear V
 conv=>arg 2;whnf
 go_wp2_with fail
 refine C.o _ _ ?_;clear C;refine Xn.cond bQ hV rfl ?_;simp only[if_true];refine vdu (v:=v) (B:=B) (kv:=kv) (sv:=sv) (cn:=cn) (j:=j) (q:=q) ⟨⟨FE rfl,rfl,rfl,rfl,rfl,rfl,rfl⟩,rfl,rfl⟩ (X.o.nw D.o) (W.o.nw D.o) hq J fun a' w' b x y hx hy fr t=>?_;exact HN.o a' w' b x y hx hy fr<|(jt.nw W.o D.o).trans t
end
end P
namespace P
open A.Tryq Go.RowKit A
variable [pn:A.Pn]
section
variable {cv tv:Value} {lo B j cn q:Nat} {v kv sv:Value} {D:List Ac} {w0 w:World} {a:Act} {r r':Sr} {s:Jo} {Q:Exit->Act->World->Prop}
def CrP.wrt(h:CrP cv tv lo B v D w0 r s w)(q:r.cnt<=38)(l:s.bP<999)(kd:Int):bE prog 19 #[zo B,zi kd] w<|I8 B r (r.wrt s kd) w:=by
 have I:=h.inv.inv;have c:s.ep<=1000000:=by have:=I.ep;omega
 have k:∀x,r.own B x->4<x:=fun x i=>by have:=h.own x i;have:=h.l4;omega
 have f:∀a,r.bW s=(bO 0,a)->fV B a/\IL a (r.ses1 s)/\(r.ses1 s).bP=s.bP:=fun a e=>by
  rcases h.inv.sync h.sn (by omega)with⟨p,g,d,_,_,j⟩|⟨p,g,_⟩;have b:=g;rw[e]at b;cases b;exact⟨d.inv.vee d.sn fun x i=>k x<|vca h.sn e i,d.inv,j⟩;rw[g]at e;cases e
 refine vbn B r s kd w (vbe B r s w h.st h.sn h.ok h.wC h.two h.own I.P) (vbq B r s w h.st h.sn h.ok (fun a e=>(f a e).1) h.wC h.two h.own I.P c)<|vau B r s w h.st h.sn h.ok (fun a e=>?_) h.wC h.two h.own I.P c;obtain⟨m,n,t⟩:=f a e;have I1:=n.inv;have y:a.d.L.length<=a.cnt+2:=I1.few;have z:a.cnt<=40:=I1.cnt;have C:(r.ses1 s).L.length<=20*a.cnt:=I1.len;have E:(qu a.d.L<|Ye (r.ses1 s).named).length<=60000:=I1.jD _;have o:=I1.sh0;exact⟨m,by omega,I1.sK,by omega,o,by omega,by omega⟩
def vbc(I:Wy r s)(c:dM):fD (app1 s.now c)=(match c with| .put k v=>Vc (fD s.now) k v bK| .del k=>Vc (fD s.now) k [] bL):=by
 cases c with
 |put k v=>exact xoi I.oN k v
 |del k=>exact xoh I.oN k []
def vda(hQ:kT Q)(ha:FrC v B kv sv cn j a)(h:LpP cv tv lo B v D w0 kv sv cn j w)(h1:j<D.length)(h2:j<300)(h3:cn<30)
  (hN:∀a' w' kv' sv' cn',FrC v B kv' sv' cn' j a'->LpP cv tv lo B v D w0 kv' sv' cn' (j+1) w'->Q .normal a' w'):Xn bM 6 mdC Q a w:=by
 obtain⟨r,s,hC,b6,cm,co,hK,hS⟩:=h.ex;rw[vdy];refine gG hV hQ fun w1 ce bn b0 ch=>vdb ha (hC.nw<|ji bn).al h1 fun a2 w2 b7 bx ca cl bh=>b0.o _ _ ?_;have C:¬r.own B w1.heap.size:=fun hx=>by have:=Sr.bX (hC.nw<|ji bn).st hx;omega
 have bp:=hC.al.bnd j h1;generalize D[j]=x at bh bp;generalize w1.heap.size=q at*;have n2:=(ji bn).trans ca;refine gG hV hQ fun w3 cf br b1 ci=>vcw b7 bx fun a3 X=>b1.o _ _ ?_;have n3:=n2.trans<|ji br;have G:=hC.nw n3;have K3:qW w3 kv<|fD s.L:=hK.but n3 fun _ _ _=>id;have S3:qW w3 sv<|fD s.now:=hS.but n3 fun _ _ _=>id;have W:xx w3 q #[zi x.kd,zi x.N,zi x.M,zs x.S,zs x.T] 39:=bh.nw<|ji br;have tl:∀a4 i e sv' Kl Sl d m,OV v B kv sv' cn j q e a4->xx i q #[zi x.kd,zi x.N,zi x.M,zs x.S,zs x.T] 39->CrP cv tv lo B v D w0 d m i->cn<=d.cnt->d.cnt<=cn+2->d.op<=2+2*(j+1)->m.bP<=((j+1:Nat):Int)->qW i kv Kl->qW i sv' Sl->(x.kd=5\/x.kd=6\/x.kd=7\/x.kd=8->m.P=[]/\fD m.L=(if d.cnt=cn then Kl else Sl))->(¬(x.kd=5\/x.kd=6\/x.kd=7\/x.kd=8)->d.cnt=cn/\Kl=fD m.L/\Sl=fD m.now)->Xn bM 6 tlC Q a4 i:=fun a4 i e sv' Kl Sl d m f4 b4 c4 F Y g3 g4 k4 t4 z1 z2=>
  vec hQ f4 b4 c4 F k4 t4 z1 z2 fun a' w' kv' bw fr n k t=>hN a' w' kv' bw d.cnt fr ⟨⟨d,m,c4.nw n,rfl,g3,g4,k,t⟩,by omega,by omega,by omega⟩
 have fin:∀a4 i e sv' Kl Sl d m,e≠12->OV v B kv sv' cn j q e a4->xx i q #[zi x.kd,zi x.N,zi x.M,zs x.S,zs x.T] 39->CrP cv tv lo B v D w0 d m i->cn<=d.cnt->d.cnt<=cn+2->d.op<=2+2*(j+1)->m.bP<=((j+1:Nat):Int)->qW i kv Kl->qW i sv' Sl->(x.kd=5\/x.kd=6\/x.kd=7\/x.kd=8->m.P=[]/\fD m.L=(if d.cnt=cn then Kl else Sl))->(¬(x.kd=5\/x.kd=6\/x.kd=7\/x.kd=8)->d.cnt=cn/\Kl=fD m.L/\Sl=fD m.now)->Xn bM 6 (.seq rtC tlC) Q a4 i:=fun a4 i e sv' Kl Sl d m e4 f4 b4 c4 F Y g3 g4 k4 t4 z1 z2=>by
  refine gG hV hQ fun E cg bz b2 cj=>vbp e4 f4 fun p b8=>b2.o _ _ ?_;have n5:=ji bz;exact tl p E e sv' Kl Sl d m b8 (b4.nw n5) (c4.nw n5) F Y g3 g4 (k4.but n5 fun _ _ _=>id) (t4.but n5 fun _ _ _=>id) z1 z2
 have I:=hC.inv.inv;have bg:=I.P20;have bi:(fD s.now).length<=100000:=by rw[KZ];have:=EP I;omega
 have bj:r.op<999:=by omega
 have bk:s.bP<999:=by omega
 obtain⟨kd,xN,xM,xS,xT⟩:=x;simp only at W tl fin bp;have bq:∀(i E U:Zy) (ok:Bool) (c:dM) (e:Int) (d:Sr) (p:Act) (sv':Zv),(ok=bL->mF c)->¬(kd=5\/kd=6\/kd=7\/kd=8)->Nw w3 i->OV v B kv sv' cn j q e p->jt B r i d E->Nw E U->r.awaits ok c e d->(e=0->qW U sv' (fD<|app1 s.now c))->(e≠0->sv'=sv)->Xn bM 6 (.seq rtC tlC) Q p U:=fun i E U ok c e d p sv' cb bu f H g n6 bb bc bd=>by
  obtain⟨m,k1,k2,k3,k4,k5,k6,k7,k8,k9⟩:=G.inv.awaits G.sn bb cb;have V:=G.nw f;have P5:=(V.to g k1 k2).nw n6;have bs:qW U kv<|fD s.L:=(jt.psl V.st g<|K3.but f fun _ _ _=>id).but n6 fun _ _ _=>id;have bt:=(vaa (W.nw f) g.but C).nw n6;by_cases e0:e=0;exact fin p U e sv' (fD s.L) (fD<|app1 s.now c) d m k3 H bt P5 (by omega) (by omega) (by omega) (by omega) bs (bc e0) (fun z=>absurd z bu) fun _=>⟨by omega,by rw[k4],by rw[k8 e0]⟩;have e1:=k9 e0;subst e1;have e2:=bd e0;subst e2;have b3:qW U sv'<|fD m.now:=(jt.psl V.st g<|S3.but f fun _ _ _=>id).but n6 fun _ _ _=>id;exact fin p U e sv' (fD m.L) (fD m.now) d m k3 H bt P5 (by omega) (by omega) (by omega) (by omega) bs b3 (fun z=>absurd z bu) fun _=>⟨by omega,rfl,rfl⟩
 by_cases k1:kd=1;subst k1;refine gG hV hQ fun i bm J K bo=>?_;have f:=ji J;refine vdl (l:=fD s.now) X (W.nw f) (G.nw f).st C hC.sn bg (S3.but f fun _ _ _=>id) bi fun p E U e sv' d H g n6 bb bc bd=>K.o _ _<|bq i E U _ _ e d p sv' (fun z=>xru (del:=bK) (S:=xS) (T:=xT)<|by simpa using z) (by decide) f H g n6 bb (fun z=>by rw[vbc I];exact bc z) bd;by_cases k2:kd=2;subst k2;refine gG hV hQ fun i bm J K bo=>?_;have f:=ji J;refine vdx (l:=fD s.now) X (W.nw f) (G.nw f).st C hC.sn bg (S3.but f fun _ _ _=>id) bi fun p E U e sv' d H g n6 bb bc bd=>K.o _ _<|bq i E U _ _ e d p sv' (fun z=>xru (del:=bL) (S:=xS) (T:=[])<|by simp[z,iW]) (by decide) f H g n6 bb (fun z=>by rw[vbc I];exact bc z) bd;by_cases bv:kd=5\/kd=6\/kd=7;have be:kd=5\/kd=6\/kd=7\/kd=8:=by omega
 refine gG hV hQ fun i bm J K bo=>?_;have f:=ji J;have V:=G.nw f;have hw:=V.wrt (by omega) bk kd;have O:=V.inv.wrt (kd:=kd) V.sn (by omega) bk;refine vea bv X (W.nw f) V.st C (by omega) hw (fun o d e=>?_) fun p E e H cd=>K.o _ _ ?_;rcases O with⟨vv,r4,s4,_,F,Y,g3,g4⟩|⟨r4,F,Y,g4⟩
 rw[F]at e;cases e;have:=Y.ge;have:=Y.le;exact⟨by omega,by omega,fun _ z=>by have:=g4 z;omega⟩;rw[F]at e;cases e;have:=Y.ge;have:=Y.le;exact⟨by omega,by omega,fun _ z=>by have:=g4 z;omega⟩;have ba:∀{R:Sr},jt B r i R E->qW E kv (fD s.L)/\qW E sv (fD s.now)/\xx E q #[zi kd,zi xN,zi xM,zs xS,zs xT] 39:=fun g=>
  ⟨jt.psl V.st g<|K3.but f fun _ _ _=>id,jt.psl V.st g<|S3.but f fun _ _ _=>id,vaa (W.nw f) g.but C⟩
 rcases cd with⟨vv,d,F,Y,g⟩|⟨d,F,Y,g⟩;cases Y;rcases O with⟨v2,r4,s4,bl,y1,Z,y3,y4⟩|⟨r4,y1,Z,y4⟩;rw[y1]at F;cases F;obtain⟨z1,z2,z3⟩:=ba g;have:=Z.ge;have:=Z.le;have:=Z.keep.op;refine fin p E e sv (fD s.L) (fD s.now) d s4 bl H z3 (V.to g Z.sn Z.inv) (by omega) (by omega) (by omega) (by omega) z1 z2 (fun _=>⟨Z.P, ?_⟩) fun z=>absurd be z;rw[Z.L];split
 rename_i y
 rw[Z.same<|by omega];rfl;rfl;rw[y1]at F;cases F;cases Y;rcases O with⟨v2,r4,s4,bl,y1,Z,y3,y4⟩|⟨r4,y1,Z,y4⟩
 rw[y1]at F;cases F;rw[y1]at F;cases F;have F5:=V.fel (by omega) Z g;obtain⟨z1,z2,z3⟩:=ba g;have cc:¬d.shut.own B q:=fun hx=>by
  rcases g.own q hx with u|u;exact C u;have:=(W.nw f).lt;omega
 refine Xn.seq bQ hV trivial ?_;refine vck (hQ.dV (P:=bM) (fn:=6) (y:=tlC)) H F5 bj fun a6 U f6 b5=>?_;obtain⟨r6,s6,u1,u2,u3,u4,u5,u6,u7,u8⟩:=b5;show Xn bM 6 tlC Q a6 U;refine tl a6 U 0 sv (fD s.L) (fD s.now) r6 s6 f6 (vaa z3 u1.but cc) u2 (by omega) (by omega) (by omega) (by omega) (jt.psl F5.st u1 z1) (jt.psl F5.st u1 z2) (fun _=>⟨u6, ?_⟩) fun z=>absurd be z;rw[u5,b6];by_cases k8:kd=8;subst k8;refine Xn.seq bQ hV trivial ?_;obtain⟨pk,nk,ck,b9⟩:=vac K3;refine vbz (hQ.dV (P:=bM) (fn:=6) (y:= .seq rtC tlC)) X W G C bj b9 fun p E r5 s5 H g p5 u1 u2 u3 u4 u5=>?_;show Xn bM 6 (.seq rtC tlC) Q p E;have ba:=jt.psl G.st g K3;refine fin p E 0 kv (fD s.L) (fD s.L) r5 s5 (by decide) H (vaa W g.but C) p5 (by omega) (by omega) (by omega) (by omega) ba ba (fun _=>⟨u3, ?_⟩) fun z=>absurd (.inr<|.inr<|.inr rfl) z;rw[u2];split<;>rfl
 have bf:¬(kd=5\/kd=6\/kd=7\/kd=8):=by omega
 by_cases k9:kd=9;subst k9;refine Xn.seq bQ hV trivial ?_;refine vch (hQ.dV (P:=bM) (fn:=6) (y:= .seq rtC tlC)) X W G.st C bp fun p E b x y cp cq H g=>?_;show Xn bM 6 (.seq rtC tlC) Q p E;have P5:=G.to g (show(r.arm b x y).sn=bO s from G.sn) (G.inv.arm (by omega)<|by omega);exact fin p E 0 sv (fD s.L) (fD s.now) (r.arm b x y) s (by decide) H (vaa W g.but C) P5 (by show cn<=r.cnt;omega) (by show r.cnt<=_;omega) (by show r.op<=_;omega) (by omega) (jt.psl G.st g K3) (jt.psl G.st g S3) (fun z=>absurd z bf) fun _=>⟨by show r.cnt=cn;omega,rfl,rfl⟩;refine gG hV hQ fun i bm J K bo=>?_;have f:=ji J;have V:=G.nw f;refine vcy k1 k2 (fun z=>bf<|.inl z) (fun z=>bf<|.inr<|.inl z) (fun z=>bf<|.inr<|.inr<|.inl z) k8 k9 X (W.nw f) fun p H=>K.o _ _ ?_;exact fin p i 0 sv (fD s.L) (fD s.now) r s (by decide) H (W.nw f) V (by omega) (by omega) (by omega) (by omega) (K3.but f fun _ _ _=>id) (S3.but f fun _ _ _=>id) (fun z=>absurd z bf) fun _=>⟨by omega,rfl,rfl⟩
end
end P
namespace P
open A.Tryq Go.RowKit A
variable [pn:A.Pn]
attribute [local go_sem] xe zv
section
variable {t:Nat→Question→Nat}
noncomputable def c15:=Qf Tryz.f15.body
noncomputable def vek:=Qa c15
noncomputable def vef:=Qa<|Qb c15
noncomputable def vei:=Qa<|Qb<|Qb c15
noncomputable def veh:=Qa<|Qn 3 c15
noncomputable def vej:=Qa<|Qn 4 c15
noncomputable def r15:=Qa<|Qn 5 c15
noncomputable def y15:=Qn 6 c15
def vdw:Tryz.f15.body=bO (.seq vek<|.seq vef<|.seq vei<|.seq veh<|.seq vej<|.seq r15 y15):=by kernel_rfl
@[simp]def vem(args:Za)(w:Zy):(callFunc 15 args).run prog w= .ok (.enter 15 args) w:=A.qc Tryz.func15 (args:=args) (w:=w)
def nmc15:¬Mc bM 15:=xO (by decide) (by decide) Tryz.func15
def vdd:OL []:=⟨fM.nil,fun p a=>(Vy a).elim,fun n=>rfl⟩
def U0.crp{cv tv:Zv}{lo lo2 B:Nat}{v:Zv}{D:List Ac}{w0 w w':Zy}{r:Sr}{s:Jo}(h:U0 cv tv lo2 B r s w)(n:Nw w w')(C:lo<=lo2)(o:4<lo)(t:lo<=w0.heap.size)(b:iA cv tv w')(d:Two2 lo cv tv w')(old:xb (fun x=>lo<=x) w0 w')(j:AL lo w' v D):CrP cv tv lo B v D w0 r s w':=by
 have a:=h.inv.nx;have e:r.off=r:=by
  obtain⟨q,p,y,⟨i,z,L,nx⟩,m,k,g,E,sn⟩:=r;have a:nx=bN:=a;subst a;rfl
 refine⟨h.st.nw n,h.sn,⟨by rw[e];exact h.inv,by rw[h.dl];exact vdd,fun c f=>by rw[a]at f;cases f⟩,fun x l=>by have:=h.own x l;omega,o,t,b,d,old,j⟩
def vbb(B:Nat)(r:Sr)(w:Zy)(e:Ending)(w':Zy):Prop:=e= .returned (.bool bL)/\xb (r.own B) w w'
def vcu{B:Nat}{r:Sr}{w w':Zy}{e:Ending}{d:Nat}:vbb B r w e (re w' t d)↔vbb B r w e w':=⟨fun h=>⟨h.1,xb.re h.2⟩,fun h=>⟨h.1,h.2.trans<|(Nw.gL (xb.refl _ _) t d).mono fun _ x=>x.elim⟩⟩
def vci{cv tv:Zv}{lo B:Nat}{v:Zv}{D:List Ac}{w0 w:Zy}{r:Sr}{s:Jo}(h:CrP cv tv lo B v D w0 r s w)(hL:s.L=[])(hP:s.P=[])(hc:r.cnt=0)(hop:r.op=2):
  CC bM 15 #[zo B] w (vbb B r w):=by
 have hQ:kT<|nJ bM funcs Tryz.f15<|vbb B r w:=AO fun e w' t d=>vcu;refine CC.fA bQ nmc15 (bZ rfl Tryz.func15 rfl).1 Tryz.func15 vdw ?_;rw[show Tryz.f15.ntmps=51 from rfl];generalize hPX:nJ bM funcs Tryz.f15 (vbb B r w)=PX at hQ;have J:=zl hQ;have be:=zl hPX;have HC:=zl h;clear hQ hPX h;simp only[jg,zh,jn,Nat.reduceAdd,Nat.reduceSub,qw,qx,Z7,Zi,jk,jc];refine gG nmc15 J.o fun w1 bs bj S bk=>?_;have N1:=zl<|ji bj;clear bk
 conv=>arg 2;whnf
 go_wp2_with fail
 refine S.o _ _ ?_;clear S;refine gG nmc15 J.o fun w2 bt N T bl=>?_;have C2:=zl<|HC.o.nw<|N1.o.trans<|ji N;have N2:Hid<|Nw w w2:=N1.o.trans<|ji N;clear bl
 conv=>arg 2;whnf
 go_wp2_with fail
 refine(vbd B r 1 0 _ C2.o.st).mono ?_;rintro e w3 ⟨rfl,b,j⟩;have C3:Hid<|CrP cv tv lo B v D w0 (r.arm b (1:Nat) (0:Nat)) s w3:=C2.o.to j C2.o.sn (C2.o.inv.arm (by omega)<|by omega);have T3:Hid<|jt B r w (r.arm b (1:Nat) (0:Nat)) w3:=(jt.nw HC.o.st N2.o).trans j;have A3:Hid<|(r.arm b (1:Nat) (0:Nat)).d.nx=bO (b,1,0)/\(r.arm b (1:Nat) (0:Nat)).cnt=0/\(r.arm b (1:Nat) (0:Nat)).op=2:=⟨rfl,hc,hop⟩;clear j C2 hc hop;generalize r.arm b (1:Nat) (0:Nat)=r3 at*
 go_wp2_with fail
 refine T.o _ _ ?_;clear T;refine gG nmc15 J.o fun w4 bu O U bm=>?_;have m:=zl<|C3.o.nw<|ji O;have T4:=zl<|T3.o.trans<|jt.nw T3.o.at_<|ji O;clear bm
 conv=>arg 2;whnf
 go_wp2_with fail
 refine(Dv B r3 [107] [118] _ m.o.st fun t G=>by rw[m.o.sn]at G;cases G;exact m.o.inv.inv.P20).mono ?_;rintro e w5 ⟨aa,l,rfl,k,f⟩;obtain⟨rfl,pv,g⟩:aa=0/\∃pv,l={r3 with sn:=bO<|s.more pv<|.put [107] [118]}:=by
  unfold Sr.awaits at f;rw[m.o.sn]at f;simp only at f;rw[aB<|by decide,aB<|by rw[hP];simp]at f;exact f
 obtain⟨o,n⟩:∃o,o=s.more pv (.put [107] [118]):=⟨_,rfl⟩;have C5:Hid<|CrP cv tv lo B v D w0 l o w5:=by
  obtain⟨s',k1,k2,k3⟩:=m.o.inv.awaits (r':=l) (ok:=bL) (c:= .put [107] [118]) (e:=0) m.o.sn (by rw[g];exact Sr.kV pv m.o.sn<|by rw[hP];simp) fun _=>⟨by simp,by simp,by simp⟩;have e5:s'=o:=by rw[g]at k1;rw[n];exact(jf k1).symm
  subst e5;exact m.o.to k k1 k2
 have T5:=zl<|T4.o.trans k;have C:Hid<|l.d.nx=bO (b,1,0)/\l.cnt=0/\l.op=2/\o.P≠[]/\o.L=[]:=by
  refine⟨by rw[g];exact A3.o.1,by rw[g];exact A3.o.2.1,by rw[g];exact A3.o.2.2,by rw[n];simp[Jo.more],by rw[n];exact hL⟩
 clear k f g n m T4 C3 T3 A3 hP hL
 go_wp2_with fail
 refine U.o _ _ ?_;clear U;refine gG nmc15 J.o fun w6 bv Q V bn=>?_;have i:=zl<|C5.o.nw<|ji Q;have T6:=zl<|T5.o.trans<|jt.nw T5.o.at_<|ji Q;clear bn
 conv=>arg 2;whnf
 go_wp2_with fail
 refine(vbe B l o _ i.o.st i.o.sn i.o.ok i.o.wC i.o.two i.o.own i.o.inv.inv.P).mono ?_;intro e w7 ba;have a:=vbm C.o.1 C.o.2.2.2.1;obtain⟨K,Y,t7,Z,rfl⟩:∃K,van l o K/\jt B l w6 K.shut w7/\NL K l.off o/\e= .returned (zi 12):=by
  rcases i.o.inv.sync i.o.sn (by rw[C.o.2.1];omega)with⟨r1,h1,_⟩|⟨r1,h1,f1,_,f2⟩;rw[h1]at a;exact absurd rfl a;rcases ba with⟨vv,rr,M,_⟩|⟨rr,M,g2,g3⟩;rw[h1]at M;cases M;rw[h1]at M;cases M;exact⟨_,f1,g3,f2 _ C.o.1 rfl,g2⟩
 have F7:=zl<|i.o.fel (by rw[C.o.2.1];omega) Y t7;have M7:=zl Z;have T7:=zl<|T6.o.trans t7;clear ba a Y t7 Z i T6 C5 T5
 go_wp2_with fail
 refine V.o _ _ ?_;clear V;refine gG nmc15 J.o fun w8 bw R W bo=>?_;have F8:=zl<|F7.o.nw<|ji R;have T8:=zl<|T7.o.trans<|jt.nw T7.o.at_<|ji R;clear bo
 conv=>arg 2;whnf
 go_wp2_with fail
 refine(TM B K.shut [107] _ F8.o.st fun t G=>by cases G).mono ?_;rintro e w9 ⟨rfl,F⟩;rw[show K.shut.gets [107]=([],5)from rfl];have F9:=zl<|F8.o.nw F;have T9:=zl<|T8.o.trans<|jt.nw T8.o.at_ F;clear F F8 T8 F7 T7
 go_wp2_with fail
 refine W.o _ _ ?_;clear W;have z:l.op<999:=by rw[C.o.2.2.1];omega
 refine Xn.seq bQ nmc15 trivial ?_
 conv=>arg 3;whnf
 refine Xn.dB bQ nmc15 ?_;refine mZ (val:=zo B) nmc15 ⟨rfl,rfl⟩ ?_;refine Jc.call bQ nmc15 rfl rfl (fun v=>by show(bG _ _).run prog _=_;simp[bG,go_sem,resolve,Act.put]) (bZ rfl Tryz.func13 rfl) (F9.o.cc z) ?_ ?_;rotate_left;rintro ch I ⟨he,_⟩;cases he;rintro bx I ho;obtain⟨he,bb,bp,bc,H,k1,k2,k3,k4⟩:=F9.o.back M7.o z ho;cases he;have q:bp.L=[]:=xa (by rw[<-KZ,k2,KZ,C.o.2.2.2.2];rfl);have bi:=zl<|T9.o.trans bc;have bh:=zl H;have bd:Hid<|bb.gets [107]=([],8):=by
  show _=_;rw[SY H.sn,aB<|by decide,vaj k3,q];rfl
 clear ho bc H k1 k2 k3 k4 q;refine mZ (val:=zi 0) nmc15 ⟨rfl,rfl⟩ ?_;refine Jc.nil bQ nmc15 ?_;refine(show Xn bM 15 _ PX _ I from ?_);simp only[Act.put,xv,Zz,Z9];refine mY nmc15 J.o fun bz br p X=>?_;have E:=zl<|bh.o.nw<|ji p;have bf:=zl<|ji p
 conv=>arg 2;whnf
 go_wp2_with fail
 refine(TM B bb [107] _ E.o.st fun t G=>by rw[E.o.sn]at G;cases G;exact E.o.inv.inv.P20).mono ?_;rintro e bq ⟨rfl,y⟩;rw[bd.o];have bg:Hid<|Nw I bq:=bf.o.trans y;clear y
 go_wp2_with fail
 refine X.o .ret _ _ ?_;rw[<-be.o];refine⟨rfl,.bool bL,fun t d=>⟨t,d, ?_⟩,rfl,bi.o.but.trans<|bg.o.mono fun _ x=>x.elim⟩;show(aN Tryz.f15 _).run prog _=_;simp[aN,Tryz.results15,go_sem]
noncomputable def enA:=Qa enC
noncomputable def enO:=Qa<|Qb enC
noncomputable def enE:=Qb<|Qb enC
def vdn:enC= .seq enA (.seq enO enE):=by kernel_rfl
def Bn:fD []=[]:=xa<|KZ []
def MF(w:Zy)(e:Ending)(w':Zy):Prop:=e= .returned (.bool bL)/\Nw w w'
def m_{w w':Zy}{e:Ending}{d:Nat}:MF w e (re w' t d)↔MF w e w':=⟨fun h=>⟨h.1,xb.re h.2⟩,fun h=>⟨h.1,Nw.gL h.2 t d⟩⟩
def idx13(a:Act):Nat:=301-(intOf<|a.tmps[13]?.getD bJ).toNat
section
variable {cv tv:Value} {lo B j cn q:Nat} {v kv sv:Value} {D:List Ac} {w0 w w':World} {a:Act} {r:Sr} {s:Jo} {Q:Exit->Act->World->Prop}
def FrC.idx(h:FrC v B kv sv cn j a):idx13 a=301-j:=by
 have:=h.a13;unfold At at this;simp[idx13,this,intOf]
def CrP.but2{S:ZP}(h:CrP cv tv lo B v D w0 r s w)(k:xb S w w')(a:∀x,S x->lo<=x)(b:∀x,r.own B x->¬S x):CrP cv tv lo B v D w0 r s w':=
 ⟨h.st.but k b,h.sn,h.inv,h.own,h.l4,h.sz,h.wC.but k fun x c=>by have:=a x c;have:=h.l4;omega,h.two.but k a,h.old.trans<|k.mono a,h.al.but<|k.mono a⟩
def vdk(hQ:kT Q)(ha:FrC v B kv sv cn j a)(h:CrP cv tv lo B v D w0 r s w)(hop:r.op<999)(J:qW w kv<|fD s.L)
  (hN:∀a' w',a'.defers=[]->At a' 6 (.bool bL)->xb (fun x=>lo<=x) w0 w'->Q .ret a' w'):Xn bM 6 enC Q a w:=by
 obtain⟨g,rfl,e2,e7,m,n,o,q⟩:=ha.lit;obtain⟨pk,nk,ck,N⟩:=vac J;subst N;have W:=zl hQ;have HC:=zl h;have HN:=zl hN;have U:=zl J;clear ha h hN hQ J;simp only[FI,e2,e7,m,n,o,q];clear e2 e7 m n o q;rw[vdn];refine gG hV W.o fun v5 ba y z K=>?_;have l:=zl<|HC.o.nw<|ji y;have M5:Hid<|Nw w v5:=ji y;clear K
 conv=>arg 2;whnf
 go_wp2_with fail
 refine(x_ B r _ l.o.st).mono ?_;rintro e w8 ⟨rfl,E⟩;have T8:=zl E;rw[show(if r.sn.isSome then(0:Int)else 5)=0 by rw[l.o.sn];rfl];clear E
 go_wp2_with fail
 refine z.o _ _ ?_;clear z;have c:=l.o.cc T8.o hop;refine Xn.seq bQ hV trivial ?_
 conv=>arg 3;whnf
 refine Xn.dB bQ hV ?_;refine mZ (val:=zo B) hV ⟨rfl,rfl⟩ ?_;refine Jc.call bQ hV rfl rfl (fun v=>by show(bG _ _).run prog _=_;simp[bG,go_sem,resolve,Act.put]) (bZ rfl Tryz.func13 rfl) c ?_ ?_;rotate_left;rintro ch T ⟨M,_⟩;cases M;rintro v9 T ho;obtain⟨M,R,F,t2,p2,k1,k2,O,k4,k5⟩:=l.o.done T8.o hop ho;cases M;have k:=zl p2;have X:Hid<|qW T (.slice pk nk ck)<|fD F.L:=by
  show qW _ _ _;rw[k2];exact jt.psl l.o.st t2<|U.o.but M5.o fun _ _ _=>id
 have b:=vaj O;clear ho c t2 p2 k1 k2 k4 k5 U;refine mZ (val:=zi 0) hV ⟨rfl,rfl⟩ ?_;refine Jc.nil bQ hV ?_;refine(show Xn bM 6 enE Q _ T from ?_);simp only[Act.put,xv,Zz,Z9];refine mY hV W.o fun G Y t C=>?_;have d:=ji t;have I:=k.o.inv.inv;have Z:=zl (Pp B R F (fD F.L) (.slice pk nk ck) G (k.o.st.nw d) k.o.sn (by rw[O];simp) (fun p hp=>by have:=TF I p hp;omega) (by have:=EP I;omega) (X.o.but d fun _ _ _=>id) (by rw[b];exact(KN _).symm) (fun i hi=>by
   have:=D8 (r:=R.off) I k.o.sn i (by rw[b];exact hi);have h9:R.off.gets (fD F.L)[i].1=((fD F.L)[i].2,0):=by simpa[b]using this
   exact h9))
 have V:Hid<|xb (fun x=>lo<=x) w0 G:=k.o.old.trans<|d.mono fun _ x=>x.elim;clear d I b O k X
 conv=>arg 2;whnf
 go_wp2_with fail
 refine Z.o.mono ?_;rintro en S ⟨rfl,f⟩;have H:Hid<|xb (fun x=>lo<=x) w0 S:=V.o.trans<|f.mono fun _ x=>x.elim;clear f Z V
 go_wp2_with fail
 exact C.o .ret _ _<|HN.o _ _ rfl rfl H.o
end
theorem vbo{cv tv:Zv}(T:Zl)(q:Int)(bw:-9223372036854775808<=q/\q<=9223372036854775807)(v:Zv)(C:List Ac){w:Zy}(hG:iA cv tv w)(h2:Two2 w.heap.size cv tv w)(bp:AL w.heap.size w v C):
  Xn bM 6 c6 (nJ bM funcs Tryz.f6<|MF w) ⟨#[zs T,zi q,v]++aW (Tryz.f6.ntmps-#[zs T,zi q,v].size) bJ,[]⟩ w:=by
 have hQ:kT<|nJ bM funcs Tryz.f6<|MF w:=AO fun e U t d=>m_;rw[veb];rw[show Tryz.f6.ntmps=227 from rfl];generalize hPX:nJ bM funcs Tryz.f6 (MF w)=PX at hQ;have z:=zl hQ;have b0:=zl hPX;have HG:=zl hG;have b1:=zl h2;have bz:=zl bp;have Q:=hG.pos;clear hQ hPX hG bp h2;simp only[jg,zh,jn,Nat.reduceAdd,Nat.reduceSub,qw,qx,Z7,Zi,jk,jc];refine gG hV z.o fun w1 cm F G bj=>?_;have N1:=zl<|ji F;have HZ:=zl<|Ug F;clear bj
 conv=>arg 2;whnf
 go_wp2_with fail
 refine G.o _ _ ?_;clear G;have o:=Ln (cv:=cv) (tv:=tv) T q bw (w:=w1)<|HG.o.but (S:=fun _=>False) N1.o fun _ x=>x.elim;refine Xn.seq bQ hV trivial ?_
 conv=>arg 3;whnf
 refine Xn.dB bQ hV ?_;refine mZ (val:=zs T) hV ⟨rfl,rfl⟩ ?_;refine mZ (val:=zi q) hV ⟨rfl,rfl⟩ ?_;refine Jc.call (f:=9) (args:=#[zs T,zi q,zi 999]) bQ hV rfl rfl (fun v=>by show(bG _ _).run prog _=_;simp[bG,go_sem,resolve,Act.put]) (bZ rfl Tryz.func9 rfl) o ?_ ?_;rotate_left;rintro ch wx ⟨B,r0,s0,n,_⟩;cases n;rintro v2 w2 ⟨B,r0,s0,n,hS,bt⟩;cases n;refine mZ (val:=zo B) hV ⟨rfl,rfl⟩ ?_;refine Jc.nil bQ hV ?_;refine(show Xn bM 6 _ PX _ w2 from ?_);simp only[Act.put,xv,Zz,Z9];have E:=zl hS;have N2:Hid<|Nw w w2:=N1.o.trans bt;clear hS bt o;have o:=Ln (cv:=cv) (tv:=tv) T q bw (w:=w2)<|HG.o.but (S:=fun _=>False) N2.o fun _ x=>x.elim;refine Xn.seq bQ hV trivial ?_
 conv=>arg 3;whnf
 refine Xn.dB bQ hV ?_;refine mZ (val:=zs T) hV ⟨rfl,rfl⟩ ?_;refine mZ (val:=zi q) hV ⟨rfl,rfl⟩ ?_;refine Jc.call (f:=9) (args:=#[zs T,zi q,zi 999]) bQ hV rfl rfl (fun v=>by show(bG _ _).run prog _=_;simp[bG,go_sem,resolve,Act.put]) (bZ rfl Tryz.func9 rfl) o ?_ ?_;rotate_left;rintro ch wx ⟨B,r0,s0,n,_⟩;cases n;rintro v2 w3 ⟨B2,r2,s2,n,hS,bu⟩;cases n;refine mZ (val:=zo B2) hV ⟨rfl,rfl⟩ ?_;refine Jc.nil bQ hV ?_;refine(show Xn bM 6 _ PX _ w3 from ?_);simp only[Act.put,xv,Zz,Z9];have W:=zl hS;have N3:=zl bu;clear hS bu o;refine gG hV z.o fun w4 co bd H bk=>?_;have N4:=zl<|ji bd;clear bk
 conv=>arg 2;whnf
 go_wp2_with fail
 refine H.o _ _ ?_;clear H;have n4:Nw w w4:=(N2.o.trans N3.o).trans N4.o;have k:=HG.o.but (S:=fun _=>False) n4 fun _ x=>x.elim;have p:=b1.o.but (S:=fun _=>False) n4 fun _ x=>x.elim;have X:=bz.o.but<|n4.mono fun _ x=>x.elim;have CX:=zl<|E.o.crp (N3.o.trans N4.o) (lo:=w.heap.size) (v:=v) (D:=C) (w0:=w) (by have:=HZ.o;omega) Q (ze _) k p (n4.mono fun _ x=>x.elim) X;have CY:=zl<|W.o.crp N4.o (lo:=w.heap.size) (v:=v) (D:=C) (w0:=w) (by have:=N2.o.size;omega) Q (ze _) k p (n4.mono fun _ x=>x.elim) X;have V:Hid<|∀x,r2.own B2 x->w.heap.size<=x/\¬r0.own B x:=fun x hx=>by
  have k1:=W.o.own x hx;have k2:=N2.o.size;refine⟨by omega,fun hy=>?_⟩;have:=Sr.bX E.o.st hy;omega
 have F2:Hid<|s0.L=[]/\s0.P=[]/\r0.cnt=0/\r0.op=2/\s0.bP=0:=⟨E.o.L,E.o.P,E.o.cnt,E.o.op,E.o.bP⟩;have R:=vci CY.o W.o.L W.o.P W.o.cnt W.o.op;clear k p X n4 E W N2 N3 N4 N1 HZ CY;refine Xn.seq bQ hV trivial ?_
 conv=>arg 3;whnf
 refine Xn.dB bQ hV ?_;refine mZ (val:=zo B2) hV ⟨rfl,rfl⟩ ?_;refine Jc.call (f:=15) (args:=#[zo B2]) bQ hV rfl rfl (fun v=>by show(bG _ _).run prog _=_;simp[bG,go_sem,resolve,Act.put]) (bZ rfl Tryz.func15 rfl) R ?_ ?_;rotate_left;rintro ch wx ⟨n,_⟩;cases n;rintro v5 w5 ⟨n,bq⟩;cases n;have C5:=zl<|CX.o.but2 bq (fun x hx=>(V.o x hx).1) fun x hx hy=>(V.o x hy).2 hx;clear bq R CX V;refine mZ (val:= .bool bL) hV ⟨rfl,rfl⟩ ?_;refine Jc.nil bQ hV ?_;refine(show Xn bM 6 _ PX _ w5 from ?_);simp only[Act.put,xv,Zz,Z9];refine gG hV z.o fun w6 cp be J bl=>?_;have C6:=zl<|C5.o.nw<|ji be;clear bl
 conv=>arg 2;whnf
 go_wp2_with fail
 refine J.o _ _ ?_;clear J C5;refine gG hV z.o fun w7 cq bf K bm=>?_;have C7:=zl<|C6.o.nw<|ji bf;clear bm
 conv=>arg 2;whnf
 go_wp2_with fail
 refine K.o _ _ ?_;clear K C6;refine gG hV z.o fun w8 cr bg M bn=>?_;have C8:=zl<|C7.o.nw<|ji bg;clear bn
 conv=>arg 2;whnf
 go_wp2_with fail
 refine M.o _ _ ?_;clear M C7;refine gG hV z.o fun w9 cs bh N bo=>?_;have C9:=zl<|C8.o.nw<|ji bh;clear bo
 conv=>arg 2;whnf
 go_wp2_with fail
 refine N.o _ _ ?_;clear N C8;refine Xn.seq bQ hV trivial ?_;refine gG hV z.o.dV fun cj b3 Y l ba=>?_;have bx:=zl<|C9.o.nw<|ji Y;clear ba
 conv=>arg 2;whnf
 go_wp2_with fail
 refine l.o _ _ ?_;clear l C9;have b2:Hid<|LpP cv tv w.heap.size B v C w (.slice bN 0 0) (.slice bN 0 0) 0 0 cj:=by
  have bv:s0.now=[]:=by rw[vaj F2.o.2.1];exact F2.o.1
  refine⟨⟨r0,s0,bx.o,F2.o.2.2.1,by rw[F2.o.2.2.2.1];omega,by rw[F2.o.2.2.2.2];exact Int.le_refl _, ?_, ?_⟩,Vj _,Vj _,Vj _⟩;rw[F2.o.1,Bn];exact qW.nil _;rw[bv,Bn];exact qW.nil _
 refine Xn.block bQ hV ?_;have b9:=Vz (z.o.dV (P:=bM) (fn:=6) (y:=enC)) (id:=0);refine Xn.loop bQ hV (by trivial) (fun a U=>∃h sv g j,FrC v B h sv g j a/\LpP cv tv w.heap.size B v C w h sv g j U) (fun a _=>idx13 a) ?_ _ _ ⟨_,_,0,0,⟨FE rfl,rfl,rfl,rfl,rfl,rfl,rfl⟩,b2.o⟩;rintro a w3 ⟨h,sv,g,j,hf,cf⟩;have hI:∀a U t d,(∃h sv g j,FrC v B h sv g j a/\LpP cv tv w.heap.size B v C w h sv g j (re U t d))↔(∃h sv g j,FrC v B h sv g j a/\LpP cv tv w.heap.size B v C w h sv g j U):=fun a U t d=>
  ⟨fun⟨k1,k2,k3,k4,h1,h2⟩=>⟨k1,k2,k3,k4,h1,h2.nw ⟨rfl,rfl,ze _,fun _ _ _=>rfl⟩⟩,fun⟨k1,k2,k3,k4,h1,h2⟩=>⟨k1,k2,k3,k4,h1,h2.nw<|Nw.gL (xb.refl _ _) t d⟩⟩
 have Z:=m5 b9 (I:=fun a U=>∃h sv g j,FrC v B h sv g j a/\LpP cv tv w.heap.size B v C w h sv g j U) (m:=fun a _=>idx13 a) (a0:=a) (w0:=w3) hI fun _ _ _ _=>rfl;have cu:=hf.idx;rw[vdj];refine gG hV Z fun w4 cx b7 b8 ca=>?_;have b:=cf.nw<|ji b7;obtain⟨r,s,hC,cz,cy,_,hK,_⟩:=b.ex;have ct:=b.c31;have cw:=b.j2;refine vdc hf hC.al b.j1 b.j2 (by omega) (fun a4 bb cc cd ce=>b8.o _ _ ?_) fun a4 bb=>ca.o _ _ _ (by simp) ?_;refine Xn.seq bQ hV trivial (Xn.block bQ hV ?_);refine vda (Vz (Z.dV (P:=bM) (fn:=6) (y:=xCn)) (id:=1)) bb b cc cd ce fun b4 ck cg ci b6 bs br=>?_;show Xn bM 6 xCn _ b4 ck;refine mY hV Z fun c0 cl bc bi=>?_;refine vde bs (by omega) fun b5 O=>bi.o .normal _ _ ⟨⟨cg,ci,b6,j+1,O,br.nw<|ji bc⟩, ?_⟩;have h7:=O.idx;show idx13 b5<idx13 a;omega;show(if 0=0 then _ else _);rw[aA rfl];show Xn bM 6 enC PX a4 w4;refine vdk z.o bb hC (by omega) hK fun a6 w6 cb h6 c=>?_;rw[<-b0.o];refine⟨cb,.bool bL,fun t d=>⟨t,d, ?_⟩,rfl, ?_⟩
 ·show(aN Tryz.f6 _).run prog _=_
  unfold At at h6;simp[aN,Tryz.results6,go_sem,h6]
 exact⟨c.os,c.output,c.size,fun i hi _=>c.block i hi<|by show¬w.heap.size<=i;omega⟩
end
end P
namespace A
open Go Go.Conc
variable [pn:Pn]
section
variable {Post:Zv→Zy→Prop}
section
variable {P:Program} {F:Array Func} {X:Nat->Prop}
def vR.ends{g:Zg}{w:Zy}{m:Machine}{t:Trace}(U:vR P X g w m t)
  (h:∀u:Zy,Sm P X (A.re w u.tape u.drawn) u->∃val es u',stepG P bL g u= .ended (.done val) u' es/\(∀e∈es,xR X u.heap.size e)/\Post val u'):
  ∃N last o w' t',runNT P (N+1) m t=(.ended o w',t')/\runN P N m= .next last/\step P last= .ended o w'/\Conc.Good P Post last o w' t':=by
 obtain⟨⟨a,v,sl,k,rfl,l,y,G⟩,ok,c,J⟩:=U;refine run_of_inv BO (fun k m t=>∃(a:Array _) (v:Zy) (sl:Option _),m=Conc.crowd a v sl/\a[0]?=bO g/\JL P X k a v t/\Sm P X (A.re w v.tape v.drawn) v) _ ?_ k _ _ ⟨a,v,sl,rfl,l,y,G⟩;clear y G l;rintro k m t ⟨a,v,sl,rfl,l,y,G⟩;have I:∀g∈a,awake g:=by
  intro f n;obtain⟨i,p,rfl⟩:=Z1.1 n;rcases jl i with rfl|b
  have:a[0]=g:=by simpa[xg p]using l
  rw[this];exact awake_of<|.inl c;exact J5.awake k a v t y i _ b<|xg p
 obtain⟨i,f,d,F,p,n,E⟩:=crowd_pick (P:=P) (w:=v) (sl:=sl) I ⟨0,g,l,c⟩;have z:=J5.drawn k a v t d y;have C:Sm P X (A.re w v.tape d)<|v.at d:=G.re _ d;rcases jl i with rfl|b
 obtain rfl:f=g:=by rw[l]at p;exact(jf p).symm
 obtain⟨val,es,u',D,K,r⟩:=h (v.at d) C;have s:=runT_many_ended (sl:=F) p (show stepG P _ f _=_ from D);obtain⟨q,S,T,rfl⟩:=z;have B:=T.own (fn:=f.frame.fn) (pos:=f.frame.place) K;refine .inl ⟨_,_,_,E.trans s,val,rfl,r,B.clean,B.over,⟨fun x O=>?_,rfl⟩,fun j x O L=>?_⟩;obtain⟨j,L⟩:=List.mem_iff_getElem?.1 O;rw[PK]at L;exact⟨_,(S.old (1+j) x (by omega)<|by simpa[Conc.crowd]using L).leaves⟩;have V:=S.old j x (by omega) O;refine⟨q j, ?_⟩;have e:(t++MemOp.ofEvents 0 f.frame.fn f.frame.place es).deaf j (t++MemOp.ofEvents 0 f.frame.fn f.frame.place es).size=Deaf t j:=
  Deaf_other t (g':=0) (by omega) _ (fun op M=>by obtain⟨e,_,rfl⟩:=zy M;rfl)
 rw[e];exact V.hears _;obtain⟨H,v',R,Q,W,Y,Z,r3,r4,r5⟩:=J5.other k a (v.at d) t i f g F z b p n l c J;exact .inr ⟨_,Q,W,E.trans Y,Z,H,v',R,rfl,r3,r4,r5 w C⟩
def SD(B:Nat):qD X B #[]:=
 ⟨past_nil.clean,fun i a b c=>by simp[touchAt,Trace.act?]at b,past_nil.over,past_nil.hears,fun i a b=>by simp[touchAt,Trace.act?]at b⟩
def CT{N0:Nat}{m m1:Machine}{t t1:Trace}(a:runNT P N0 m t=(.next m1,t1))(h:∃N last o w' t',runNT P (N+1) m1 t1=(.ended o w',t')/\runN P N m1= .next last/\step P last= .ended o w'/\Conc.Good P Post last o w' t'):
  ∃N last o w' t',runNT P (N+1) m t=(.ended o w',t')/\runN P N m= .next last/\step P last= .ended o w'/\Conc.Good P Post last o w' t':=by
 obtain⟨N,last,o,w',t',b,c,d,e⟩:=h;refine⟨N0+N,last,o,w',t', ?_, ?_,d,e⟩;rw[Ja];exact ql a b;have f:(runNT P (N0+N) m t).1=(runNT P N m1 t1).1:=by
  rw[ql a (r:=(runNT P N m1 t1)) rfl]
 rw[<-runNT_fst P (N0+N) m t,f,runNT_fst];exact c
theorem zvf(K:J0 P F){f:FuncId}{args:Za}{fnc:Func}{c:Code}{R:Ending->Zy->Prop}(Z:¬Mc P f)(B:Ys P F f)(H:P.funcs[f]?=bO fnc)(O:fnc.body=bO c)
  {w v0:Zy}(h:Xn P f c (nJ P F fnc R) ⟨args++aW (fnc.ntmps-args.size) bJ,[]⟩ w)(q:∀ch w',¬R (.panicked ch) w')(hS:Sm P X (A.re w v0.tape v0.drawn) v0):
  ∃N last o w' t',runNT P (N+1) (solo (G (bF P f args .normal) []) v0) #[]=(.ended o w',t')/\runN P N (solo (G (bF P f args .normal) []) v0)= .next last/\step P last= .ended o w'/\
   Conc.Good P (fun val u=>∃X' w',(∀x,X x->X' x)/\R (.returned val) w'/\Sm P X' (A.re w' u.tape u.drawn) u) last o w' t':=by
 have s:bF P f args .normal=(bF P f args .normal).at ⟨args++aW (fnc.ntmps-args.size) bJ,[]⟩ [.code c]:=by
  simp[bF,Frame.at,H,O]
 have T:(wf P F).funcs[f]?=bO fnc:=by show F[f]?=_;rw[B.1];exact H
 have z:Xv P<|bF P f args .normal:=by
  have e:bF (wf P F) f args .normal=bF P f args .normal:=by simp[bF,T,H]
  rw[<-e];exact j_ K.codes B Z args ⟨by simp,by simp⟩
 have hi:P.inits.idxOf? f=bN:=z.init;have hb:vR P X (Z0 (bF P f args .normal) []) w (solo (G (bF P f args .normal) []) v0) #[]:=
  ⟨⟨#[Z0 _ []],v0,bN,_,rfl,rfl,⟨fun _=>0,⟨fun i g hi hg=>by
    have:i=0:=by have:=(za.1 hg).1;simp at this;omega
    omega,fun j hj=>rfl⟩,SD _,rfl⟩,hS⟩,⟨.inr z,fun c O=>by cases O⟩,rfl,rfl⟩
 let At:Zg->Zy->Prop:=fun g' w'=>∃(a:Act) (b:List Item) (val:Zv),g'=Z0 {(bF P f args .normal).at a b with mode:= .returning} []/\a.defers=[]/\(∀t d,∃t' d',(aN fnc a.tmps).run (wf P F) (A.re w' t d)= .ok val (A.re w' t' d'))/\R (.returned val) w';have V:RX P (Z0 (bF P f args .normal) []) w At:=by
  rw[s];refine h (bF P f args .normal) [] [] _ rfl rfl (fun e E w' k=>?_) fun e E w' g' k n=>?_;cases e with
  |normal=>trivial
  |ret=>exact k.1
  |panic ch=>exact k.1
  |exit id=>exact k.2.elim
  |goto l=>exact k.2.elim
  |outgrown=>exact k.2.elim
  cases e with
  |normal=>
   obtain⟨_,rfl⟩:=n;obtain⟨hd,v,C,q⟩:=k;refine RX.ctl K (g':=Z0 {(bF P f args .normal).at E []with mode:= .returning} []) Z (fun v=>?_) rfl rfl rfl<|.refl ⟨E,[],v,rfl,hd,C,q⟩;simp[stepG,Z0,Frame.at,stepG.exec]
  |ret=>
   obtain⟨_,b,rfl⟩:=n;obtain⟨hd,v,C,q⟩:=k;exact .refl ⟨E,b,v,rfl,hd,C,q⟩
  |panic ch=>exact(q ch w' k.2).elim
  |exit id=>exact k.2.elim
  |goto l=>exact k.2.elim
  |outgrown=>exact k.2.elim
 obtain⟨N,m',t',X',g',w',L,x1,b1,a,b,val,rfl,hd,C,M⟩:=V X _ _ hb;refine CT L<|b1.ends fun u r=>?_;obtain⟨t1,Y,D⟩:=C u.tape u.drawn;obtain⟨p,m,I⟩:=(QM (P:=P) (F:=F) (X:=X') fnc a.tmps).gJ _ u #[] r (by rw[D];trivial);rw[D]at I;have J:Sm P X' (A.re w' t1 Y) p:=I.sm;have W:p.heap.size=u.heap.size:=J.size.trans r.size.symm;refine⟨val,seen P f (#[]++m)++#[],p, ?_,fun e s=>?_,X',w',x1,M, ?_⟩;have U:(aN fnc a.tmps).runT P u #[]=(.ok val p,#[]++m):=I.eq;have y:=IM (fr:={(bF P f args .normal).at a b with mode:= .returning}) (by simp[bF,Frame.at]) hi val p;show unwind P bL {(bF P f args .normal).at a b with mode:= .returning} [] bN u=_;have Q:({(bF P f args .normal).at a b with mode:= .returning}:Zf).defers=[]:=hd;have S:P.funcs[({(bF P f args .normal).at a b with mode:= .returning}:Zf).fn]?=bO fnc:=H;unfold unwind;rw[Q];simp only[S];rw[show(aN fnc ({(bF P f args .normal).at a b with mode:= .returning}:Zf).tmps).runT P u #[]=(.ok val p,#[]++m)from U];simp only[y];rfl;have s:e∈seen P f (#[]++m):=by simpa using s
 have:=I.evs e (by simpa using mem_seen s);rw[W]at this;exact .pV this;have L:p.tape=t1:=J.tape;have e2:p.drawn=Y:=J.drawn;rw[L,e2];exact J
end
end
end A
namespace P
open Go.RowKit A Go Go.Conc
def WQ:Obj->Bool
 | .pending ..=>bL
 | .deferred _=>bL
 | .loop _=>bL
 |_=>bK
def EZ(j:Nat):Obj:= .chan j #[] bK 0 0 bK
def clean(j:Nat)(o:Obj):Obj:=if WQ o=bL then EZ j else o
def oH(j:Nat)(v:Zy):Zy:={v with heap:=v.heap.map<|clean j}
def X0(v:Zy)(r:Nat):Prop:=∃o,v.heap[r]?=bO o/\WQ o=bL
abbrev oO(v:Zy):Pn:=⟨⟨v.heap.size,fun r=>v.heap[r]?⟩⟩
section
variable {j r:Nat} {v:World}
def I_:(oH j v).heap[r]?=(v.heap[r]?).map (clean j):=by simp[oH]
def JK:(oH j v).heap.size=v.heap.size:=by simp[oH]
def D7(h:¬X0 v r):(oH j v).heap[r]?=v.heap[r]?:=by
 rw[I_];cases e:v.heap[r]?with
 |none=>rfl
 |some o=>
  have:¬WQ o=bL:=fun a=>h ⟨o,e,a⟩;simp[clean,this]
def Bc(h:X0 v r):(oH j v).heap[r]?=bO (EZ j):=by
 obtain⟨o,e,a⟩:=h;rw[I_,e];simp[clean,a]
def wR{a:Addr}{x:Zv}(h:v.cell? a=bO x):(oH j v).cell? a=bO x:=by
 obtain⟨g,e,i,d,_⟩:=A.cells_of_cell (pn:=oO v) (py:=⟨132⟩) h;have f:¬X0 v a.block:=by
  rintro⟨o,b,c⟩;rw[d]at b;cases b;cases c
 have e:=D7 (j:=j) f;unfold World.cell? at h⊢;rw[e];exact h
def mC(P:Zp):Sm (pn:=oO v) P (X0 v) (A.re (oH j v) v.tape v.drawn) v:=by
 refine @Sm.mk (oO v) P (X0 v) (A.re (oH j v) v.tape v.drawn) v JK.symm (fun r a=>(D7 a).symm) (fun r a=>?_) (fun r=>?_) rfl rfl rfl rfl ⟨Nat.le_of_eq JK.symm,fun r _ _=> .inl rfl⟩;have b:=Bc (j:=j) a;obtain⟨o,e,c⟩:=a;exact⟨EZ j,o,b,e,.inl ⟨rfl,by cases o<;>first|rfl|cases c⟩⟩;show A.dL P (oH j v).heap[r]?;rw[I_];cases v.heap[r]?with
 |none=>exact .none
 |some o=>cases o<;>exact⟨fun _ _ h=>(by cases h),fun _ h=>(by cases h),fun _ h=>(by cases h)⟩
end
def iA.ref{cv tv:Zv}{v:Zy}(h:iA cv tv v)(j:Nat):iA cv tv<|oH j v:=by
 obtain⟨⟨t,x,a,b⟩,⟨g,k,c,d⟩,e⟩:=h;exact⟨⟨t,x,a,wR b⟩,⟨g,k,c,wR d⟩,fun i f=>wR<|e i f⟩
def AL.ref{v:Zy}{x:Zv}{D:List Ac}(h:AL v.heap.size v x D)(j:Nat):AL (oH j v).heap.size (oH j v) x D:=by
 obtain⟨a,b,o,p,q⟩:=h;refine⟨a,b,o,p,fun i r=>?_⟩;obtain⟨g,c,m,n,d,e,f,k,c6,l⟩:=q i r;exact⟨g,c,m,by rw[JK];exact n,wR d,wR e,wR f,wR k,wR c6,l⟩
def Two2.ref{cv tv:Zv}{v:Zy}(h:Two2 v.heap.size cv tv v)(j:Nat):Two2 (oH j v).heap.size cv tv<|oH j v:=by
 obtain⟨a,b,c,d,n,o,e,f,g,l,m,i,k⟩:=h;rw[JK];exact⟨a,b,c,d,n,o,e,f,g,l,m,by rw[I_,i];rfl,by rw[I_,k];rfl⟩
def ZT{P:Zp}{o:Outcome}{w:Zy}{t':Trace}:∀{n:Nat} {m:Machine} {t:Trace},runNT P n m t=(.ended o w,t')->∀k,runNT P (n+k) m t=(.ended o w,t')
 |0,m,t,h,k=>by simp[runNT]at h
 |n+1,m,t,h,k=>by
  rw[Nat.add_right_comm];unfold runNT at h⊢;split at h;exact ZT h k;exact h
def WN(v u:Zy):Prop:=u.os=v.os/\u.output=v.output/\v.heap.size<=u.heap.size/\∀r,r<v.heap.size->u.heap[r]?=v.heap[r]?
def vaw{cv tv:Zv}(C:Zl)(k:Int)(z:-9223372036854775808<=k/\k<=9223372036854775807)(x:Zv)(E:List Ac){v:Zy}(T:iA cv tv v)(w:Two2 v.heap.size cv tv v)(y:AL v.heap.size v x E):
  ∃N last o w' t',runNT bM (N+1) (solo (G (bF bM 6 #[.string<|st C,.int .i64 k,x] .normal) []) v) #[]=(.ended o w',t')/\runN bM N (solo (G (bF bM 6 #[.string<|st C,.int .i64 k,x] .normal) []) v)= .next last/\step bM last= .ended o w'/\
   Go.Conc.Good bM (fun val u=>val= .bool bL/\WN v u) last o w' t':=by
 have i:∀j,_:=fun j=>zvf (pn:=oO v) (bQ (pn:=oO v)) (hV (pn:=oO v)) (bZ (pn:=oO v) rfl Tryz.func6 rfl) Tryz.func6 (ved (pn:=oO v)) (vbo (pn:=oO v) C k z x E (T.ref j) (w.ref j)<|y.ref j) (fun ch w' h=>by cases h.1)<|mC (j:=j) (v:=v) bM;obtain⟨N,last,o,w',t',H,K,L,val,rfl,⟨Y,w1,W,c,q⟩,M⟩:=i 0;obtain⟨F,B,o2,a,D,O,b2,b3,l,rfl,⟨Z,w2,X,w,V⟩,b5⟩:=i 1;obtain rfl:a=w':=by
  have Q:=ZT H<|F+1;have s:=ZT O<|N+1;rw[zW<|F+1]at s;rw[Q]at s;have R:(l=val/\a=w')/\D=t':=by simpa using s.symm
  exact R.1.2
 have g:∀{j:Nat} {n:ZP} {m:Zy},(∀r,X0 v r->n r)->Nw (oH j v) m->Sm (pn:=oO v) bM n (A.re m a.tape a.drawn) a->∀r,r<v.heap.size->a.heap[r]?=v.heap[r]?\/(X0 v r/\a.heap[r]?=bO (EZ j)):=by
  intro j n m hx U J r d;have I:m.heap[r]?=(oH j v).heap[r]?:=U.block r (by rw[JK];exact d) id;have f:a.heap[r]?=m.heap[r]?->a.heap[r]?=v.heap[r]?\/(X0 v r/\a.heap[r]?=bO (EZ j)):=fun e=>by
   rw[I]at e;rcases Classical.em (X0 v r)with b|b
   exact .inr ⟨b,e.trans<|Bc b⟩;exact .inl<|e.trans<|D7 b
  rcases Classical.em (n r)with t|t;rcases(Sm.pin (pn:=oO v) J).2 r t d with e|e;exact .inl e;exact f e;exact f<|Sm.out (pn:=oO v) J r t
 refine⟨N,last,_,a,t',H,K,L,val,rfl,⟨?_, ?_, ?_, ?_,fun r d=>?_⟩,M⟩;have:=c.1;simpa using this;exact(Sm.os (pn:=oO v) q).trans c.2.os;exact(Sm.output (pn:=oO v) q).trans c.2.output;have e0:=Sm.size (pn:=oO v) q;have I:a.heap.size=w1.heap.size:=e0;have S:=c.2.size;rw[JK]at S;omega;rcases g W c.2 q r d with e|⟨b,e⟩
 exact e;rcases g X w.2 V r d with p|⟨_,p⟩
 exact p;rw[e]at p;simp[EZ]at p
end P
namespace P
open Go.RowKit A Go.ChangeShapes Go.WideShapes
def Uc:Tryz.prog.cellsOf 39=5:=by kernel_rfl
def JR{w:Zy}{base:Nat}{a:Addr}{n:Nat}{cs:Ze}(h:w.cells? base a n=bO cs)(i:Nat)(e:i<n):∃v,cs[i]?=bO v/\w.cell? (a.add i)=bO v:=by
 unfold World.cells? at h;split at h;obtain⟨b,c,d⟩:=Lib.mapM_at h i i (by simp[e]);exact⟨b,c,d⟩;cases h
def xoj(s:ByteArray):st s.data.toList=s:=by cases s;simp[st]
def Gk{H:Type}{enc:Zt×Zv->H}{W:Zy}{fuel:Nat}{a:Addr}{cs:Ze}{x:DataW H×List MemPlace}
  (e:W.cells? 0 a 5=bO cs)(G:DataW.trod enc bM W 0 (fun _=>bL) bL fuel 39 cs=bO x):
  ∃g off d,a=(zq g off)/\Ac.At W g off d:=by
 obtain⟨Q,e0,l⟩:=JR e 0 (by decide);obtain⟨R,m,z⟩:=JR e 1 (by decide);obtain⟨S,o,B⟩:=JR e 2 (by decide);obtain⟨T,p,C⟩:=JR e 3 (by decide);obtain⟨U,q,D⟩:=JR e 4 (by decide);obtain⟨O,n,_,rfl,y,f,b⟩:=DataW.trod_struct Tryz.underlying39 G;rw[Uc]at y
 match cs,y with
 |[u0,u1,u2,u3,u4],_=>
  match O,f with
  |[x0,x1,x2,x3,x4],_=>
   have r:=b 0 _ rfl;have s:=b 1 _ rfl;have t:=b 2 _ rfl;have v:=b 3 _ rfl;have w:=b 4 _ rfl;simp only[Xl,Xb]at r s t v w;simp only[Xl,Xb,zp]at e0 m o p q;obtain⟨k,hk,_,_⟩:=DataW.trod_int Tryz.underlying3 r;obtain⟨L,J,_,i⟩:=DataW.trod_int Tryz.underlying3 s;obtain⟨K,I,_,h⟩:=DataW.trod_int Tryz.underlying3 t;obtain⟨M,E,_,_⟩:=DataW.trod_string Tryz.underlying9 v;obtain⟨N,F,_,_⟩:=DataW.trod_string Tryz.underlying9 w;cases hk;cases J;cases I;cases E;cases F;subst e0;subst m;subst o;subst p;subst q;obtain⟨g,off,j⟩:=a;have c:j=bN:=by simpa[Addr.add]using World.cell?_spot l
   subst c;rw[Go.WideShapes.add_plain]at l z B C D;refine⟨g,off,⟨k,L,K,M.data.toList,N.data.toList⟩,rfl,l,z,B,C,D, ?_, ?_⟩;simp only[Lit.wf,xl,X9]at i;exact i;simp only[Lit.wf,xl,X9]at h;exact h
def QQ{H:Type}{enc:Zt×Zv->H}{W:Zy}{fuel:Nat}{a0:Option Addr}{len cap:Nat}{x:DataW H×List MemPlace}
  (B:DataW.trod enc bM W 0 (fun _=>bL) bL fuel 25 (Value.slice a0 len cap).cells.toList=bO x):∃D,AL W.heap.size W (.slice a0 len cap) D:=by
 have p:DataW.trod enc bM W 0 (fun _=>bL) bL fuel 25 [Value.slice a0 len cap]=bO x:=B;rcases DataW.trod_slice Tryz.underlying25 p with⟨c,_⟩|⟨a,w,r,j,y,n,_,c,J,_,G,I,v,o,_,_⟩
 cases c;exact⟨[],bN,0,rfl,by simp,fun i h=>by simp at h⟩;cases c;have f:∀i,i<len->∃g b d,a.add (i*5)=(zq g b)/\Ac.At W g b d:=by
  intro i k;have t:=o i k;have q:i<j.length:=by omega
  rw[Uc,Yh q,Option.bind_eq_some_iff]at t;obtain⟨F,c,C⟩:=t;exact Gk c C
 have e:∀i,i<len->∃d,∃g b,bO a=bO ⟨g,b,bN⟩/\g<W.heap.size/\Ac.At W g (b+i*5) d:=by
  intro i k;obtain⟨z,E,_,m,_⟩:=f 0 (by omega);rw[Nat.zero_mul]at m;have m:a=(zq z E):=by simpa[Addr.add]using m
  subst m;obtain⟨g,b,d,s,l⟩:=f i k;rw[Go.WideShapes.add_plain]at s;cases s;exact⟨d,_,_,rfl,qz l.1,l⟩
 refine⟨List.ofFn fun i:Fin len=>Classical.choose<|e i i.2,bO a,cap,by rw[List.length_ofFn],by rw[List.length_ofFn];omega,fun i k=>?_⟩;rw[List.length_ofFn]at k;rw[List.getElem_ofFn];exact XZ<|e i k
end P
namespace P
open Go.ChangeShapes Go.WideShapes Go.ChangeAt Go.RowKit A Go.Conc
open Go.ChangeMaps (open_string shut_string)
def own:ownKnob Tryz.prog.godebug=bN:=by kernel_rfl
def UD:laidOutB bM=bL:=by kernel_rfl
def Gq:Tryz.prog.globalNamed "coffer/prim.roundWords"=bO 4:=by kernel_rfl
def Q2:(Tryz.prog.globals[4]?).map (·.type)=bO 336:=by kernel_rfl
def xw8:Tryz.prog.globalNamed "coffer/disk.ErrCrashed"=bO 0:=by kernel_rfl
def P3:(Tryz.prog.globals[0]?).map (·.type)=bO 169:=by kernel_rfl
def xw9:Tryz.prog.globalNamed "coffer/coffer.errTampered"=bO 1:=by kernel_rfl
def R1:(Tryz.prog.globals[1]?).map (·.type)=bO 169:=by kernel_rfl
def F0:Tryz.prog.cellsOf 336=64:=by kernel_rfl
def E6:Tryz.prog.cellsOf 243=1:=by kernel_rfl
def Ki:List Int:=[1116352408,1899447441,3049323471,3921009573,961987163,1508970993,2453635748,2870763221,3624381080,310598401,607225278,1426881987,1925078388,2162078206,2614888103,3248222580,3835390401,4022224774,264347078,604807628,770255983,1249150122,1555081692,1996064986,2554220882,2821834349,2952996808,3210313671,3336571891,3584528711,113926993,338241895,666307205,773529912,1294757372,1396182291,1695183700,1986661051,2177026350,2456956037,2730485921,2820302411,3259730800,3345764771,3516065817,3600352804,4094571909,275423344,430227734,506948616,659060556,883997877,958139571,1322822218,1537002063,1747873779,1955562222,2024104815,2227730452,2361852424,2428436474,2756734187,3204031479,3329325298]
def xs8:∀i:Fin 64,Ki.getD i.val 0=u (Kc i.val):=by decide+kernel
def ZV{P:Zp}{W:Zy}{x:String×DataW Unit}{rest:List<|String×DataW Unit}(h:laidMet P (x::rest) W):laidMet P rest W:=by
 obtain⟨r,⟨g,t,k,c,p,q,l,m,n,o,d,e⟩,j,f⟩:=h;subst e;exact⟨q,d,(List.nodup_append.1 j).2.1,fun b a i=>f b a<|List.mem_append_right _ i⟩
def starE: "*" ++ "errors.errorString"= "*errors.errorString":=by decide
def row380(u:Zt)(h:Tryz.prog.typeName? 3 u=bO "*errors.errorString"):u=380:=
 typeName_ptr_named (nm:= "errors.errorString") (by rw[starE];kernel_rfl) (by kernel_rfl) (by decide) u (by rw[starE];exact h)
def cells402:Tryz.prog.cellsOf 402=1:=by kernel_rfl
def cells9:Tryz.prog.cellsOf 9=1:=by kernel_rfl
def cell_of_var{W:Zy}{n:String}{g:Nat}{v:Zv}(a:Tryz.prog.globalNamed n=bO g)(h:W.var? bM n=bO #[v]):W.cell? (zq g 0)=bO v:=by simpa using World.var?_cell a h 0
def xq3{W:Zy}(h:laidMetH bM Rows.crashedRow.laid W):∃cv tv,iA cv tv W/\Two2 W.heap.size cv tv W:=by
 have g:laidMet bM [("coffer/prim.roundWords",Rows.laid_coffer_prim_roundWords),("coffer/disk.ErrCrashed",Rows.laid_coffer_disk_ErrCrashed),("coffer/coffer.errTampered",Rows.laid_coffer_coffer_errTampered)] W:=h;have t:Lib.TabIs bM W "coffer/prim.roundWords" .u32 Ki:=Lib.tabIs_of_head (rest:=_) Gq Q2 Tryz.underlying336 Tryz.underlying243 E6 F0 g;obtain⟨l,m,s,v,n,p,q,r,d,f,_,_,_,_,_,_,c,a,b⟩:=laid_sentinels2 (ZV g) xw8 P3 xw9 R1 Tryz.underlying169 row380 Tryz.underlying380 Tryz.underlying402 rfl rfl Tryz.underlying9 cells402 cells9;have k:∀{i:Nat} {o:Obj},W.heap[i]?=bO o->i<W.heap.size:=fun h=>(za.1 h).1;refine⟨_,_,⟨⟨_,_,rfl,cell_of_var xw8 d⟩,⟨_,_,rfl,cell_of_var xw9 f⟩,fun i j=>?_⟩,l,m,n,p,q,r,rfl,rfl,fun e=>c e.symm,k a,k b,a,b⟩;rw[t.cell Gq i j,xs8 ⟨i,j⟩]
def WN.below{v u:Zy}(h:WN v u):Below v.blind.heap.size v.blind u.blind:=⟨h.1,rfl,h.2.1,h.2.2.1,h.2.2.2⟩
abbrev xqt:ByteArray:={data:=#[116,104,101,32,109,97,99,104,105,110,101,32,115,116,111,112,112,101,100]}
abbrev xvt:ByteArray:={data:=#[115,111,109,101,98,111,100,121,32,104,97,115,32,98,101,101,110,32,97,116,32,116,104,101,32,100,105,115,107]}
noncomputable def low:Nat:=(World.holding bM default ⟨#[],#[],[]⟩).heap.size
noncomputable def Mi(os:Os):Zy:=
 let w0:=World.holding bM os ⟨#[.cells #[.string xqt] 402,.cells #[.string xvt] 402],#[],[]⟩
 {w0 with heap:=((w0.heap.modify 4 fun
   | .cells _ t frozen=> .cells #[zu 1116352408,zu 1899447441,zu 3049323471,zu 3921009573,zu 961987163,zu 1508970993,zu 2453635748,zu 2870763221,zu 3624381080,zu 310598401,zu 607225278,zu 1426881987,zu 1925078388,zu 2162078206,zu 2614888103,zu 3248222580,zu 3835390401,zu 4022224774,zu 264347078,zu 604807628,zu 770255983,zu 1249150122,zu 1555081692,zu 1996064986,zu 2554220882,zu 2821834349,zu 2952996808,zu 3210313671,zu 3336571891,zu 3584528711,zu 113926993,zu 338241895,zu 666307205,zu 773529912,zu 1294757372,zu 1396182291,zu 1695183700,zu 1986661051,zu 2177026350,zu 2456956037,zu 2730485921,zu 2820302411,zu 3259730800,zu 3345764771,zu 3516065817,zu 3600352804,zu 4094571909,zu 275423344,zu 430227734,zu 506948616,zu 659060556,zu 883997877,zu 958139571,zu 1322822218,zu 1537002063,zu 1747873779,zu 1955562222,zu 2024104815,zu 2227730452,zu 2361852424,zu 2428436474,zu 2756734187,zu 3204031479,zu 3329325298] t frozen
   |o=>o).modify 0 fun
   | .cells _ t frozen=> .cells #[.iface 380<|zo low] t frozen
   |o=>o).modify 1 fun
   | .cells _ t frozen=> .cells #[.iface 380<|zo<|low+1] t frozen
   |o=>o}
def W1(a:Os):laidMet bM Rows.crashedRow.laid ((Mi a).forCall (fun _ _=>0) ⟨#[],#[.string ⟨#[]⟩,zi 0,.slice bN 0 0],[]⟩).memory:=
 laidMet_of_run' 70 (by kernel_rfl) (by kernel_rfl)
def xvf(a:Os){H:Type}(enc:Zt×Zv->H):∃places,DataW.whole enc bM ((Mi a).forCall (fun _ _=>0) ⟨#[],#[.string ⟨#[]⟩,.int .i64 0,.slice bN 0 0],[]⟩).memory Tryz.f6.params.toList Rows.crashedSpec.vars bK (#[Value.string ⟨#[]⟩,.int .i64 0,.slice bN 0 0]).toList 8=bO ([.lit<|.string [],.lit<|.int .i64 0,.nil],[],places):=
 ⟨[],by kernel_rfl⟩
def xxj{H:Type}{enc:Zt×Zv->H}(W:Zy)(base:Nat)(args:Za)(B gs:List<|DataW H)(b:List MemPlace)
  (a:∀(j:Nat) t v,Tryz.f6.params[j]?=bO t->args[j]?=bO v->Value.okWide bM W .any base t v)
  (K:DataW.Whole enc bM Tryz.f6.params.toList Rows.crashedSpec.vars bK W args.toList B gs b)(U:laidMetH bM Rows.crashedRow.laid W):
  ∃M last o w' t',runNT bM (M+1) (solo (G (bF bM 6 args .normal) []) W) #[]=(.ended o w',t')/\runN bM M (solo (G (bF bM 6 args .normal) []) W)= .next last/\step bM last= .ended o w'/\
   Conc.Good bM (fun v W'=>Rows.crashedSpec.post enc bM Tryz.f6 bK bL bK bK W.blind args v W'.blind) last o w' t':=by
 have c:=K;obtain⟨p,q,d,V,rfl,Y,Z⟩:=K;have J:DataW.TrodAll enc bM W 0 (fun _=>bL) bL Tryz.f6.params.toList args.toList B p:=d;rw[Tryz.params6]at J a;obtain⟨v0,v1,v2,d0,d1,R,p0,p1,L,rfl,rfl,rfl,E,F,I⟩:=trodAll_three J;obtain⟨rfl,rfl⟩:=trodVars_none V;have l:=E;have m:=F;have n:=I;obtain⟨g,rfl,rfl,rfl,ba⟩:=open_string Tryz.underlying9 (a 0 9 v0 rfl rfl) E;obtain⟨n1,rfl,rfl,rfl,e⟩:=open_int Tryz.underlying3 (a 1 3 v1 rfl rfl) F;obtain⟨Q,z,k,rfl⟩:=okWide_slice Tryz.underlying25<|a 2 25 v2 rfl rfl;obtain⟨C,X⟩:=I;clear d;simp only[Xq]at c;have s:∀x∈L,x.block<W.heap.size:=fun x f=>c.lt x (by simpa using f);obtain⟨D,S⟩:=QQ X;obtain⟨cv,tv,T,r⟩:=xq3 U;have w:-9223372036854775808<=n1/\n1<=9223372036854775807:=by
  simp only[Lit.wf,xl,X9]at e;exact e
 obtain⟨M,last,o,w',t',N,O,r3,r4⟩:=vaw g.data.toList n1 w _ D T r S;rw[show st g.data.toList=g from xoj g]at N O;refine⟨M,last,o,w',t',N,O,r3,r4.mono fun v hp=>?_⟩;obtain⟨rfl,hk⟩:=hp;have i:=hk.below;have y:=DataW.Whole.of_heap (w':=W.blind) (by rfl) c;have t0:DataW.Trod enc bM W.blind 0 (fun _=>bL) bL 9 (.string g) _ []:=DataW.Trod.of_heap (by rfl) l;have t1:DataW.Trod enc bM W.blind 0 (fun _=>bL) bL 3 (.int .i64 n1) _ []:=DataW.Trod.of_heap (by rfl) m;have t2:DataW.Trod enc bM W.blind 0 (fun _=>bL) bL 25 (.slice Q z k) R L:=DataW.Trod.of_heap (by rfl) n;refine⟨_,_,_,[],_,[],y,trodAll_cons_mk (shut_bool Tryz.underlying4 _) trodAll_mk0,
  trodAll_cons_mk (Below.trod UD (by kernel_rfl) (Xj<|by kernel_rfl) t0 i fun x f=>by cases f) (trodAll_cons_mk (Below.trod UD (by kernel_rfl) (Xj<|by kernel_rfl) t1 i fun x f=>by cases f)
   (trodAll_cons_mk (Below.trod UD (by kernel_rfl) (Xj<|by kernel_rfl) t2 i s) trodAll_mk0)),rfl,i.frame _,fun h=>by cases h⟩
def lifted(h:Os)(a:h.Started)(H:Type)(enc:Zt×Zv->H):
  ReturnsInLeavingWide {} Tryz.checked h 6 .any ((OpenSpec.ofChange Rows.crashedSpec).preRow enc bM Tryz.f6 Rows.crashedRow.domain bK Rows.crashedRow.laid) (Rows.crashedSpec.post enc bM Tryz.f6 bK bL bK bK):=by
 obtain⟨j,v⟩:=xvf h enc;refine returnsInLeavingWide_of_good (C:=Tryz.checked) own a
  (witness_row_at (enc:=enc) (C:=Tryz.checked) (s:=OpenSpec.ofChange Rows.crashedSpec) bK (Mi h) #[.string ⟨#[]⟩,zi 0,.slice bN 0 0] rfl (by kernel_rfl) (by kernel_rfl) (by kernel_rfl)
   (OpenSpec.preRow_of_cond 8 v (by kernel_rfl) (fun k hk=>by cases hk) (by kernel_rfl)<|W1 h)) ?_
 intro w c i _ _ _ m f _;obtain⟨_,_,_,l,d,_,_,_,_,g⟩:=m;have e:l=Tryz.f6:=jf<|d.symm.trans Tryz.func6;subst e;obtain⟨⟨r,q⟩,y⟩:=f;obtain⟨o,p,b,t,x,hk⟩:=OpenSpec.pre_parts r;have n:=DataW.Whole.of_heap (w':=w.forCall c i) (by rfl) t;exact xxj (w.forCall c i) w.heap.size i.args o p b g n<|q.of_heap<|by rfl
end P
end Go.Proofs.YtjnbhiamaabbgaaGreatDoor
