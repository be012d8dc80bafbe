import Derived.Test.YtjnbhiamaabbgabGreatDoorM10
set_option linter.all false
set_option maxRecDepth 100000
set_option maxHeartbeats 8000000
namespace Go.Proofs.YtjnbhiamaabbgabGreatDoor
namespace A
open Go Go.Conc Go.RowKit Go.Conc.Lib
variable [pn:Pn] [py:Go.ConcR.Payload]
section
variable {o:Oper} {a:Act} {w:Zy}
noncomputable def Va:Array Oper:=match zct with| .seq _ (.seq (.region _ ops _) _)=>ops|_=>#[]
section
variable {Lb Bd:Nat} {bs ls:Int} {cp:Nat} {E:Event->Prop}
def xjj(hw:IntKind.i64.wrap (ls-bs)=(cp:Int))(hop:o.op= .binOp .sub 3 (.tmp 10) (.tmp 14) 3)(h:a.eval (.tmp 10)=zi ls)(c:a.eval (.tmp 14)=zi bs):Ox E a o (zi cp) w:=by
 constructor
 ·unfold execOp;simp only[hop,h,c];simp[go_sem,hw]
 intro e d;have b:=mem_listed d;unfold execOp at b;simp only[hop,h,c]at b;simp[go_sem,hw]at b
def xhu:(((Tryz.prog.info? 289).getD default).bytes:Int)=24:=by kernel_rfl
abbrev chO(cp:Nat):Obj:= .chan cp #[] false 0 0 false
abbrev bsO(v:Zv):Obj:= .cells #[v] 278
def xue(g:cp<=1000000000)(hop:o.op=Op.makeChan 278 (Operand.tmp 15))(b:a.eval (.tmp 15)=zi cp)(w:Zy):(execOp a.eval o).run Tryz.prog w= .ok (.value (.chan (some w.heap.size))) (w.alloc (chO cp))/\DE E w (w.alloc (chO cp)) (listed Tryz.prog 136 a o w):=by
 have f:=xhu;have d:=run_makeChan (w:=w) Tryz.underlying278 (by kernel_rfl) .i64 cp (by omega) (by rw[f];omega);have i:=events_makeChan (w:=w) Tryz.underlying278 (by kernel_rfl) .i64 cp (by omega) (by rw[f];omega) #[];constructor;unfold execOp;simp only[hop,b];simp[d];intro e h;have c:=mem_listed h;unfold execOp at c;simp only[hop,b]at c;simp[d,i,Xr]at c
def xrx(hop:o.op=Op.alloc 278)(w:Zy):(execOp a.eval o).run Tryz.prog w= .ok (.value (zo w.heap.size)) (w.alloc (bsO (.chan none)))/\DE E w (w.alloc (bsO (.chan none))) (listed Tryz.prog 136 a o w):=by
 constructor
 ·unfold execOp
  simp only[hop];simp[go_sem]
 intro e c;have b:=mem_listed c;unfold execOp at b;simp only[hop]at b;simp[go_sem]at b
def xjf{C Bs:Nat}(h:E ⟨.cell (zq Bs 0),true,false⟩)(hop:o.op=Op.store 278 (Operand.tmp 4) (Operand.tmp 16))(d:a.eval (.tmp 4)=zo Bs)(b:a.eval (.tmp 16)= .chan (some C))(f:w.cell? (zq Bs 0)=some (.chan none))(g:w.frozen? (zq Bs 0)=false):
  (execOp a.eval o).run Tryz.prog w= .ok .skip (w.setCell (zq Bs 0) (.chan (some C)))/\DE E w (w.setCell (zq Bs 0) (.chan (some C))) (listed Tryz.prog 136 a o w):=by
 constructor
 ·unfold execOp
  simp only[hop,d,b];simp[go_sem,stored,f,g]
 intro e i;have c:=mem_listed i;unfold execOp at c;simp only[hop,d,b]at c;simp[go_sem,storedEv,f,g]at c;subst c;exact h
def ch1(N:Nat)(y:Zv):Nat->Zv
 |3|5|7=> .chan (some N)
 |6|8=> .chan (some (N+1))
 |_=>y
def bx1(N:Nat)(y:Zv):Nat->Zv
 |1|4|6|8=>zo N
 |5|7=>zo (N+1)
 |_=>y
def w1(w₀:Zy)(cp:Nat):Nat->Zy
 |1|4=>w₀.alloc (bsO (.chan none))
 |3=>w₀.alloc (chO cp)
 |5=>(w₀.alloc (chO cp)).alloc (bsO (.chan none))
 |6=>(w₀.alloc (bsO (.chan none))).alloc (chO cp)
 |7=>((w₀.alloc (chO cp)).alloc (bsO (.chan none))).setCell (zq (w₀.heap.size+1) 0) (.chan (some w₀.heap.size))
 |8=>((w₀.alloc (bsO (.chan none))).alloc (chO cp)).setCell (zq w₀.heap.size 0) (.chan (some (w₀.heap.size+1)))
 |_=>w₀
def n1:Nat->Nat
 |0=>0|1=>1|2=>1|3=>2|4=>2|5=>3|6=>3|_=>4
abbrev l1(p q c:Nat):Array Bool:=#[decide (1<=p),decide (2<=p),decide (3<=p),decide (4<=p),decide (1<=q),decide (2<=q),decide (3<=q),decide (4<=q),decide (2<=c),decide (c=3\/5<=c),decide (c=1\/4<=c),decide (7<=c)]
def rd1(p:Nat)(f:p<5)(q:Nat)(g:q<5)(c:Nat)(b:c<9)(a:2<=c->p=4/\q=4):(Region.ready .any Va (l1 p q c)=[]->7<=c)/\(7<=c->Region.ready .any Va (l1 p q c)=[])/\∀i∈Region.ready .any Va (l1 p q c),(p=i/\p<4)\/(i=q+4/\q<4)\/(i=8/\(c=0\/c=1)/\p=4/\q=4)\/(i=9/\(c=2\/c=4))\/(i=10/\(c=0\/c=2\/c=3))\/(i=11/\(c=5\/c=6)):=by
 have h:∀(p q:_root_.Fin 5) (c:_root_.Fin 9),(decide (2<=c.val/\¬(p.val=4/\q.val=4))||((Region.ready .any Va (l1 p q c)).isEmpty==decide (7<=c.val))&&(Region.ready .any Va (l1 p q c)).all fun i=>decide ((p.val=i/\p.val<4)\/(i=q+4/\q.val<4)\/(i=8/\(c.val=0\/c.val=1)/\p.val=4/\q.val=4)\/(i=9/\(c.val=2\/c.val=4))\/(i=10/\(c.val=0\/c.val=2\/c.val=3))\/(i=11/\(c.val=5\/c.val=6))))=true:=by decide+kernel
 have:=h ⟨p,f⟩ ⟨q,g⟩ ⟨c,b⟩;rw[Yk,xl,zcd,Ju]at this;rcases this with h|⟨h,k⟩
 exact absurd (a (Xj h).1) (Xj h).2;exact⟨fun e=>(by rw[e]at h;exact Xj h.symm),fun e=>List.isEmpty_iff.mp (h.trans (decide_eq_true e)),fun i d=>Xj (k i d)⟩
def xt8:∀c<9,n1 c<=4/\(n1 c=4->7<=c):=by decide
def SL.w1(h:SL Lb bs ls w)(c:Nat):SL Lb bs ls (w1 w cp c):=by
 have b:Lb<w.heap.size:=Wb h.base;have a:∀{w:Zy} (o:Obj),SL Lb bs ls w->SL Lb bs ls (w.alloc o):=fun {w} o h=>by
  have b:Lb<w.heap.size:=Wb h.base;exact⟨(Zm (qy _ _ _ b)).trans h.base,(Zm (qy _ _ _ b)).trans h.last⟩
 have st:∀{w:Zy} (x:Addr) (v:Zv),x.block≠Lb->SL Lb bs ls w->SL Lb bs ls (w.setCell x v):=fun {w} x v d h=>
  ⟨(Zm ((aside_setCell w x v).block Lb (fun e=>d (by rw[e])))).trans h.base,(Zm ((aside_setCell w x v).block Lb (fun e=>d (by rw[e])))).trans h.last⟩
 unfold A.w1;split;exact a _ h;exact a _ h;exact a _ h;exact a _ (a _ h);exact a _ (a _ h);exact st _ _ (by simp;omega) (a _ (a _ h));exact st _ _ (by simp;omega) (a _ (a _ h));exact h
section
variable (y1 y2 y4 y5 y6 y7 y8 y9 y10 y11 y12 y13 y14 y15 y16 y17 y18 y19 y20 y21 y22 y23 y24 y25 y26 y27 y28 y29 y30 y31 y32 y33 y34:Value) (ds:List Deferred)
def xop(Lb Bd:Nat)(bs ls:Int)(cp N p q c:Nat):Act:=⟨#[zo Lb,y1,y2,zo Bd,(bx1 N y4 c),y5,y6,(if 1<=p then zo Lb else y7),(if 2<=p then zo Lb else y8),(if 3<=p then zk Lb 12 else y9),(if 4<=p then zi ls else y10),(if 1<=q then zo Lb else y11),(if 2<=q then zo Lb else y12),(if 3<=q then zk Lb 11 else y13),(if 4<=q then zi bs else y14),(if 2<=c then zi cp else y15),(ch1 N y16 c),y17,y18,y19,y20,y21,y22,y23,y24,y25,y26,y27,y28,y29,y30,y31,y32,y33,y34],ds⟩
def I1(Lb Bd:Nat)(bs ls:Int)(cp:Nat)(w₀:Zy)(m:Nat)(l:Array Bool)(a:Act)(w:Zy):Prop:=
 ∃p q c:Nat,p<5/\q<5/\c<9/\(2<=c->p=4/\q=4)/\l=l1 p q c/\m+(p+q+n1 c)=12/\a=xop y1 y2 y4 y5 y6 y7 y8 y9 y10 y11 y12 y13 y14 y15 y16 y17 y18 y19 y20 y21 y22 y23 y24 y25 y26 y27 y28 y29 y30 y31 y32 y33 y34 ds Lb Bd bs ls cp w₀.heap.size p q c/\∃d,w=(w1 w₀ cp c).at d
end
end
section
variable {Lb Bd:Nat} {bs ls:Int} {cp:Nat} {E:Event->Prop}
def xjg(c:cp<=1000000000)(hop:o.op= .makeChan 278 (.tmp 15))(b:a.eval (.tmp 15)=zi cp){N:Nat}(d:w.heap.size=N):(execOp a.eval o).run Tryz.prog w= .ok (.value (.chan (some N))) (w.alloc (chO cp))/\DE E w (w.alloc (chO cp)) (listed Tryz.prog 136 a o w):=by
 subst d;exact xue c hop b w
def zus(hop:o.op= .alloc 278){N:Nat}(b:w.heap.size=N):(execOp a.eval o).run Tryz.prog w= .ok (.value (zo N)) (w.alloc (bsO (.chan none)))/\DE E w (w.alloc (bsO (.chan none))) (listed Tryz.prog 136 a o w):=by
 subst b;exact xrx hop w
def sz1(w₀:Zy)(o:Obj)(d:Nat):((w₀.alloc o).at d).heap.size=w₀.heap.size+1:=xh _ _
def xpb(w₀:Zy)(d:Nat):(((w₀.alloc (chO cp)).alloc (bsO (.chan none))).at d).cell? (zq (w₀.heap.size+1) 0)=some (.chan none)/\(((w₀.alloc (chO cp)).alloc (bsO (.chan none))).at d).frozen? (zq (w₀.heap.size+1) 0)=false:=by
 have h:(((w₀.alloc (chO cp)).alloc (bsO (.chan none))).at d).heap[w₀.heap.size+1]?=some (bsO (.chan none)):=by
  have:=jw (w₀.alloc (chO cp)) (bsO (.chan none));rw[xh]at this;exact this
 exact⟨by simp[World.cell?,h],by simp[World.frozen?,h]⟩
def xpc(w₀:Zy)(d:Nat):(((w₀.alloc (bsO (.chan none))).alloc (chO cp)).at d).cell? (zq w₀.heap.size 0)=some (.chan none)/\(((w₀.alloc (bsO (.chan none))).alloc (chO cp)).at d).frozen? (zq w₀.heap.size 0)=false:=by
 have h:(((w₀.alloc (bsO (.chan none))).alloc (chO cp)).at d).heap[w₀.heap.size]?=some (bsO (.chan none)):=
  (qy _ _ _ (by rw[xh];omega)).trans (jw w₀ _)
 exact⟨by simp[World.cell?,h],by simp[World.frozen?,h]⟩
def xi2(M:∀x:Addr,x.block=Lb->E ⟨.cell x,false,false⟩)(hw:IntKind.i64.wrap (ls-bs)=(cp:Int))(z:cp<=1000000000){k:List Item}{cs:List Zf}{Stop:Zg->Zy->Prop}{n:Nat}{y1 y2 y4 y5 y6 y7 y8 y9 y10 y11 y12 y13 y14 y15 y16 y17 y18 y19 y20 y21 y22 y23 y24 y25 y26 y27 y28 y29 y30 y31 y32 y33 y34:Zv}{ds:List Deferred}{w₀:Zy}
  (y:∀x:Addr,w₀.heap.size<=x.block->x.block<w₀.heap.size+2->E ⟨.cell x,true,false⟩)(Q:SL Lb bs ls w₀)
  (f:∀c,c=7\/c=8->∀d,Goes Tryz.prog true AtRel (DE E) Stop n (G ((base 136).at (xop y1 y2 y4 y5 y6 y7 y8 y9 y10 y11 y12 y13 y14 y15 y16 y17 y18 y19 y20 y21 y22 y23 y24 y25 y26 y27 y28 y29 y30 y31 y32 y33 y34 ds Lb Bd bs ls cp w₀.heap.size 4 4 c) (.inRegion Va []::k)) cs) ((w1 w₀ cp c).at d)):
  Goes Tryz.prog true AtRel (DE E) Stop (n+12+1) (G ((base 136).at ⟨#[zo Lb,y1,y2,zo Bd,y4,y5,y6,y7,y8,y9,y10,y11,y12,y13,y14,y15,y16,y17,y18,y19,y20,y21,y22,y23,y24,y25,y26,y27,y28,y29,y30,y31,y32,y33,y34],ds⟩ (.code (.region 1 Va true)::k)) cs) w₀:=by
 refine zt4 (I:=I1 y1 y2 y4 y5 y6 y7 y8 y9 y10 y11 y12 y13 y14 y15 y16 y17 y18 y19 y20 y21 y22 y23 y24 y25 y26 y27 y28 y29 y30 y31 y32 y33 y34 ds Lb Bd bs ls cp w₀) xcc (by kernel_rfl) ?_ ?_ ?_ ?_ ?_ ?_;rintro m l a w g ⟨p,q,c,r,b,j,s,H,J,F,d,rfl⟩ ⟨O,rfl⟩;exact⟨p,q,c,r,b,j,s,H,J,F,O,rfl⟩;rintro m l a w ⟨p,q,c,r,b,j,s,H,J,F,d,rfl⟩;exact⟨p,q,c,r,b,j,s,H,J,F,d+1,rfl⟩;rintro m l a w ⟨p,q,c,B,C,t,b,rfl,e,rfl,d,rfl⟩ T;have F:=(rd1 p B q C c t b).1 T;obtain⟨rfl,rfl⟩:=b (by omega);exact f c (by omega) d;rintro l a w ⟨p,q,c,B,C,t,b,rfl,e,rfl,d,rfl⟩;have S:=xt8 c t;exact(rd1 p B q C c t b).2.1 (S.2 (by omega));rintro m l a w ⟨p,q,c,B,C,t,b,rfl,e,rfl,d,rfl⟩ i R;have N:∀c,SL Lb bs ls ((w1 w₀ cp c).at d):=fun c=>(Q.w1 c).at ⟨d,rfl⟩;have V:∀(d op) {a:Act} {v w g} {K:Act->Zy->Prop},(Va[i]?.map fun o=>(o.guard.isNone,o.dst,o.op))=some (true,d,op)->(∀o,o.op=op->(execOp a.eval o).run Tryz.prog w= .ok (.value v) g/\DE E w g (listed Tryz.prog 136 a o w))->K (a.put d v) g->zq2 Tryz.prog true (DE E) (base 136) k cs Va i a w K:=by
  intro d op a v w g K h D L;obtain⟨o,r,rfl,j,s⟩:=xd0.get h;exact zq2.value (by decide) r (s _) (D o j).1 (D o j).2 L
 have U:∀(d op) {a:Act} {w g} {K:Act->Zy->Prop},(Va[i]?.map fun o=>(o.guard.isNone,o.dst,o.op))=some (true,d,op)->(∀o,o.op=op->(execOp a.eval o).run Tryz.prog w= .ok .skip g/\DE E w g (listed Tryz.prog 136 a o w))->K (a.put d undef) g->zq2 Tryz.prog true (DE E) (base 136) k cs Va i a w K:=by
  intro d op a w g K h D L;obtain⟨o,r,rfl,j,s⟩:=xd0.get h;exact zq2.none (by decide) r (s _) (D o j).1 (D o j).2 L
 clear f;rcases(rd1 p B q C c t b).2.2 i R with⟨rfl,h⟩|⟨rfl,h⟩|⟨rfl,h,rfl,rfl⟩|⟨rfl,h⟩|⟨rfl,h⟩|⟨rfl,h⟩
 obtain rfl|rfl|rfl|rfl:p=0\/p=1\/p=2\/p=3:=by omega
 exact V (some 7) (.move (.tmp 0)) (by kernel_rfl) (fun o h=>xcx h rfl) ⟨1,q,c,by omega,by omega,by omega,by omega,rfl,by omega,rfl,d,rfl⟩;exact V (some 8) (.nilCheck (.tmp 7)) (by kernel_rfl) (fun o h=>xcy h rfl) ⟨2,q,c,by omega,by omega,by omega,by omega,rfl,by omega,rfl,d,rfl⟩;exact V (some 9) (.fieldAddr 147 (.tmp 8) 8) (by kernel_rfl) (fun o h=>xcv (.inr rfl) h rfl) ⟨3,q,c,by omega,by omega,by omega,by omega,rfl,by omega,rfl,d,rfl⟩;exact V (some 10) (.load 3 (.tmp 9)) (by kernel_rfl) (fun o h=>xcw M h rfl (N c).last) ⟨4,q,c,by omega,by omega,by omega,by omega,rfl,by omega,rfl,d,rfl⟩;obtain rfl|rfl|rfl|rfl:q=0\/q=1\/q=2\/q=3:=by omega
 exact V (some 11) (.move (.tmp 0)) (by kernel_rfl) (fun o h=>xcx h rfl) ⟨p,1,c,by omega,by omega,by omega,by omega,rfl,by omega,rfl,d,rfl⟩;exact V (some 12) (.nilCheck (.tmp 11)) (by kernel_rfl) (fun o h=>xcy h rfl) ⟨p,2,c,by omega,by omega,by omega,by omega,rfl,by omega,rfl,d,rfl⟩;exact V (some 13) (.fieldAddr 147 (.tmp 12) 7) (by kernel_rfl) (fun o h=>xcv (.inl rfl) h rfl) ⟨p,3,c,by omega,by omega,by omega,by omega,rfl,by omega,rfl,d,rfl⟩;exact V (some 14) (.load 3 (.tmp 13)) (by kernel_rfl) (fun o h=>xcw M h rfl (N c).base) ⟨p,4,c,by omega,by omega,by omega,by omega,rfl,by omega,rfl,d,rfl⟩;rcases h with rfl|rfl
 exact V (some 15) _ (by kernel_rfl) (fun o h=>xjj hw h rfl rfl) ⟨4,4,2,by omega,by omega,by omega,by omega,rfl,by simp[n1]at e⊢;omega,rfl,d,rfl⟩;exact V (some 15) _ (by kernel_rfl) (fun o h=>xjj hw h rfl rfl) ⟨4,4,4,by omega,by omega,by omega,by omega,rfl,by simp[n1]at e⊢;omega,rfl,d,rfl⟩;obtain⟨rfl,rfl⟩:=b (by omega);rcases h with rfl|rfl
 exact V (some 16) _ (by kernel_rfl) (fun o h=>xjg z h rfl rfl) ⟨4,4,3,by omega,by omega,by omega,by omega,rfl,by simp[n1]at e⊢;omega,rfl,d,rfl⟩;exact V (some 16) _ (by kernel_rfl) (fun o h=>xjg z h rfl (sz1 w₀ _ d)) ⟨4,4,6,by omega,by omega,by omega,by omega,rfl,by simp[n1]at e⊢;omega,rfl,d,rfl⟩;rcases h with rfl|rfl|rfl
 exact V (some 4) _ (by kernel_rfl) (fun o h=>zus h rfl) ⟨p,q,1,by omega,by omega,by omega,by omega,rfl,by simp[n1]at e⊢;omega,rfl,d,rfl⟩;exact V (some 4) _ (by kernel_rfl) (fun o h=>zus h rfl) ⟨p,q,4,by omega,by omega,by omega,by omega,rfl,by simp[n1]at e⊢;omega,rfl,d,rfl⟩;exact V (some 4) _ (by kernel_rfl) (fun o h=>zus h (sz1 w₀ _ d)) ⟨p,q,5,by omega,by omega,by omega,by omega,rfl,by simp[n1]at e⊢;omega,rfl,d,rfl⟩;obtain⟨rfl,rfl⟩:=b (by omega);rcases h with rfl|rfl
 exact U none _ (by kernel_rfl) (fun o h=>xjf (y _ (by simp) (by simp)) h rfl rfl (xpb w₀ d).1 (xpb w₀ d).2) ⟨4,4,7,by omega,by omega,by omega,by omega,rfl,by simp[n1]at e⊢;omega,rfl,d,rfl⟩;exact U none _ (by kernel_rfl) (fun o h=>xjf (y _ (by simp) (by simp)) h rfl rfl (xpc w₀ d).1 (xpc w₀ d).2) ⟨4,4,8,by omega,by omega,by omega,by omega,rfl,by simp[n1]at e⊢;omega,rfl,d,rfl⟩;exact⟨0,0,0,by decide,by decide,by decide,by decide,rfl,rfl,rfl,w₀.drawn,rfl⟩
end
section
variable {P:Program} {E:Event->Prop} {Stop:Goroutine->World->Prop} {m:Nat} {b:Frame} {a:Act} {k:List Item} {cs:List Frame} {w w':World}
def Lg(P:Zp)(E:Event->Prop)(Stop:Zg->Zy->Prop)(m:Nat)(g:Zg)(w:Zy):Prop:=∀d,Goes P true AtRel (DE E) Stop m g (w.at d)
theorem Lg.ctl{g g':Zg}(f:g.status= .running)(h:∀w,stepG P true g w= .go g' w)(c:Lg P E Stop m g' w):Lg P E Stop (m+1) g w:=fun d=>Goes.step f fun j i=>by
 obtain⟨a,rfl⟩:=i;rw[h];exact⟨fun e b=>by simp at b,c a⟩
def Lg.value{ops:Array Oper}{i:Nat}{rest:List Nat}{op:Oper}(v:Zv)(ho:ops[i]?=some op)(hw:Region.wanted op (yielded ops a.tmps)=true)(hk:b.kind≠ .early)
  (j:∀d,(execOp a.eval op).run P (w.at d)= .ok (.value v) (w'.at d))(f:∀d,∀e∈(execOp a.eval op).events P (w.at d) #[],E e)
  (g:Lg P E Stop m (G (b.at (a.put op.dst v) (.inRegion ops rest::k)) cs) w'):Lg P E Stop (m+1) (G (b.at a (.inRegion ops (i::rest)::k)) cs) w:=fun d=>Goes.step rfl fun n l=>by
 obtain⟨c,rfl⟩:=l;change(stepG P true _ (w.at c)).goes _;rw[stepG_value (w':=w'.at c) ho hw hk (j c)];exact⟨fun e h=>f c e (mem_listed h),g c⟩
end
noncomputable def K1:=Qb (Qb zct)
noncomputable def K5:=Qn 4 K1
abbrev wgO:Obj:= .cells #[.int .u64 0,zu 0] 286
section
variable {Lb Bd Bs C Wg:Nat} {bs ls:Int} {cp X0:Nat} [Go.ConcX.Shy Wg Bd] {Stop:Goroutine->World->Prop}
def xi1(s:∀x:Addr,x.block=Lb->Go.ConcX.EvS Wg Bd ⟨.cell x,false,false⟩)(hw:IntKind.i64.wrap (bs+1)=bs+1){cs:List Zf}{y1 y2 y5 y6 y17 y18 y19 y20 y21 y22 y23 y24 y25 y26 y27 y28 y29 y30 y31 y32 y33 y34:Zv}{wB:Zy}(q:wB.heap.size=Wg)(h:SL Lb bs ls wB)
  (b:∀d,Stop (G ((base 136).at ⟨#[zo Lb,y1,y2,zo Bd,zo Bs,zo Wg,y6,zo Lb,zo Lb,zk Lb 12,zi ls,zo Lb,zo Lb,zk Lb 11,zi bs,zi cp,.chan (some C),.tuple #[],.func (.func 211) #[] #[zo Wg,zo Bs,zo Bd],zo Lb,zo Lb,zk Lb 11,zi bs,zi (bs+1),zo Lb,zo Lb,zk Lb 12,zi ls,y28,y29,y30,y31,y32,y33,y34],[dcall 209 #[zo Wg]]⟩ [.inRegion zgp [10],.code K5]) cs) (((wB.alloc wgO).setCell (zq Wg 0) (.int .u64 4294967296)).at d)):
  Lg Tryz.prog (Go.ConcX.EvS Wg Bd) (Go.ConcX.AtMkS Tryz.prog .disable fun a w=>∃n,Goes Tryz.prog true AtRel (DE (Go.ConcX.EvS Wg Bd)) (Go.ConcX.AtMkS Tryz.prog .enable fun a w=>∃n,Goes Tryz.prog true AtRel (DE (Go.ConcX.EvS Wg Bd)) Stop n a w) n a w) 24
   (G ((base 136).at ⟨#[zo Lb,y1,y2,zo Bd,zo Bs,y5,y6,zo Lb,zo Lb,zk Lb 12,zi ls,zo Lb,zo Lb,zk Lb 11,zi bs,zi cp,.chan (some C),y17,y18,y19,y20,y21,y22,y23,y24,y25,y26,y27,y28,y29,y30,y31,y32,y33,y34],[]⟩ [.inRegion Va [],.code K1]) cs) wB:=by
 have f:Lb<wB.heap.size:=Wb h.base;have i:SL Lb bs ls ((wB.alloc wgO).setCell (zq Wg 0) (.int .u64 4294967296)):=by
  have p:SL Lb bs ls (wB.alloc wgO):=⟨(Zm (qy _ _ _ f)).trans h.base,(Zm (qy _ _ _ f)).trans h.last⟩;exact⟨(Zm ((aside_setCell _ _ _).block Lb (by simp;omega))).trans p.base,(Zm ((aside_setCell _ _ _).block Lb (by simp;omega))).trans p.last⟩
 have m:(wB.alloc wgO).heap[Wg]?=some wgO:=by subst q;exact jw _ _
 simp only[K1,zct,Tryz.f136,jv];refine Lg.ctl rfl (fun _=>stepG_region_end) ?_;refine Lg.ctl rfl (fun _=>stepG_seq) ?_;refine Lg.ctl rfl (fun _=>stepG_region) ?_;refine Lg.value (w':=wB.alloc wgO) (zo Wg) rfl rfl (by decide) (fun d=>by subst q;simp[execOp,go_sem];exact⟨rfl,rfl⟩) (fun d e j=>by simp[execOp,go_sem]at j) ?_
 walk_nrm
 refine Lg.ctl rfl (fun _=>stepG_region_end) ?_;refine Lg.ctl rfl (fun _=>stepG_seq) ?_;refine Lg.ctl rfl (fun _=>stepG_region) ?_;refine Lg.ctl rfl (fun _=>stepG_defer rfl rfl (by decide) rfl) ?_
 walk_nrm
 refine Lg.ctl rfl (fun _=>stepG_region_end) ?_;refine Lg.ctl rfl (fun _=>stepG_seq) ?_;refine Lg.ctl rfl (fun _=>stepG_region) ?_;intro d;refine Goes.step rfl (fun z t=>?_);obtain⟨o,rfl⟩:=t;refine goes_call (c:=Go.ConcX.Gen.body_add ze6) rfl rfl (by decide) rfl Tryz.func210 (by kernel_rfl) rfl ⟨fun e j=>by simp at j, ?_⟩
 walk_nrmf Tryz.f210
 refine Goes.mono (Go.ConcX.Gen.addPos (mT:=14) xdw _ m ?_) (by omega);change Goes _ _ _ _ _ 14 _ (((wB.alloc wgO).setCell (zq Wg 0) (.int .u64 4294967296)).at o)
 walk_nrm
 revert o;change Lg _ _ _ 14 _ ((wB.alloc wgO).setCell (zq Wg 0) (.int .u64 4294967296));refine Lg.ctl rfl (fun _=>stepG_region_end) ?_;refine Lg.ctl rfl (fun _=>stepG_seq) ?_;intro d;refine xif (n:=0) (k:=[.code K5]) s hw (fun w' l=>?_) (i.at ⟨d,rfl⟩);refine Goes.stop fun v g=>?_;obtain⟨y,rfl⟩:=l;obtain⟨r,rfl⟩:=g;exact b r
end
noncomputable def zdw(Lb D Bd Bs C Wg:Nat)(bs ls:Int)(cp:Nat):Act:=⟨#[zo Lb,zo D,undef,zo Bd,zo Bs,zo Wg,undef,zo Lb,zo Lb,zk Lb 12,zi ls,zo Lb,zo Lb,zk Lb 11,zi bs,zi cp,.chan (some C),.tuple #[],.func (.func 211) #[] #[zo Wg,zo Bs,zo Bd],zo Lb,zo Lb,zk Lb 11,zi bs,zi (bs+1),zo Lb,zo Lb,zk Lb 12,zi ls,undef,undef,undef,undef,undef,undef,undef],[dcall 209 #[zo Wg]]⟩
abbrev bdO(D:Nat):Obj:= .cells #[zo D] 89
def goW(w₀:Zy)(D cp c:Nat):Zy:=((w1 (w₀.alloc (bdO D)) cp c).alloc wgO).setCell (zq (w₀.heap.size+3) 0) (.int .u64 4294967296)
def cOf(N c:Nat):Nat:=if c=7 then N+1 else N+2
def sOf(N c:Nat):Nat:=if c=7 then N+2 else N+1
def zn1(w:Zy)(cp:Nat){c:Nat}(a:c=7\/c=8):(w1 w cp c).heap.size=w.heap.size+2:=by
 have b:∀(w:Zy) (x:Addr) (v:Zv),(w.setCell x v).heap.size=w.heap.size:=fun w x v=>by
  unfold World.setCell;split<;>simp
 rcases a with rfl|rfl<;>simp[w1,b,xh]
section
variable {Lb D:Nat} {bs ls:Int} {cp:Nat} {w₀:World} [Go.ConcX.Shy (w₀.heap.size+3) w₀.heap.size] {Stop:Goroutine->World->Prop} {cs:List Frame}
def xju(r:∀x:Addr,x.block=Lb->Go.ConcX.EvS (w₀.heap.size+3) w₀.heap.size ⟨.cell x,false,false⟩)(l:∀x:Addr,w₀.heap.size+1<=x.block->x.block<w₀.heap.size+3->Go.ConcX.EvS (w₀.heap.size+3) w₀.heap.size ⟨.cell x,true,false⟩)
  (hw:IntKind.i64.wrap (ls-bs)=(cp:Int))(p:cp<=1000000000)(q:IntKind.i64.wrap (bs+1)=bs+1)(m:SL Lb bs ls w₀)
  (f:∀c,c=7\/c=8->∀d,Stop (G ((base 136).at (zdw Lb D w₀.heap.size (sOf w₀.heap.size c) (cOf w₀.heap.size c) (w₀.heap.size+3) bs ls cp) [.inRegion zgp [10],.code K5]) cs) ((goW w₀ D cp c).at d)):
  Lg Tryz.prog (Go.ConcX.EvS (w₀.heap.size+3) w₀.heap.size) (Go.ConcX.AtMkS Tryz.prog .disable fun a w=>∃n,Goes Tryz.prog true AtRel (DE (Go.ConcX.EvS (w₀.heap.size+3) w₀.heap.size)) (Go.ConcX.AtMkS Tryz.prog .enable fun a w=>∃n,Goes Tryz.prog true AtRel (DE (Go.ConcX.EvS (w₀.heap.size+3) w₀.heap.size)) Stop n a w) n a w) 42
   (G ((base 136).at ⟨#[zo Lb,zo D,undef,undef,undef,undef,undef,undef,undef,undef,undef,undef,undef,undef,undef,undef,undef,undef,undef,undef,undef,undef,undef,undef,undef,undef,undef,undef,undef,undef,undef,undef,undef,undef,undef],[]⟩ [.code zct]) cs) w₀:=by
 have i:Lb<w₀.heap.size:=Wb m.base;have h:SL Lb bs ls (w₀.alloc (bdO D)):=⟨(Zm (qy _ _ _ i)).trans m.base,(Zm (qy _ _ _ i)).trans m.last⟩;have g:(w₀.alloc (bdO D)).heap.size=w₀.heap.size+1:=xh _ _;have y:zct= .seq (.region 0 #[{dst:=some 3,op:=Op.box 89 (Operand.tmp 1),type:=0,pos:= "look.go:75",after:=#[],guard:=none}] false) (.seq (.region 1 Va true) K1):=by kernel_rfl
 rw[y];refine Lg.ctl rfl (fun _=>stepG_seq) ?_
 (refine Lg.ctl rfl (fun _=>stepG_region) ?_;simp only[jg,zh,jn,Nat.reduceAdd,jy,List.range,List.range.loop])
 refine Lg.value (w':=w₀.alloc (bdO D)) (zo w₀.heap.size) rfl rfl (by decide) (fun d=>by simp[execOp,go_sem];exact⟨rfl,rfl⟩) (fun d e B=>by simp[execOp,go_sem]at B) ?_
 walk_nrm
 refine Lg.ctl rfl (fun _=>stepG_region_end) ?_;refine Lg.ctl rfl (fun _=>stepG_seq) ?_;intro d;refine Goes.mono (xi2 (n:=24) (w₀:=(w₀.alloc (bdO D)).at d) (k:=[.code K1]) r hw p (fun x t v=>l x (by rw[<-g];exact t) (by have j:x.block<(w₀.alloc (bdO D)).heap.size+2:=v;rw[g]at j;omega)) (h.at ⟨d,rfl⟩) ?_) (by omega);intro c o s;have z:(w1 (w₀.alloc (bdO D)) cp c).heap.size=w₀.heap.size+3:=by rw[zn1 _ _ o,g]
 have b:=xi1 (Lb:=Lb) (Bd:=w₀.heap.size) (Bs:=sOf w₀.heap.size c) (C:=cOf w₀.heap.size c) (Wg:=w₀.heap.size+3) (bs:=bs) (ls:=ls) (cp:=cp) (Stop:=Stop) r q (cs:=cs) (y1:=zo D) (y2:=undef) (y5:=undef) (y6:=undef) (y17:=undef) (y18:=undef) (y19:=undef) (y20:=undef) (y21:=undef) (y22:=undef) (y23:=undef) (y24:=undef) (y25:=undef) (y26:=undef) (y27:=undef) (y28:=undef) (y29:=undef) (y30:=undef) (y31:=undef) (y32:=undef) (y33:=undef) (y34:=undef)
  (wB:=w1 (w₀.alloc (bdO D)) cp c) z (h.w1 c) (fun d=>f c o d) s
 rcases o with rfl|rfl;simp only[xop,ch1,bx1,sOf,cOf,g,show((w₀.alloc (bdO D)).at d).heap.size=w₀.heap.size+1 from g,if_true,ze,Nat.reduceLeDiff,↓reduceIte]at b⊢;exact b;simp only[xop,ch1,bx1,sOf,cOf,g,show((w₀.alloc (bdO D)).at d).heap.size=w₀.heap.size+1 from g,if_true,ze,Nat.reduceLeDiff,Nat.reduceEqDiff,↓reduceIte]at b⊢;exact b
end
end
end A
namespace A
open Go Go.Conc
open Go.ConcN (sumTo upd sumTo_upd upd_ne upd_same)
variable [pn:Pn]
section
variable {P:Program} {X X0:Nat->Prop} {Th:Loc->Prop} {Wg C c p B:Nat} {a0:Addr} {T t:Trace}
def Zw(Wg C:Nat)(a:Touch):Prop:=(WgL Wg a.loc->a.kind≠ .plain)/\(a.loc= .obj C->a.write=false)
def TP.of_pastE(h:We X0 B (Zw Wg C) 0 T)(n:∀x,X0 x->X x)(z:¬X0 Wg)(f:∀l,Th l->¬ShX X0 l/\¬ShO X0 l)(m:∀l,Th l->l.isMemory=true):TP X Th Wg C 0 a0 T.size B T:=by
 have s:∀i a,touchAt T i=some a->Th a.loc->Knows T 0 i:=fun i a c d=>by
  rcases h.known i a c (m _ d)with x|x|x;exact x;exact absurd x.1 (f _ d).1;exact absurd x.1 (f _ d).2
 refine⟨h.clean,fun i a c y=>?_,fun i a c d _=>s i a c d,fun i a c d=> .inl (s i a c d),fun i a c d=>(h.zed i a c).2 d,fun i a c q=>⟨(h.zed i a c).1 q,fun p=>?_⟩,fun i g v j t=> .inl (h.over i g v j t),h.seen,fun i D w=>?_⟩;rcases h.known i a c y with x|⟨⟨b,e,o⟩,hk⟩|⟨⟨r,e,k⟩,hk⟩
 exact .inl x;exact .inr (.inl ⟨⟨b,e,n _ o⟩,hk⟩);exact .inr (.inr (.inr ⟨⟨r,e,n _ k⟩,fun d=>(f _ d).2 ⟨r,e,k⟩,hk⟩));obtain⟨b,e,o⟩:=q;rcases h.known i a c (by rw[e];rfl)with x|⟨⟨b',e',hb'⟩,hk⟩|⟨⟨r,e',k⟩,hk⟩
 exact x;rw[hk]at p;cases p;rw[e]at e';cases e';have:=lt_of_act? w;omega
def xki{Z:Touch->Prop}{g g' child:Zg}(l:g.status= .running){q:Nat->Nat}{gs:Array Zg}{v:Zy}{sl:Option (Nat×Nat)}(I:gs[0]?=some g)(C:Leavers P t gs q)(V:We X B Z 0 t)
  (h:∀d,stepG P true g (v.at d)= .spawn g' child (v.at d) #[]):
  ∃N gs' d sl' t' q' x y,runNT P N (crowd gs v sl) t=(.next (crowd (gs'.push child) (v.at d) sl'),t'++#[x,y])/\gs'[0]?=some g'/\gs'.size=gs.size/\Leavers P t' gs' q'/\We X B Z 0 t'/\(x.g=0/\x.act= .go gs.size)/\(y.g=gs.size/\y.act= .start):=by
 induction hk:sumTo gs.size q using Nat.strongRecOn generalizing gs q v sl t with
 |_ k ih=>
  have M:∀g∈gs,awake g:=by
   intro c b;obtain⟨i,m,rfl⟩:=Z1.1 b;rcases jl i with rfl|f
   have:gs[0]=g:=by simpa[xg m]using I
   rw[this];exact awake_of (.inl l);exact awake_of ((C.old i _ f (xg m)).status.elim .inl fun x=> .inr (.inr x))
  obtain⟨i,c,d,sl',m,b,E⟩:=crowd_pick (P:=P) (w:=v) (sl:=sl) M ⟨0,g,I,l⟩;have p:i<gs.size:=(za.1 m).1;rcases jl i with rfl|f
  obtain rfl:c=g:=by rw[I]at m;exact(jf m).symm
  have a:=runT_crowd_spawn (sl:=sl') m (show stepG P _ c _=_ from h d);refine⟨1,gs.setIfInBounds 0 g',d,sl',t,q,{g:=0,fn:=c.frame.fn,pos:=c.frame.place,act:= .go gs.size},{g:=gs.size,fn:=child.frame.fn,pos:=c.frame.place,act:= .start}, ?_,by simp[p],by simp,⟨fun j z o Y=>?_,fun j o=>C.above j (by simpa using o)⟩,V,⟨rfl,rfl⟩,rfl,rfl⟩;simp only[runNT,E,a];rfl;have r:0≠j:=by omega
  rw[zd r]at Y;exact C.old j z o Y;have J:=C.old i c f m;have O:(i==0)=false:=by simp;omega
  cases hqi:q i with
  |zero=>rw[hqi]at J;rw[J.1]at b;cases b
  |succ k'=>
   rw[hqi]at J;rcases J with⟨hf,_⟩|⟨_,H,es,hm,F,Q⟩
   rw[hf]at b;cases b;have a:=runT_crowd_go (sl:=sl') m (by rw[O];exact F (v.at d));have G:((gs.map (woken P c H (v.at d))).setIfInBounds i H).size=gs.size:=by simp
   have W:sumTo gs.size (upd q i k')+(k'+1)=sumTo gs.size q+k':=by
    have:=sumTo_upd q k' id p;simpa[hqi]using this
   obtain⟨N,L,d2,R,t2,q2,x,y,b1,b2,S,b4,b5,T,U⟩:=ih (sumTo gs.size (upd q i k')) (by omega) (q:=upd q i k') (t:=t++MemOp.ofEvents i c.frame.fn c.frame.place es) (gs:=(gs.map (woken P c H (v.at d))).setIfInBounds i H) (v:=v.at d) (sl:=sl')
    (by
     have r:i≠0:=by omega
     rw[zd r,jj,I];simp[woken_run l])
    ⟨fun j z o K=>by
     by_cases n:i=j;subst n;rw[zx (by simpa using p)]at K;obtain rfl:=jf K;rw[upd_same,Deaf_own];exact Q;rw[zd n,jj]at K;obtain⟨y,hy,rfl⟩:=zt.1 K;have D:=C.old j y o hy;rw[woken_quitsD D,upd_ne q k' (Ne.symm n),Deaf_other t n _ (fun op s=>by obtain⟨e,_,rfl⟩:=zy s;rfl)];exact D,fun j o=>by
     rw[Deaf_other t (g':=i) (by simp at o;omega) _ (fun op s=>by obtain⟨e,_,rfl⟩:=zy s;rfl)];exact C.above j (by simpa using o)⟩
    (V.mute (by omega) hm) (fun d'=>h d') (by rw[G])
   rw[G]at S T U;exact⟨1+N,L,d2,R,t2,q2,x,y,ql (by simp only[runNT,E,a]) b1,b2,S,b4,b5,T,U⟩
end
end A
namespace A
open Go Go.Conc Go.RowKit Go.Conc.Lib
variable [pn:Pn] [py:Go.ConcR.Payload]
section
variable {Lb D Bd Bs C Wg:Nat} {bs ls:Int} {cp:Nat} {cs:List Frame}
def zxw:Oper:={dst:=none,op:=Op.go {callee:=Callee.value (Operand.tmp 18),args:=#[Operand.tmp 23,Operand.tmp 27],argTypes:=#[3,3]},type:=0,pos:= "look.go:80",after:=#[{on:=0,ground:=Ground.data},{on:=5,ground:=Ground.data},{on:=9,ground:=Ground.data}],guard:=none}
def xp5:zgp[10]?=some zxw:=by kernel_rfl
def xmx(w:Zy):stepG Tryz.prog true (G ((base 136).at (zdw Lb D Bd Bs C Wg bs ls cp) [.inRegion zgp [10],.code K5]) cs) w= .spawn (G ((base 136).at (zdw Lb D Bd Bs C Wg bs ls cp) [.inRegion zgp [],.code K5]) cs) (born Tryz.prog (call211 Bd Bs Wg (bs+1) ls)) w #[]:=by
 have b:(execOp (zdw Lb D Bd Bs C Wg bs ls cp).eval zxw).run Tryz.prog w= .ok (.spawn (call211 Bd Bs Wg (bs+1) ls)) w:=by
  unfold execOp;simp only[zxw];simp[zdw,Act.eval,go_sem,call211]
 have a:(execOp (zdw Lb D Bd Bs C Wg bs ls cp).eval zxw).events Tryz.prog w #[]=#[]:=by
  unfold execOp;simp only[zxw];simp[zdw,Act.eval,go_sem]
 rw[stepG_spawn (w':=w) xp5 rfl (by decide) b rfl];unfold listed;rw[a,seen_none];rfl
end
def segs_length(es:Array MapEntry):∀(k:Nat) (n:Int),(segs es n k).length=k
 |0,_=>rfl
 |k+1,n=>by simp[segs,segs_length es k]
def zb0(w₀:Zy)(D cp:Nat){c:Nat}(f:c=7\/c=8){r:Nat}(g:r<w₀.heap.size)(d:Nat):((goW w₀ D cp c).at d).heap[r]?=w₀.heap[r]?:=by
 have a:∀(w:Zy) (o:Obj) {r:Nat},r<w.heap.size->(w.alloc o).heap[r]?=w.heap[r]?:=fun w o r h=>qy _ _ _ h;have b:(w₀.alloc (bdO D)).heap.size=w₀.heap.size+1:=xh _ _;have e:(w1 (w₀.alloc (bdO D)) cp c).heap[r]?=w₀.heap[r]?:=by
  rcases f with rfl|rfl;simp only[w1];rw[(aside_setCell _ _ _).block r (by simp;omega),a _ _ (by simp only[xh];omega),a _ _ (by rw[b];omega),a _ _ g];simp only[w1];rw[(aside_setCell _ _ _).block r (by simp;omega),a _ _ (by simp only[xh];omega),a _ _ (by rw[b];omega),a _ _ g]
 show(goW w₀ D cp c).heap[r]?=_;unfold goW;rw[(aside_setCell _ _ _).block r (by simp;omega),a _ _ (by rw[zn1 _ _ f,b];omega),e]
def zpg(w₀:Zy)(D cp:Nat){c:Nat}(a:c=7\/c=8)(d:Nat):((goW w₀ D cp c).at d).heap.size=w₀.heap.size+4:=by
 have b:∀(w:Zy) (x:Addr) (v:Zv),(w.setCell x v).heap.size=w.heap.size:=fun w x v=>by
  unfold World.setCell;split<;>simp
 show(goW w₀ D cp c).heap.size=_;unfold goW;rw[b,xh,zn1 _ _ a,xh]
def zuf(w₀:Zy)(D cp:Nat){c:Nat}(k:c=7\/c=8)(d:Nat):((goW w₀ D cp c).at d).heap[w₀.heap.size]?=some (bdO D)/\((goW w₀ D cp c).at d).heap[cOf w₀.heap.size c]?=some (chO cp)/\
  ((goW w₀ D cp c).at d).heap[sOf w₀.heap.size c]?=some (bsO (.chan (some (cOf w₀.heap.size c))))/\((goW w₀ D cp c).at d).heap[w₀.heap.size+3]?=some (.cells #[.int .u64 4294967296,zu 0] 286):=by
 show(goW w₀ D cp c).heap[w₀.heap.size]?=_/\(goW w₀ D cp c).heap[cOf w₀.heap.size c]?=_/\(goW w₀ D cp c).heap[sOf w₀.heap.size c]?=_/\(goW w₀ D cp c).heap[w₀.heap.size+3]?=_;have n1:w₀.heap.size≠w₀.heap.size+1:=by omega
 have j:∀(w:Zy) (o:Obj) {r:Nat},r<w.heap.size->(w.alloc o).heap[r]?=w.heap[r]?:=fun w o r h=>qy _ _ _ h;have i:∀(w:Zy) (o:Obj) {r:Nat},w.heap.size=r->(w.alloc o).heap[r]?=some o:=fun w o r h=>by subst h;exact jw _ _
 have f:∀(w:Zy) (x:Addr) (v:Zv) {r:Nat},x.block≠r->(w.setCell x v).heap[r]?=w.heap[r]?:=fun w x v r h=>(aside_setCell w x v).block r (fun e=>h e.symm);have st:∀(w:Zy) (r:Nat) (v:Zv) (l:Za) (e:Zt),w.heap[r]?=some (.cells l e (0,0))->(w.setCell (zq r 0) v).heap[r]?=some (.cells (l.setIfInBounds 0 v) e (0,0)):=fun w r v l e h=>by
  unfold World.setCell;simp only;rw[modify_eq_set _ _ _ _ h];simp[(za.1 h).1]
 have a:(w₀.alloc (bdO D)).heap.size=w₀.heap.size+1:=xh _ _;have g:=zn1 (w₀.alloc (bdO D)) cp k;rw[a]at g;have b:∀{r:Nat},r<w₀.heap.size+3->(goW w₀ D cp c).heap[r]?=(w1 (w₀.alloc (bdO D)) cp c).heap[r]?:=fun {r} h=>by
  unfold goW;rw[f _ _ _ (by simp;omega),j _ _ (by rw[g];omega)]
 refine⟨?_, ?_, ?_, ?_⟩;rw[b (by omega)];rcases k with rfl|rfl<;>simp only[w1]<;>rw[f _ _ _ (by simp only[a];omega),j _ _ (by simp only[xh];omega),j _ _ (by simp only[xh];omega),i _ _ rfl]
 rcases k with rfl|rfl;rw[show cOf w₀.heap.size 7=w₀.heap.size+1 from rfl,b (by omega)];simp only[w1];rw[f _ _ _ (by simp only[a];omega),j _ _ (by simp only[xh];omega),i _ _ a];rw[show cOf w₀.heap.size 8=w₀.heap.size+2 from rfl,b (by omega)];simp only[w1];rw[f _ _ _ (by simp only[a];omega),i _ _ (by simp only[xh])];rcases k with rfl|rfl;rw[show sOf w₀.heap.size 7=w₀.heap.size+2 from rfl,show cOf w₀.heap.size 7=w₀.heap.size+1 from rfl,b (by omega)];simp only[w1,a];exact st _ _ _ _ _ (i _ _ (by simp only[xh]));rw[show sOf w₀.heap.size 8=w₀.heap.size+1 from rfl,show cOf w₀.heap.size 8=w₀.heap.size+2 from rfl,b (by omega)];simp only[w1,a];exact st _ _ _ _ _ ((j _ _ (by simp only[xh];omega)).trans (i _ _ a));unfold goW;exact st _ _ _ _ _ (i _ _ g)
section
variable {X:Nat->Prop} {gs:Array Goroutine} {v:World} {sl:Option (Nat×Nat)} {t:Trace} {k:Nat×Nat} {Lb D M clock:Nat} {es:Array MapEntry} {rm nx:Value} {bs ls:Int} {cp:Nat} {cs:List Frame}
def Sx(N D c:Nat)(x:Nat):Prop:=x=D\/x=N\/x=sOf N c
def Xx(X:ZP)(N D M:Nat)(x:Nat):Prop:=X x\/x=D\/x=M\/(N<=x/\x<N+4)
def ox(v:Zy)(x:Nat):Obj:=(v.heap[x]?).getD (.cells #[] 0)
def zwv{B Wg C:Nat}(n:Wg<B)(m:C<B)(o:¬X C){e:Event}(h:@Go.ConcX.EvS Wg C (xvm X B Wg C n m o) e):EvT X B e/\∀x,(MemAct.ofEvent e).touch?=some x->(∀c,Zw Wg c x):=by
 obtain⟨i,q,r,j,k,g⟩:=h;refine⟨⟨fun x d=>⟨(g x d).1,(g x d).2.1,(g x d).2.2.1⟩,fun f=>j ?_,fun f=>k ?_⟩,fun x d c=>⟨fun p=>(i x d).1 (.inl p),fun f=>absurd f ((g x d).2.2.2 c)⟩⟩;cases e with
 |mk l a b=>cases f;rfl
 cases e with
 |mk l a b=>cases f;rfl
def xq4(hJ:JL Tryz.prog X k gs v t)(h0:gs[0]?=some (G ((base 136).at ⟨#[zo Lb,zo D,undef,undef,undef,undef,undef,undef,undef,undef,undef,undef,undef,undef,undef,undef,undef,undef,undef,undef,undef,undef,undef,undef,undef,undef,undef,undef,undef,undef,undef,undef,undef,undef,undef],[]⟩ [.code zct]) cs))(B:¬X Lb)(L:SL Lb bs ls v)(f:∀x,X x->x<v.heap.size)
  (hw:IntKind.i64.wrap (ls-bs)=(cp:Int))(F:cp<=1000000000)(I:IntKind.i64.wrap (bs+1)=bs+1):
  ∃N gs' d sl' t' q c x y,(c=7\/c=8)/\runNT Tryz.prog N (crowd gs v sl) t=(.next (crowd (gs'.push (born Tryz.prog (call211 v.heap.size (sOf v.heap.size c) (v.heap.size+3) (bs+1) ls))) ((goW v D cp c).at d) sl'),t'++#[x,y])/\
   gs'[0]?=some (G ((base 136).at (zdw Lb D v.heap.size (sOf v.heap.size c) (cOf v.heap.size c) (v.heap.size+3) bs ls cp) [.inRegion zgp [],.code K5]) cs)/\gs'.size=gs.size/\Leavers Tryz.prog t' gs' q/\
   We X (v.heap.size+4) (fun a=>∀C,v.heap.size<=C->Zw (v.heap.size+3) C a) 0 t'/\(x.g=0/\x.act= .go gs.size)/\(y.g=gs.size/\y.act= .start):=by
 obtain⟨q,hL,hP,rfl⟩:=hJ;have bb:Lb<v.heap.size:=Wb L.base;have z:¬X v.heap.size:=fun h=>by have:=f _ h;omega
 letI:=xvm X (v.heap.size+4) (v.heap.size+3) v.heap.size (by omega) (by omega) z
 have hE:∀x:Addr,x.block=Lb->Go.ConcX.EvS (v.heap.size+3) v.heap.size ⟨.cell x,false,false⟩:=fun x l=>Go.ConcX.Gen.evS_cell x false false (by omega) (by omega) (fun y i=>by
  simp only[MemAct.touch?,zp]at i;subst i;exact⟨fun⟨r,e,n⟩=>by cases e;rw[l]at n;exact absurd n B,fun⟨r,e,_⟩=>(by cases e),(by simp only[Loc.low];omega),fun r e=>(by cases e)⟩)
 have p:∀x:Addr,v.heap.size+1<=x.block->x.block<v.heap.size+3->Go.ConcX.EvS (v.heap.size+3) v.heap.size ⟨.cell x,true,false⟩:=fun x h1 h2=>Go.ConcX.Gen.evS_cell x true false (by omega) (by omega) (fun y i=>by
  simp only[MemAct.touch?,zp]at i;subst i;exact⟨fun⟨r,e,n⟩=>by cases e;have:=f _ n;omega,fun⟨r,e,_⟩=>(by cases e),(by simp only[Loc.low];omega),fun r e=>(by cases e)⟩)
 have s:We X (v.heap.size+4) (fun a=>∀C,v.heap.size<=C->Zw (v.heap.size+3) C a) 0 t:=(hP.toE fun a m C hC=>⟨fun⟨b,e,hb⟩=>by
   rw[e]at m;have:b.block<v.heap.size:=m;omega,fun e=>by
   rw[e]at m;have:C<v.heap.size:=m;omega⟩).mono (by omega)
 have j:=xju (Stop:=fun g w=>∃c d,(c=7\/c=8)/\g=G ((base 136).at (zdw Lb D _ (sOf _ c) (cOf _ c) _ bs ls cp) _) cs/\w=(goW v D cp c).at d) hE p hw F I L
  (fun c E d=>⟨c,d,E,rfl,rfl⟩) v.drawn
 obtain⟨T,ba,O,J,t1,q1,a1,r1,Y,s1,R,V,z1⟩:=xpz (sl:=sl) (fun e M=>⟨(zwv _ _ _ M).1,fun x l C _=>(zwv _ _ _ M).2 x l C⟩) j h0 hL s;obtain⟨c,d,E,rfl,hv⟩:=s1 O.drawn;have H:O=(goW v D cp c).at d:=hv;subst H;obtain⟨U,o,d2,K,t2,q2,x,y,r2,Z,Q,S,W,l,i⟩:=xki (sl:=J) rfl Y R V (fun d=>xmx _);rw[z1]at Q l i;exact⟨T+U,o,d2,K,t2,q2,c,x,y,E,ql r1 r2,Z,Q,S,W,l,i⟩
end
end A
namespace A
open Go Go.Conc Go.RowKit Go.Conc.Lib
open Go.ConcR (stA)
open Go.ConcN (sumTo)
variable [pn:Pn] [py:Go.ConcR.Payload]
def zic{t:Trace}{x y:MemOp}{n:Nat}(hx:x.act= .go n)(hy:y.act= .start)(i:Nat):Deaf (t++#[x,y]) i=Deaf t i:=by
 have a:(t++#[x,y])[t.size]?=some x:=by simp
 have b:(t++#[x,y])[t.size+1]?=some y:=by simp
 show(t++#[x,y]).deaf i (t++#[x,y]).size=t.deaf i t.size;rw[show(t++#[x,y]).size=t.size+1+1 by simp,deaf_succ b,deaf_succ a,deaf_old (ze _)];simp[deafStep,hx,hy]
section
variable {X:Nat->Prop} {gs:Array Goroutine} {v:World} {t:Trace} {Lb D M clock:Nat} {es:Array MapEntry} {rm nx:Value} {bs ls:Int} {cp:Nat} {cs:List Frame}
def xms{gs':Array Zg}{d c:Nat}{q:Nat->Nat}{x y:MemOp}(F:c=7\/c=8)(w:0<gs.size)(z:gs'.size=gs.size)(B:Leavers Tryz.prog t gs' q)(n:We X (v.heap.size+4) (fun a=>∀C,v.heap.size<=C->Zw (v.heap.size+3) C a) 0 t)(hx:x.g=0/\x.act= .go gs.size)(hy:y.g=gs.size/\y.act= .start)
  (p:∀x,X x->x<v.heap.size)(hD:v.heap[D]?=some (.cells #[rm,.map (some M),nx] py.ety))(hM:v.heap[M]?=some (.map es clock))(N:¬X D)(O:¬X M)(Y:∀e∈es.toList,IsFile e)
  (V:ls<9223372036854775807)(S:-9223372036854775808<=bs+1)(hn:bs+1+(cp:Int)=ls+1):
  ∃k,JC Tryz.prog 286 (v.heap.size+3) (cOf v.heap.size c) (Sx v.heap.size D c) D M gs.size (segs es (bs+1) cp) (ox ((goW v D cp c).at d)) (Xx X v.heap.size D M) t.size 0 0 k (gs'.push (born Tryz.prog (call211 v.heap.size (sOf v.heap.size c) (v.heap.size+3) (bs+1) ls))) ((goW v D cp c).at d) (t++#[x,y]):=by
 have H:D<v.heap.size:=(za.1 hD).1;have I:M<v.heap.size:=(za.1 hM).1;obtain⟨n1,n2,n3,n4⟩:=zuf v D cp F d;have Z:=(zb0 v D cp F H d).trans hD;have oM:=(zb0 v D cp F I d).trans hM;have hS:sOf v.heap.size c=v.heap.size+1\/sOf v.heap.size c=v.heap.size+2:=by unfold sOf;split<;>simp
 have hC:cOf v.heap.size c=v.heap.size+1\/cOf v.heap.size c=v.heap.size+2:=by unfold cOf;split<;>simp
 have ba:cOf v.heap.size c≠sOf v.heap.size c:=by unfold sOf cOf;split<;>omega
 have ox_of:∀{r:Nat} {o:Obj},((goW v D cp c).at d).heap[r]?=some o->ox ((goW v D cp c).at d) r=o:=fun {r o} h=>by unfold ox;rw[h];rfl
 have kc:Kc (Sx v.heap.size D c) M (ox ((goW v D cp c).at d)) ((goW v D cp c).at d):=by
  intro r s;have:∃o,((goW v D cp c).at d).heap[r]?=some o:=by
   rcases s with(rfl|rfl|rfl)|rfl;exact⟨_,Z⟩;exact⟨_,n1⟩;exact⟨_,n3⟩;exact⟨_,oM⟩
  obtain⟨o,ho⟩:=this;rw[ho,ox_of ho]
 have K:Kn D M v.heap.size (sOf v.heap.size c) (cOf v.heap.size c) es (Sx v.heap.size D c) (ox ((goW v D cp c).at d)):=⟨.inl rfl,.inr (.inl rfl),.inr (.inr rfl),⟨rm,nx,ox_of Z⟩,ox_of n1,ox_of n3,⟨clock,ox_of oM⟩,Y⟩;have G:=zwm (Wg:=v.heap.size+3) K V S cp hn kc;have W:=segs_length es cp (bs+1);have tp:TP (Xx X v.heap.size D M) (zi6 (Sx v.heap.size D c) M) (v.heap.size+3) (cOf v.heap.size c) gs.size (stA (v.heap.size+3)) t.size ((goW v D cp c).at d).heap.size (t++#[x,y]):=by
  rw[zpg v D cp F d];have J:We X (v.heap.size+4) (Zw (v.heap.size+3) (cOf v.heap.size c)) 0 t:=⟨n.clean,n.known,n.over,n.deaf,n.seen,fun i a E=>n.zed i a E _ (by omega)⟩;have nX:∀r,Sx v.heap.size D c r\/r=M->¬X r:=fun r s L=>by
   have:=p r L;rcases s with(rfl|rfl|rfl)|rfl
   exact N L;omega;omega;exact O L
  refine TP.fork (TP.of_pastE J (fun _ h=> .inl h) (fun h=>by have:=p _ h;omega) (fun l R=>?_) (fun l R=>?_)) (by omega) n.deaf (B.above _ (by omega)) hx hy;rcases R with⟨a,rfl,E⟩|⟨r,rfl,s⟩
  exact⟨fun⟨b,e,hb⟩=>by cases e;exact nX _ E hb,fun⟨r,e,_⟩=>by cases e⟩;exact⟨fun⟨b,e,hb⟩=>(by cases e),fun⟨r',e,U⟩=>by cases e;exact nX _ s U⟩;rcases R with⟨a,rfl,E⟩|⟨r,rfl,s⟩<;>rfl
 have f:∀st m,9<=st->Ch Tryz.prog 286 (v.heap.size+3) (cOf v.heap.size c) (Sx v.heap.size D c) D M (ox ((goW v D cp c).at d)) 0 st m (segs es (bs+1) cp) (born Tryz.prog (call211 v.heap.size (sOf v.heap.size c) (v.heap.size+3) (bs+1) ls)) ((goW v D cp c).at d)->
   JCi Tryz.prog 286 (v.heap.size+3) (cOf v.heap.size c) (Sx v.heap.size D c) D M gs.size (segs es (bs+1) cp) (ox ((goW v D cp c).at d)) (Xx X v.heap.size D M) t.size 0 0 0 st m (segs es (bs+1) cp) (born Tryz.prog (call211 v.heap.size (sOf v.heap.size c) (v.heap.size+3) (bs+1) ls)) q (gs'.push (born Tryz.prog (call211 v.heap.size (sOf v.heap.size c) (v.heap.size+3) (bs+1) ls))) ((goW v D cp c).at d) (t++#[x,y]):=by
  intro st m bc Q;refine⟨w,by simp[z],by rw[<-z];simp,fun i g hi bb hg=>?_,fun j hj=>?_,Q,kc,⟨_,Z,rfl⟩, ?_,Vj _,by simp, ?_,fun _ _=>by omega,fun h=>absurd rfl h.1,tp, ?_, ?_,fun h=>by omega,by simp⟩;rw[zic hx.2 hy.2];refine B.old i g hi ?_;rw[jh,if_neg (by omega)]at hg;exact hg;rw[zic hx.2 hy.2];exact B.above j (by omega);rw[n2,W];simp[show¬st<=8 by omega];show _=_;rw[n4];have h1:wgS 0 st=4294967296:=by unfold wgS;rw[if_pos (.inl rfl),if_neg (by omega)];rfl
  have h2:wgM 0 st=0:=by unfold wgM;rw[if_neg (by omega)]
  rw[h1,h2];rfl;rw[zic hx.2 hy.2,n.deaf];rfl;rw[zic hx.2 hy.2];exact B.above _ (by omega)
 cases hv:segs es (bs+1) cp with
 |nil=>
  rw[hv]at G f;obtain⟨m,T⟩:=G;exact⟨_,_,_,_,_,_,_,f 9 m (by omega) (.cls T),rfl⟩
 |cons a vs=>
  rw[hv]at G f;obtain⟨m,T⟩:=G;exact⟨_,_,_,_,_,_,_,f _ m (by omega) (.send T),rfl⟩
end
end A
namespace A
open Go Go.Conc
variable [pn:Pn] [py:Go.ConcR.Payload]
theorem zwz{X:ZP}{N D M c:Nat}(t:D<N)(v:M<N)(w:Pn.N<=N):q9 (Xx X N D M) (N+3) (cOf N c) (Sx N D c) D M:=by
 have y:sOf N c=N+1\/sOf N c=N+2:=by unfold sOf;split<;>simp
 have s:cOf N c=N+1\/cOf N c=N+2:=by unfold cOf;split<;>simp
 have i:cOf N c≠sOf N c:=by unfold sOf cOf;split<;>omega
 have n:∀x,Sx N D c x\/x=M->Xx X N D M x:=fun x f=>by
  rcases f with(rfl|rfl|rfl)|rfl;exact .inr (.inl rfl);exact .inr (.inr (.inr ⟨by omega,by omega⟩));exact .inr (.inr (.inr ⟨by omega,by omega⟩));exact .inr (.inr (.inl rfl))
 have o:Xx X N D M (N+3):= .inr (.inr (.inr ⟨by omega,by omega⟩));have m:Xx X N D M (cOf N c):= .inr (.inr (.inr ⟨by omega,by omega⟩));have j:∀x,Sx N D c x\/x=M->x≠cOf N c:=fun x f=>by
  rcases f with(rfl|rfl|rfl)|rfl;omega;omega;exact i.symm;omega
 have k:∀x,Sx N D c x\/x=M->x≠N+3:=fun x f=>by
  rcases f with(rfl|rfl|rfl)|rfl<;>omega
 refine⟨⟨fun l d=>?_,o,fun l d q=>?_,fun d=>?_,m⟩,m,o,.inl rfl,j,by omega,k,by omega,by omega⟩;rcases d with⟨a,rfl,g⟩|⟨r,rfl,h⟩
 exact .inl ⟨a,rfl,n _ g⟩;exact .inr ⟨r,rfl,n _ h⟩;obtain⟨b,e,p⟩:=q;rcases d with⟨a,rfl,g⟩|⟨r,rfl,h⟩
 cases e;exact k _ g p;cases e;rcases d with⟨a,e,g⟩|⟨r,e,h⟩
 cases e;cases e;exact j _ h rfl
def zwp:Obj:= .chan 0 #[] false 0 0 false
def zoz(c:Nat):Nat->Obj
 |0=> .cells #[] 89
 |1=>if c=7 then zwp else .cells #[] 278
 |2=>if c=7 then .cells #[] 278 else zwp
 |_=> .cells #[] 286
def wF(w:Zy)(D M c:Nat):Zy:={w with heap:=((((((w.heap.setIfInBounds D (.cells #[] py.ety)).setIfInBounds M zwp).push (zoz c 0)).push (zoz c 1)).push (zoz c 2)).push (zoz c 3))}
def wF_size(w:Zy)(D M c:Nat):(wF w D M c).heap.size=w.heap.size+4:=by simp[wF]
def wF_old(w:Zy){D M c r:Nat}(d:r<w.heap.size)(a:r≠D)(b:r≠M):(wF w D M c).heap[r]?=w.heap[r]?:=by
 simp only[wF,jh,Xe,Xf];rw[if_neg (by omega),if_neg (by omega),if_neg (by omega),if_neg (by omega),zd (Ne.symm b),zd (Ne.symm a)]
def xv2(w:Zy){D M c:Nat}(b:D<w.heap.size)(a:D≠M):(wF w D M c).heap[D]?=some (.cells #[] py.ety):=by
 simp only[wF,jh,Xe,Xf];rw[if_neg (by omega),if_neg (by omega),if_neg (by omega),if_neg (by omega),zd (Ne.symm a),zx b]
def xv3(w:Zy){D M c:Nat}(a:M<w.heap.size):(wF w D M c).heap[M]?=some zwp:=by
 simp only[wF,jh,Xe,Xf];rw[if_neg (by omega),if_neg (by omega),if_neg (by omega),if_neg (by omega),zx (by simpa using a)]
def zj2(w:Zy){D M c i:Nat}(a:i<4):(wF w D M c).heap[w.heap.size+i]?=some (zoz c i):=by
 simp only[wF,jh,Xe,Xf];have:i=0\/i=1\/i=2\/i=3:=by omega
 rcases this with rfl|rfl|rfl|rfl;rw[if_neg (by omega),if_neg (by omega),if_neg (by omega),if_pos (by omega)];rw[if_neg (by omega),if_neg (by omega),if_pos (by omega)];rw[if_neg (by omega),if_pos (by omega)];rw[if_pos (by omega)]
def zwq{P:Zp}:DOk P (some zwp):=⟨fun _ _ h=>(by cases h),fun _ h=>(by cases h),fun _ h=>(by cases h)⟩
def xe1{P:Zp}(c i:Nat):DOk P (some (zoz c i)):=by
 unfold zoz;split<;>(try split)<;>first|exact zwq|exact DOk.cells
section
variable {P:Program} {X:Nat->Prop} {w v:World} {D M clock cp c d:Nat} {es:Array MapEntry} {cs:Array Value}
theorem xof(h:Sm P X w v)(k:c=7\/c=8)(n:v.heap[D]?=some (.cells cs py.ety))(m:v.heap[M]?=some (.map es clock))(C:¬X D)(E:¬X M)(I:Pn.V D=v.heap[D]?)(J:Pn.V M=v.heap[M]?):
  Sm P (Xx X v.heap.size D M) (re (wF w D M c) v.tape d) ((goW v D cp c).at d):=by
 have p:D<v.heap.size:=(za.1 n).1;have q:M<v.heap.size:=(za.1 m).1;have l:D≠M:=by rintro rfl;rw[n]at m;cases m
 have j:=h.size;obtain⟨n1,x,y,H⟩:=zuf v D cp k d;refine⟨?_,fun r a=>?_,fun r a=>?_,fun r=>?_, ?_,rfl, ?_, ?_,⟨?_,fun r a F=>?_⟩⟩
 case refine_8=>show _<=(wF w D M c).heap.size;have:=h.pin.1;rw[wF_size];omega
 case refine_9=>
  have L:=h.pin.1;show _\/_=(wF w D M c).heap[r]?;rw[zb0 v D cp k (by omega) d];by_cases b:r=D;subst b;exact .inl I.symm;by_cases f:r=M;subst f;exact .inl J.symm;rw[wF_old w (by omega) b f];rcases a with a|a|a|⟨z,B⟩
  exact h.pin.2 r a F;exact absurd a b;exact absurd a f;omega
 rw[zpg v D cp k d];show _=(wF w D M c).heap.size;rw[wF_size,j];show _=(wF w D M c).heap[r]?;by_cases g:r<v.heap.size;rw[zb0 v D cp k g d,wF_old w (by omega) (fun e=>a (.inr (.inl e))) (fun e=>a (.inr (.inr (.inl e))))];exact h.out r fun G=>a (.inl G);have t:v.heap.size+4<=r:=by
  apply jr;intro K;exact a (.inr (.inr (.inr ⟨by omega,by omega⟩)))
 rw[ju (by rw[zpg v D cp k d];exact t),ju (by rw[wF_size];omega)];show∃o o',(wF w D M c).heap[r]?=some o/\_;by_cases b:r=D;subst b;exact⟨_,_,xv2 w (by omega) l,(zb0 v r cp k p d).trans n,.inr ⟨_,_,rfl,rfl⟩⟩;by_cases f:r=M;subst f;exact⟨_,_,xv3 w (by omega),(zb0 v D cp k q d).trans m,.inl ⟨rfl,rfl⟩⟩;rcases a with a|a|a|⟨z,B⟩
 have g:=h.low r a;rw[wF_old w g b f,zb0 v D cp k (by omega) d];exact h.dead r a;exact absurd a b;exact absurd a f;have s:r=v.heap.size+0\/r=v.heap.size+1\/r=v.heap.size+2\/r=v.heap.size+3:=by omega
 rcases s with rfl|rfl|rfl|rfl;exact⟨_,_,by rw[j];exact zj2 w (by omega),n1,.inr ⟨_,_,rfl,rfl⟩⟩;rcases k with rfl|rfl;exact⟨_,_,by rw[j];exact zj2 w (by omega),x,.inl ⟨rfl,rfl⟩⟩;exact⟨_,_,by rw[j];exact zj2 w (by omega),y,.inr ⟨_,_,rfl,rfl⟩⟩;rcases k with rfl|rfl;exact⟨_,_,by rw[j];exact zj2 w (by omega),y,.inr ⟨_,_,rfl,rfl⟩⟩;exact⟨_,_,by rw[j];exact zj2 w (by omega),x,.inl ⟨rfl,rfl⟩⟩;exact⟨_,_,by rw[j];exact zj2 w (by omega),H,.inr ⟨_,_,rfl,rfl⟩⟩;show DOk P (wF w D M c).heap[r]?;by_cases g:r<w.heap.size;by_cases f:r=M;subst f;rw[xv3 w g];exact zwq;by_cases b:r=D;subst b;rw[xv2 w g l];exact DOk.cells;rw[wF_old w g b f];exact h.oks r;by_cases t:r<w.heap.size+4;obtain⟨i,s,rfl⟩:∃i,i<4/\r=w.heap.size+i:=⟨r-w.heap.size,by omega,by omega⟩;rw[zj2 w s];exact xe1 c i;rw[ju (by rw[wF_size];omega)];exact DOk.none;rcases k with rfl|rfl<;>rfl
 have e:((goW v D cp c).at d).os=v.os:=by rcases k with rfl|rfl<;>rfl
 rw[e];exact h.os;have e:((goW v D cp c).at d).output=v.output:=by rcases k with rfl|rfl<;>rfl
 rw[e];exact h.output
end
end A
namespace A
open Go Go.Conc
open Go.ConcN (sumTo WgLive PayAt)
open Go.ConcR (WgAt stA Payload)
variable [pn:Pn]
section
variable [Payload] {P:Program} {ty:TypeId} {Wg C:Nat} {S:Nat->Prop} {D M c:Nat} {vals:List Value} {o:Nat->Obj} {X:Nat->Prop} {p rg r:Nat}
variable {d st m:Nat} {left:List Value} {b g0:Goroutine} {q:Nat->Nat} {gs:Array Goroutine} {v:World} {t:Trace}
def xur(B:q9 X Wg C S D M)(h:JCi P ty Wg C S D M c vals o X p rg r d st m left b q gs v t)(h0:gs[0]?=some g0){g':Zg}{a:Addr}(O:S a.block){f:Zg->Zg}(Q:f=woken P g0 g' v\/f=id):
  JCi P ty Wg C S D M c vals o X p rg r d st m left b q ((gs.map f).setIfInBounds 0 g') v (t++MemOp.ofEvents 0 g0.frame.fn g0.frame.place #[⟨.cell a,false,false⟩]):=by
 have k:c≠0:=Xh h.pos;have F:a.block<v.heap.size:=(za.1 (h.kc _ (.inl O))).1;have E:∀{n d} {x:Zg},QuitsD P n d x->f x=x:=fun s=>by
  rcases Q with rfl|rfl;exact woken_quitsD s;rfl
 have I:∀{x:Zg},x.status= .running->f x=x:=fun s=>by
  rcases Q with rfl|rfl;exact woken_run s;rfl
 refine⟨h.pos,by simp[h.size], ?_,fun i g R J H=>?_,fun j V=>?_,h.ch,h.kc,h.pay,h.chan,h.rle,h.lefts,h.wg,h.rgs,h.rg2, ?_, ?_, ?_,fun U=>?_,by have:=h.pt;simp;omega⟩;rw[zd (Ne.symm k),jj,h.hb];simp only[js,zp];rcases h.ch.awake with e|e
 exact I e;cases h.ch with
 |out hq2=>exact E hq2
 |_=>
  rename_i hG
  first
   |(have:=qr (fun _ _ x=>x.1) (fun _ x=>x) hG;rw[e]at this;cases this)
   |(have:=qr (fun _ _ x=>x.1) Y9 hG;rw[e]at this;cases this)
 rw[zd (by omega),jj]at H;obtain⟨y,Z,rfl⟩:=zt.1 H;have s:=h.old i y R J Z;rw[E s,Deaf_other t (g':=0) (by omega) _ zaf];exact s;rw[Deaf_other t (g':=0) (by omega) _ zaf];exact h.above j V
 ·have K:zi6 S M (.cell a):= .inl ⟨a,rfl,.inl O⟩
  refine h.tp.app B.apart (.inl rfl) zaf (fun T l x G hm=>?_) (fun T l x G=>?_) (fun T l e=>?_) zj0
  all_goals obtain⟨ev,w,rfl⟩:=zy l
  all_goals (rw[Array.mem_singleton]at w;subst w)
  simp only[ofEvent_cell0,MemAct.touch?,zp]at G;subst G;exact .inl ⟨rfl,.inr K,fun _=> .inl rfl,fun⟨r1,e,_⟩ _=>rfl⟩;simp only[ofEvent_cell0,MemAct.touch?,zp]at G;subst G;exact F;cases e
 rw[Deaf_own,deafBehind_still (fun e w=>by rw[Array.mem_singleton]at w;subst w;exact⟨by simp,by simp⟩)];exact h.deaf0;rw[Deaf_other t (g':=0) (Ne.symm k) _ zaf];exact h.deafc;obtain⟨rr,W,Y⟩:=h.rel U;refine⟨rr,W,Y.app fun i R H _=>?_⟩;obtain⟨z,hz,L⟩:=zt.1 H;rcases getElem?_append_cases hz with⟨F,_⟩|⟨_,N⟩
 omega;exact k (L.symm.trans (zaf z N))
end
end A
namespace A
open Go Go.Conc
open Go.ConcN (sumTo)
open Go.ConcR (Payload)
variable [pn:Pn]
section
variable {G:Zg→Zy→Nat→Prop}
section
variable {P:Program} {X:Nat->Prop} {J:Nat×Nat->Array Goroutine->World->Trace->Prop}
def xcs(c:zfz P X J){g g':Zg}{w:Zy}{es:Array Event}(b:g.status= .running)(x:g.dying=none)
  (l:∀k gs v t,J k gs v t->stepG P true g v= .go g' v es)
  (o:∀k gs v t,J k gs v t->gs[0]?=some g->J k ((gs.map (woken P g g' v)).setIfInBounds 0 g') v (t++MemOp.ofEvents 0 g.frame.fn g.frame.place es))
  {k:Nat×Nat}{gs:Array Zg}{v:Zy}{sl:Option (Nat×Nat)}{t:Trace}(D:J k gs v t)(m:gs[0]?=some g)(G:Sm P X (re w v.tape v.drawn) v):
  ∃N gs' v' sl' t' k',runNT P N (crowd gs v sl) t=(.next (crowd gs' v' sl'),t')/\J k' gs' v' t'/\gs'[0]?=some g'/\Sm P X (re w v'.tape v'.drawn) v':=by
 induction k using zjn.induction generalizing gs v sl t with
 |_ k ih=>
  have s:∀g∈gs,awake g:=by
   intro q f;obtain⟨i,h,rfl⟩:=Z1.1 f;rcases jl i with rfl|a
   have:gs[0]=g:=by simpa[xg h]using m
   rw[this];exact awake_of (.inl b);exact c.awake k gs v t D i _ a (xg h)
  obtain⟨i,q,d,sl',h,f,p⟩:=crowd_pick (P:=P) (w:=v) (sl:=sl) s ⟨0,g,m,b⟩;have e:=c.drawn k gs v t d D;have n:Sm P X (re w v.tape d) (v.at d):=G.re _ d;rcases jl i with rfl|a
  obtain rfl:q=g:=by rw[m]at h;exact(jf h).symm
  have j:=runT_crowd_go (sl:=sl') h (show stepG P _ q _=_ from l _ _ _ _ e);have y:0<gs.size:=(za.1 m).1;exact⟨1,_,v.at d,sl',_,k,by simp only[runNT,p,j],o _ _ _ _ e m,by simp[y],n⟩;obtain⟨gs',v',B,z,k',I,K,L,M,O⟩:=c.other k gs (v.at d) t i q g sl' e a h f m b x;obtain⟨N,r,R,C,Q,H,E,F⟩:=ih k' K (t:=t++z) (sl:=B) M L (O w n);exact⟨1+N,r,R,C,Q,H,ql (by simp only[runNT,p,I]) E,F⟩
end
section
variable [Payload] {P:Program} {ty:TypeId} {Wg C:Nat} {S:Nat->Prop} {D M c:Nat} {vals:List Value} {o:Nat->Obj} {X:Nat->Prop} {p rg r:Nat} {g g':Goroutine} {w:World}
def RC(P:Zp)(ty:Zt)(Wg C:Nat)(S:ZP)(D M c:Nat)(vals:Ze)(o:Nat->Obj)(X:ZP)(p rg r:Nat)(g:Zg)(w:Zy)(G:Zg->Zy->Nat->Prop):Prop:=
 ∀k gs v sl t,JC P ty Wg C S D M c vals o X p rg r k gs v t->gs[0]?=some g->Sm P X (re w v.tape v.drawn) v->
  ∃N gs' v' sl' t' k' g' w' r',runNT P N (crowd gs v sl) t=(.next (crowd gs' v' sl'),t')/\JC P ty Wg C S D M c vals o X p rg r' k' gs' v' t'/\gs'[0]?=some g'/\Sm P X (re w' v'.tape v'.drawn) v'/\G g' w' r'
theorem RC.refl(h:G g w r):RC P ty Wg C S D M c vals o X p rg r g w G:=fun k a v f t d b e=>⟨0,a,v,f,t,k,g,w,r,rfl,d,b,e,h⟩
def RC.trans{G G':Zg->Zy->Nat->Prop}(h:RC P ty Wg C S D M c vals o X p rg r g w G)(k:∀g' w' r',G g' w' r'->RC P ty Wg C S D M c vals o X p rg r' g' w' G'):RC P ty Wg C S D M c vals o X p rg r g w G':=fun F y v K t B z E=>by
 obtain⟨N,a,Q,d,L,H,U,w1,V,i,j,l,m,n⟩:=h F y v K t B z E;obtain⟨f,b,R,e,O,I,x,T,J,q,s⟩:=k _ _ _ n H a Q d L j l m;exact⟨N+f,b,R,e,O,I,x,T,J,ql i q,s⟩
theorem RC.ctl(B:q9 X Wg C S D M)(a:g.status= .running)(l:g.dying=none)(R:∀v,stepG P true g v= .go g' v)(Q:RC P ty Wg C S D M c vals o X p rg r g' w G):RC P ty Wg C S D M c vals o X p rg r g w G:=fun k K v sl t L j O=>by
 obtain⟨N,f,Z,n,W,T,y,z,E,F⟩:=xcs (sl:=sl) (Yi B) a l (fun _ _ v _ _=>R v) (fun k K v t ⟨d,st,m,left,b,q,h,e⟩ j=>⟨d,st,m,left,b,q,xpf B h j (fun _ _=>rfl) (by simp) (ze _) (.inl rfl),e⟩) L j O;obtain⟨x,i,v2,s,Y,U,J,w2,V,H,I⟩:=Q T f Z n W z E F;exact⟨N+x,i,v2,s,Y,U,J,w2,V,ql y H,I⟩
def RC.read(B:q9 X Wg C S D M)(f:g.status= .running)(n:g.dying=none){a:Addr}(R:S a.block)(U:∀v,Kc S M o v->stepG P true g v= .go g' v #[⟨.cell a,false,false⟩])(T:RC P ty Wg C S D M c vals o X p rg r g' w G):RC P ty Wg C S D M c vals o X p rg r g w G:=fun k L v sl t O l Q=>by
 obtain⟨N,i,v1,s,Z,V,z,E,F,H⟩:=xcs (sl:=sl) (Yi B) f n (fun _ _ v _ ⟨d,st,m,left,b,q,h,e⟩=>U v h.kc) (fun k L v t ⟨d,st,m,left,b,q,h,e⟩ l=>⟨d,st,m,left,b,q,xur B h l R (.inl rfl),e⟩) O l Q;obtain⟨y,j,v2,x,t2,W,K,w2,Y,I,J⟩:=T V i v1 s Z E F H;exact⟨N+y,j,v2,x,t2,W,K,w2,Y,ql z I,J⟩
end
end
end A
namespace A
open Go Go.Conc
open Go.ConcR (Payload)
variable [pn:Pn]
section
variable {P:Program} {C:Nat} {z:Value} {b:Frame} {a:Act} {k:List Item} {cs:List Frame} {ops:Array Oper} {i:Nat} {rest:List Nat} {op:Oper} {t e:TypeId} {x:Operand} {dir:ChanDir}
def xlq(ho:ops[i]?=some op)(hw:Region.wanted op (yielded ops a.tmps)=true)(hk:b.kind≠ .early)(hop:op.op= .recv t x true)(hx:a.eval x= .chan (some C))(c:P.underlying t=some (.chan dir e))(g:∀v,(zeroValue e).run P v= .ok z v):
  zth P C z (G (b.at a (.inRegion ops (i::rest)::k)) cs) (G (b.at a (.inRegion ops (i::rest)::k)) cs):=by
 refine⟨rfl,rfl,fun v=>?_⟩;have f:(execOp a.eval op).run P v= .ok (.comm #[rcase C z] true (.recv true)) v:=by
  unfold execOp;simp only[hop,hx];simp[xm c,g,rcase]
 have d:(execOp a.eval op).events P v #[]=#[]:=by
  unfold execOp;simp only[hop,hx];simp[xm c,Xr]
 rw[stepG_comm ho hw hk f];unfold listed;rw[d,seen_none]
def zth.parked{fr:Zf}(h:zth P C z (G fr cs) (G fr cs)):zth P C z (G fr cs) {Conc.parked (G fr cs) #[rcase C z] (.recv true)with status:= .running}:=
 ⟨rfl,rfl,fun v=>h.st v⟩
end
section
variable [Payload] {P:Program} {ty:TypeId} {Wg C:Nat} {S:Nat->Prop} {D M c:Nat} {vals:List Value} {o:Nat->Obj} {X:Nat->Prop} {p rg r:Nat} {w:World} {z:Value} {fr:Frame} {cs:List Frame}
def RC.recv(B:q9 X Wg C S D M){G':Zg->Zy->Nat->Prop}(h:zth P C z (G fr cs) (G fr cs))(F:RC P ty Wg C S D M c vals o X p rg (zq9 vals r) (Conc.served (G fr cs) (got vals z r)) w G'):RC P ty Wg C S D M c vals o X p rg r (G fr cs) w G':=fun k s v K t y x E=>by
 obtain⟨N,a,Q,d,L,H,g,i,j,l⟩:=(xj1 B h.parked k).1 s v K t _ h y x E;obtain⟨f,b,R,e,O,I,q,T,J,m,n⟩:=F H a Q d L i j l;exact⟨N+f,b,R,e,O,I,q,T,J,ql g m,n⟩
end
end A
namespace A
open Go Go.Conc
open Go.ConcN (sumTo)
open Go.ConcR (Payload)
variable [pn:Pn]
section
variable {G':Zg→Zy→Nat→Prop}
section
variable {P:Program} {X:Nat->Prop} {J:Nat×Nat->Array Goroutine->World->Trace->Prop}
def zvb(c:zfz P X J){g g':Zg}{w w':Zy}(a:g.status= .running)(j:g'.status= .running)(B:g.dying=none)
  (m:∀v,Sm P X (re w v.tape v.drawn) v->∃v' es,stepG P true g v= .go g' v' es/\Sm P X (re w' v'.tape v'.drawn) v'/\(∀x,X x->v'.heap[x]?=v.heap[x]?)/\(∀e∈es,zj6 X v'.heap.size e)/\v.heap.size<=v'.heap.size)
  {k:Nat×Nat}{gs:Array Zg}{v:Zy}{sl:Option (Nat×Nat)}{t:Trace}(I:J k gs v t)(n:gs[0]?=some g)(O:Sm P X (re w v.tape v.drawn) v):
  ∃N gs' v' sl' t' k',runNT P N (crowd gs v sl) t=(.next (crowd gs' v' sl'),t')/\J k' gs' v' t'/\gs'[0]?=some g'/\Sm P X (re w' v'.tape v'.drawn) v':=by
 induction k using zjn.induction generalizing gs v sl t with
 |_ k ih=>
  have z:∀g∈gs,awake g:=by
   intro o f;obtain⟨i,h,rfl⟩:=Z1.1 f;rcases jl i with rfl|b
   have:gs[0]=g:=by simpa[xg h]using n
   rw[this];exact awake_of (.inl a);exact c.awake k gs v t I i _ b (xg h)
  obtain⟨i,o,d,sl',h,f,r⟩:=crowd_pick (P:=P) (w:=v) (sl:=sl) z ⟨0,g,n,a⟩;have p:=c.drawn k gs v t d I;have q:Sm P X (re w v.tape d) (v.at d):=O.re _ d;rcases jl i with rfl|b
  obtain rfl:o=g:=by rw[n]at h;exact(jf h).symm
  obtain⟨v',es,K,y,hk,C,E⟩:=m (v.at d) q;have l:=runT_crowd_go (sl:=sl') h (show stepG P _ o _=_ from K);have D:0<gs.size:=(za.1 n).1;exact⟨1,_,v',sl',_,k,by simp only[runNT,r,l],c.own k gs _ t o g' v' es p n K a j hk C E,by simp[D],y⟩;obtain⟨gs',v',G,F,k',R,S,T,U,V⟩:=c.other k gs (v.at d) t i o g sl' p b h f n a B;obtain⟨N,s,Y,H,W,Q,L,M⟩:=ih k' S (t:=t++F) (sl:=G) U T (V w q);exact⟨1+N,s,Y,H,W,Q,ql (by simp only[runNT,r,R]) L,M⟩
end
section
variable [Payload] {P:Program} {F:Array Func} {ty:TypeId} {Wg C:Nat} {S:Nat->Prop} {D M c:Nat} {vals:List Value} {o:Nat->Obj} {X:Nat->Prop} {p rg r:Nat} {w w':World} {b:Frame} {a:Act} {k:List Item} {cs:List Frame} {ops:Array Oper} {i:Nat} {rest:List Nat} {op:Oper}
def RC.value(B:q9 X Wg C S D M)(K:J0 P F){val:Zv}(ho:ops[i]?=some op)(hw:Region.wanted op (yielded ops a.tmps)=true)(hk:b.kind≠ .early)(y:zk8 P op.op=true)
  (m:∀t d,(execOp a.eval op).run (wf P F) (re w t d)= .ok (.value val) (re w' t d))(hn:RC P ty Wg C S D M c vals o X p rg r (G (b.at (a.put op.dst val) (.inRegion ops rest::k)) cs) w' G'):
  RC P ty Wg C S D M c vals o X p rg r (G (b.at a (.inRegion ops (i::rest)::k)) cs) w G':=fun k0 gs v sl t hJ Y x=>by
 obtain⟨N,q,v1,z,t1,k1,H,L,O,Q⟩:=zvb (w':=w') (sl:=sl) (Yi B) (g':=G (b.at (a.put op.dst val) (.inRegion ops rest::k)) cs) rfl rfl rfl (fun v x=>by
  obtain⟨n,ba,g⟩:=(zfc (K.fit X) a.eval op y).mov (re w v.tape v.drawn) v #[] x (by rw[m];trivial) (fun f H w1 h=>by rw[m]at h;cases h);obtain⟨I,Z⟩:=g.run;rw[m]at I;have l:=g.sm;rw[m]at l;have j:Sm P X (re w' v.tape v.drawn) n:=l;refine⟨n,listed P b.fn a op v,stepG_value ho hw hk I, ?_,g.kept,fun e he=>?_,g.grows⟩;have U:n.tape=v.tape:=j.tape;have V:n.drawn=v.drawn:=j.drawn;rw[U,V];exact j;have:=mem_listed he;rw[Z]at this;exact g.evs e this) hJ Y x
 obtain⟨J,s,v2,E,t2,k2,W,w2,r2,R,T⟩:=hn k1 q v1 z t1 L O Q;exact⟨N+J,s,v2,E,t2,k2,W,w2,r2,ql H R,T⟩
def RC.none(B:q9 X Wg C S D M)(K:J0 P F)(ho:ops[i]?=some op)(hw:Region.wanted op (yielded ops a.tmps)=true)(hk:b.kind≠ .early)(y:zk8 P op.op=true)
  (m:∀t d,(execOp a.eval op).run (wf P F) (re w t d)= .ok .skip (re w' t d))(hn:RC P ty Wg C S D M c vals o X p rg r (G (b.at (a.put op.dst undef) (.inRegion ops rest::k)) cs) w' G'):
  RC P ty Wg C S D M c vals o X p rg r (G (b.at a (.inRegion ops (i::rest)::k)) cs) w G':=fun k0 gs v sl t hJ Y x=>by
 obtain⟨N,q,v1,z,t1,k1,H,L,O,Q⟩:=zvb (w':=w') (sl:=sl) (Yi B) (g':=G (b.at (a.put op.dst undef) (.inRegion ops rest::k)) cs) rfl rfl rfl (fun v x=>by
  obtain⟨n,ba,g⟩:=(zfc (K.fit X) a.eval op y).mov (re w v.tape v.drawn) v #[] x (by rw[m];trivial) (fun f H w1 h=>by rw[m]at h;cases h);obtain⟨I,Z⟩:=g.run;rw[m]at I;have l:=g.sm;rw[m]at l;have j:Sm P X (re w' v.tape v.drawn) n:=l;refine⟨n,listed P b.fn a op v,stepG_none ho hw hk I, ?_,g.kept,fun e he=>?_,g.grows⟩;have U:n.tape=v.tape:=j.tape;have V:n.drawn=v.drawn:=j.drawn;rw[U,V];exact j;have:=mem_listed he;rw[Z]at this;exact g.evs e this) hJ Y x
 obtain⟨J,s,v2,E,t2,k2,W,w2,r2,R,T⟩:=hn k1 q v1 z t1 L O Q;exact⟨N+J,s,v2,E,t2,k2,W,w2,r2,ql H R,T⟩
end
end
end A
namespace A
open Go Go.Conc
open Go.ConcR (Payload)
variable [pn:Pn]
section
variable {G':Zg→Zy→Nat→Prop}
section
variable [Payload] {P:Program} {F:Array Func} {dm:Frame} {ty:TypeId} {Wg C:Nat} {S:Nat->Prop} {D M c:Nat} {vals:List Value} {o:Nat->Obj} {X:Nat->Prop} {p rg r:Nat} {w:World}
def RC.lift(B:q9 X Wg C S D M)(K:J0 P F)(j:DmF P dm){End:Zg->Zy->Prop}(n:∀g w t d,End g (A.re w t d)↔End g w)(h:∀g w,End g w->¬zna P g)
  {fr:Zf}{cs:List Zf}(m:Xv P fr\/∃f a,Ys P F f/\Mc P f/\fr=Frame.enter (wf P F) f a .normal)(i:∀x∈cs,FrW P x)(hk:fr.kind= .normal)(b:∀t d,∃fr' cs' w',Steps (wf P F) (lone fr [dm] (A.re w t d)) (lone fr' cs' w')/\End (Z0 fr' cs') w'):
  RC P ty Wg C S D M c vals o X p rg r (Z0 fr cs) w (fun g2 w' r'=>r'=r/\∃g' l,End g' w'/\g'.callers=l++[dm]/\g2={g' with callers:=l++cs}):=fun k U v sl t G E H=>by
 obtain⟨N,e,T,q,R,I,g',w',g2,J,L,O,Q,s⟩:=A.lift (sl:=sl) K j (Yi B) n h m hk b i G E H;obtain⟨l,y,z,_⟩:=s.top;exact⟨N,e,T,q,R,I,g2,w',r,J,L,O,s.sm,rfl,g',l,Q,y,z⟩
def RC.calls(B:q9 X Wg C S D M)(K:J0 P F)(y:DmF P dm){f:FuncId}{args:Za}{cs:List Zf}{R:(Nat->Question->Nat)->Nat->Ending->Zy->Prop}(I:Ys P F f)(s:∀x∈cs,FrW P x)(H:∀t d w',¬R t d .outgrown w')
  (h:∀t d,Calls (wf P F) f args (A.re w t d) (R t d)):
  RC P ty Wg C S D M c vals o X p rg r (Z0 (Frame.enter P f args .normal) cs) w (fun g' w' r'=>r'=r/\∃e fr,(∃t d t1 d1,R t d e (A.re w' t1 d1))/\g'=Z0 fr cs/\fr.fn=f/\LvX P F fr w' e):=by
 have z:Frame.enter (wf P F) f args .normal=Frame.enter P f args .normal:=zdt I.1 args _;have G:Xv P (Frame.enter P f args .normal)\/∃f' a,Ys P F f'/\Mc P f'/\Frame.enter P f args .normal=Frame.enter (wf P F) f' a .normal:=by
  by_cases J:Mc P f;exact .inr ⟨f,args,I,J,z.symm⟩;left;rw[<-z];exact zls K.codes I J args ⟨by simp,by simp⟩
 refine(RC.lift B K y
  (End:=fun g' w'=>∃e fr t d t1 d1,R t d e (A.re w' t1 d1)/\e≠ .outgrown/\g'=Z0 fr [dm]/\fr.fn=f/\fr.leaving (wf P F) (A.re w' t1 d1) e) (fun g' w' t d=>Iff.rfl) ?_ G s rfl ?_).trans ?_
 rintro g' w' ⟨e,fr,t,d,t1,d1,_,i,rfl,_,k⟩ ⟨_,hd⟩;cases e with
 |outgrown=>exact i rfl
 |returned v=>
  obtain⟨a,b,_⟩:=k;rcases hd with⟨j,_⟩|⟨_,j,_⟩
  have g:fr.mode= .run:=j;rw[a]at g;cases g;have g:fr.defers=[_]:=j;rw[b]at g;cases g
 |panicked c=>
  obtain⟨a,b,_⟩:=k;rcases hd with⟨j,_⟩|⟨_,j,_⟩
  have g:fr.mode= .run:=j;rw[a]at g;cases g;have g:fr.defers=[_]:=j;rw[b]at g;cases g
 intro t d;obtain⟨e,w',fr,n,q,E,k⟩:=h t d [dm];rw[z]at q;have i:e≠ .outgrown:=by rintro rfl;exact H _ _ _ n
 refine⟨fr,[dm],w', ?_,e,fr,t,d,w'.tape,w'.drawn,n,i,rfl,E,k⟩;cases e with
 |outgrown=>exact absurd rfl i
 |returned v=>exact q
 |panicked c=>exact q
 rintro O w' r' ⟨rfl,g',l,⟨e,fr,t,d,t1,d1,n,i,rfl,E,k⟩,m,rfl⟩;have:l=[]:=by
  have L:[dm]=l++[dm]:=m;have:=congrArg List.length L;simp only[zj,jd]at this;exact xa (by omega)
 subst this;exact .refl ⟨rfl,e,fr,⟨t,d,t1,d1,n⟩,rfl,E,i,t1,d1,k⟩
end
section
variable [Payload] {P:Program} {F:Array Func} {ty:TypeId} {Wg C:Nat} {S:Nat->Prop} {D M c:Nat} {vals:List Value} {o:Nat->Obj} {X:Nat->Prop} {p rg r:Nat} {w:World} {fr c0:Frame} {cs:List Frame}
def RC.ret(B:q9 X Wg C S D M){val:Zv}(hp:Ys P F fr.fn)(h:LvX P F fr w (.returned val))(hn:RC P ty Wg C S D M c vals o X p rg r (Z0 (c0.finish val) cs) w G'):RC P ty Wg C S D M c vals o X p rg r (Z0 fr (c0::cs)) w G':=fun k0 gs v sl t hJ Z i=>by
 obtain⟨_,t0,d0,G,H,I,fn,J,K⟩:=h;have j:P.funcs[fr.fn]?=some fn:=by rw[<-hp.1];exact J
 obtain⟨N,k,v1,x,t1,k1,L,O,Q,R⟩:=zvb (w':=w) (sl:=sl) (Yi B) (g:=Z0 fr (c0::cs)) (g':=Z0 (c0.finish val) cs) rfl rfl rfl (fun v i=>by
  have q:Sm P X w w:=i.self.re _ _;have n:=zp9 q K v.tape v.drawn;obtain⟨f,s,a⟩:=(zh7 (P:=P) (F:=F) (X:=X) fn fr.tmps).mov (re w v.tape v.drawn) v #[] i (by rw[n];trivial);obtain⟨z,h2⟩:=a.run;rw[n]at z;have d:=a.sm;rw[n]at d;have b:Sm P X (re w v.tape v.drawn) f:=d;refine⟨f,seen P fr.fn s, ?_, ?_,a.kept,fun e he=>a.evs e (mem_seen he),a.grows⟩;have m:(results fn fr.tmps).run P v= .ok val f:=z;simp only[stepG,Z0,unwind,doReturn,G,H,I,j,zg,m,h2];rfl;have V:f.tape=v.tape:=b.tape;have W:f.drawn=v.drawn:=b.drawn;rw[V,W];exact b) hJ Z i
 obtain⟨E,l,v2,y,t2,k2,Y,w2,r2,T,U⟩:=hn k1 k v1 x t1 O Q R;exact⟨N+E,l,v2,y,t2,k2,Y,w2,r2,ql L T,U⟩
def RC.raise(B:q9 X Wg C S D M){chain:List PanicEntry}(h:LvX P F fr w (.panicked chain))(a:∃fn,P.funcs[fr.fn]?=some fn)(e:RC P ty Wg C S D M c vals o X p rg r (Z0 (c0.raise chain) cs) w G'):RC P ty Wg C S D M c vals o X p rg r (Z0 fr (c0::cs)) w G':=by
 obtain⟨_,g,f,b,d,_⟩:=h;obtain⟨fn,a⟩:=a;refine RC.ctl B rfl rfl (fun v=>?_) e;simp[stepG,Z0,unwind,Frame.catches,b,d,a]
end
end
end A
namespace A
open Go Go.Conc Go.RowKit Go.Conc.Lib
variable [pn:Pn] [py:Go.ConcR.Payload]
section
variable {a:Act} {sv:Zv}
noncomputable def LB:=Ql (Qk (Qb K5))
noncomputable def zk4(Lb D Bd Bs C Wg:Nat)(bs ls:Int)(cp:Nat)(y6 y29 y30 y31 y32 y33 y34:Zv):Act:=⟨#[zo Lb,zo D,undef,zo Bd,zo Bs,zo Wg,y6,zo Lb,zo Lb,zk Lb 12,zi ls,zo Lb,zo Lb,zk Lb 11,zi bs,zi cp,.chan (some C),.tuple #[],.func (.func 211) #[] #[zo Wg,zo Bs,zo Bd],zo Lb,zo Lb,zk Lb 11,zi bs,zi (bs+1),zo Lb,zo Lb,zk Lb 12,zi ls,.chan (some C),y29,y30,y31,y32,y33,y34],[dcall 209 #[zo Wg]]⟩
section
variable {S:Nat->Prop} {o:Nat->Obj} {X:Nat->Prop} {D M Bd Bs C Wg c p r Lb cp:Nat} {es:Array MapEntry} {vals:List Value} {w:World} {bs ls:Int} {cs:List Frame} {G':Goroutine->World->Nat->Prop}
def RC.pure(B:q9 X Wg C S D M){b:Zf}{k:List Item}{ops:Array Oper}{i:Nat}{rest:List Nat}{op:Oper}(v:Zv)(ho:ops[i]?=some op)(hw:Region.wanted op (yielded ops a.tmps)=true)(hk:b.kind≠ .early)
  (f:∀w,(execOp a.eval op).run Tryz.prog w= .ok (.value v) w)(d:∀w,(execOp a.eval op).events Tryz.prog w #[]=#[])
  (e:RC Tryz.prog 286 Wg C S D M c vals o X p 0 r (G (b.at (a.put op.dst v) (.inRegion ops rest::k)) cs) w G'):RC Tryz.prog 286 Wg C S D M c vals o X p 0 r (G (b.at a (.inRegion ops (i::rest)::k)) cs) w G':=
 RC.ctl B rfl rfl (fun v=>by rw[stepG_value ho hw hk (f v)];unfold listed;rw[d v,seen_none]) e
theorem xm8(B:q9 X Wg C S D M)(K:Kn D M Bd Bs C es S o)
  (f:RC Tryz.prog 286 Wg C S D M c vals o X p 0 r (G ((base 136).at (zk4 Lb D Bd Bs C Wg bs ls cp undef undef undef undef undef undef undef) [.code LB,.inLoop LB,.inBlock 0]) cs) w G'):
  RC Tryz.prog 286 Wg C S D M c vals o X p 0 r (G ((base 136).at (zdw Lb D Bd Bs C Wg bs ls cp) [.inRegion zgp [],.code K5]) cs) w G':=by
 have d:K5= .seq (.region 6 #[{dst:=some 28,op:=Op.load 278 (Operand.tmp 4),type:=278,pos:= "look.go:84",after:=#[],guard:=none}] false) (.block 0 (.loop LB)):=by kernel_rfl
 rw[d];refine RC.ctl B rfl rfl (fun _=>stepG_region_end) ?_;refine RC.ctl B rfl rfl (fun _=>stepG_seq) ?_
 (refine RC.ctl B rfl rfl (fun _=>stepG_region) ?_;simp only[jg,zh,jn,Nat.reduceAdd,jy,List.range,List.range.loop])
 refine RC.read B (g':=G ((base 136).at (zk4 Lb D Bd Bs C Wg bs ls cp undef undef undef undef undef undef undef) [.inRegion #[{dst:=some 28,op:=Op.load 278 (Operand.tmp 4),type:=278,pos:= "look.go:84",after:=#[],guard:=none}] [],.code (.block 0 (.loop LB))]) cs) (a:=zq Bs 0) rfl rfl K.ss (fun v hk=>?_) ?_
 ·have b:=K.cellBs hk
  have g:(execOp (zdw Lb D Bd Bs C Wg bs ls cp).eval {dst:=some 28,op:=Op.load 278 (Operand.tmp 4),type:=278,pos:= "look.go:84",after:=#[],guard:=none}).run Tryz.prog v= .ok (.value (.chan (some C))) v:=by
   unfold execOp;simp only[zdw];simp[go_sem,b]
  have e:(execOp (zdw Lb D Bd Bs C Wg bs ls cp).eval {dst:=some 28,op:=Op.load 278 (Operand.tmp 4),type:=278,pos:= "look.go:84",after:=#[],guard:=none}).events Tryz.prog v #[]=#[⟨.cell (zq Bs 0),false,false⟩]:=by
   unfold execOp;simp only[zdw];simp[go_sem,b]
  rw[stepG_value rfl rfl (by decide) g];unfold listed;rw[e,seen_eq (by kernel_rfl) (by simp)];rfl
 refine RC.ctl B rfl rfl (fun _=>stepG_region_end) ?_;refine RC.ctl B rfl rfl (fun _=>stepG_block) ?_;refine RC.ctl B rfl rfl (fun _=>stepG_loop) ?_;exact f
end
def xr0:Array Oper:=#[{dst:=some 29,op:=Op.recv 278 (Operand.tmp 28) true,type:=0,pos:= "look.go:84",after:=#[],guard:=none},{dst:=some 30,op:=Op.extract (Operand.tmp 29) 1,type:=4,pos:= "look.go:84",after:=#[{on:=0,ground:=Ground.data}],guard:=none}]
def xxe:Oper:={dst:=some 30,op:=Op.extract (Operand.tmp 29) 1,type:=4,pos:= "look.go:84",after:=#[{on:=0,ground:=Ground.data}],guard:=none}
def xtx{op:Oper}{tt:Bool}(hop:op.op=Op.extract (Operand.tmp 29) 1)(h:a.eval (.tmp 29)= .tuple #[sv,.bool tt])(w:Zy):(execOp a.eval op).run Tryz.prog w= .ok (.value (.bool tt)) w/\(execOp a.eval op).events Tryz.prog w #[]=#[]:=by
 unfold execOp;simp only[hop,h];exact⟨by simp[go_sem],by simp[go_sem]⟩
noncomputable def LB1:=Qk (Qb (Qb LB))
def xs9:LB= .seq (.region 7 xr0 false) (.seq (.cond (.tmp 30) .skip (.exit 0)) (.block 1 LB1)):=by kernel_rfl
abbrev xsk:Zv:= .agg #[zi 0,.string ⟨#[]⟩]
section
variable {S:Nat->Prop} {o:Nat->Obj} {X:Nat->Prop} {D M Bd Bs C Wg c p r Lb cp:Nat} {vals:List Value} {w:World} {bs ls:Int} {cs:List Frame} {G':Goroutine->World->Nat->Prop} {y6 y29 y30 y31 y32 y33 y34:Value}
def zsj(B:q9 X Wg C S D M){tt:Bool}(b:got vals xsk r= .tuple #[sv,.bool tt])
  (d:RC Tryz.prog 286 Wg C S D M c vals o X p 0 (zq9 vals r) (G ((base 136).at (zk4 Lb D Bd Bs C Wg bs ls cp y6 (.tuple #[sv,.bool tt]) (.bool tt) y31 y32 y33 y34) [.code (.cond (.tmp 30) .skip (.exit 0)),.code (.block 1 LB1),.inLoop LB,.inBlock 0]) cs) w G'):
  RC Tryz.prog 286 Wg C S D M c vals o X p 0 r (G ((base 136).at (zk4 Lb D Bd Bs C Wg bs ls cp y6 y29 y30 y31 y32 y33 y34) [.code LB,.inLoop LB,.inBlock 0]) cs) w G':=by
 have a:∀k,RC Tryz.prog 286 Wg C S D M c vals o X p 0 r (G ((base 136).at (zk4 Lb D Bd Bs C Wg bs ls cp y6 y29 y30 y31 y32 y33 y34) (.code (.seq (.region 7 xr0 false) (.seq (.cond (.tmp 30) .skip (.exit 0)) (.block 1 LB1)))::k)) cs) w G'->RC Tryz.prog 286 Wg C S D M c vals o X p 0 r (G ((base 136).at (zk4 Lb D Bd Bs C Wg bs ls cp y6 y29 y30 y31 y32 y33 y34) (.code LB::k)) cs) w G':=fun k h=>by rw[xs9];exact h
 refine a _ ?_;refine RC.ctl B rfl rfl (fun _=>stepG_seq) ?_;refine RC.ctl B rfl rfl (fun _=>stepG_region) ?_;rw[show List.range xr0.size=[0,1]from rfl];refine RC.recv B (xlq rfl rfl (by decide) rfl rfl Tryz.underlying278 Tryz.zeroValue289) ?_;rw[b,served_G];refine RC.pure B (op:=xxe) _ rfl rfl (by decide) (fun w=>(xtx rfl rfl w).1) (fun w=>(xtx rfl rfl w).2) ?_;refine RC.ctl B rfl rfl (fun _=>stepG_region_end) ?_;refine RC.ctl B rfl rfl (fun _=>stepG_seq) ?_;exact d
def xix(B:q9 X Wg C S D M)(b:vals.length<=r)
  (a:RC Tryz.prog 286 Wg C S D M c vals o X p 0 r (G {(base 136).at (zk4 Lb D Bd Bs C Wg bs ls cp y6 (.tuple #[xsk,.bool false]) (.bool false) y31 y32 y33 y34) []with mode:= .returning} cs) w G'):
  RC Tryz.prog 286 Wg C S D M c vals o X p 0 r (G ((base 136).at (zk4 Lb D Bd Bs C Wg bs ls cp y6 y29 y30 y31 y32 y33 y34) [.code LB,.inLoop LB,.inBlock 0]) cs) w G':=by
 refine zsj B (by unfold got;rw[if_neg (by omega)]) ?_;rw[show zq9 vals r=r by unfold zq9;rw[if_neg (by omega)]];refine RC.ctl B rfl rfl (fun _=>stepG_cond rfl) ?_;refine RC.ctl B rfl rfl (fun _=>stepG_exit rfl) ?_;exact RC.ctl B rfl rfl (fun _=>stepG_end) a
end
def xi9:Oper:={dst:=some 31,op:=Op.extract (Operand.tmp 29) 0,type:=289,pos:= "look.go:84",after:=#[],guard:=none}
def xnn:Oper:={dst:=some 6,op:=Op.alloc 289,type:=0,pos:= "look.go:84",after:=#[],guard:=none}
def xno:Oper:={dst:=none,op:=Op.store 289 (Operand.tmp 6) (Operand.tmp 31),type:=0,pos:= "look.go:84",after:=#[{on:=1,ground:=Ground.data},{on:=0,ground:=Ground.data},{on:=0,ground:=Ground.phase},{on:=1,ground:=Ground.phase}],guard:=none}
def xum:Array Oper:=#[xi9,xnn,xno]
def xja:Oper:={dst:=some 32,op:=Op.move (Operand.tmp 0),type:=217,pos:= "look.go:85",after:=#[],guard:=none}
def xnp:Oper:={dst:=some 33,op:=Op.load 289 (Operand.tmp 6),type:=289,pos:= "look.go:85",after:=#[],guard:=none}
def xjb:Oper:={dst:=some 34,op:=Op.call {callee:=Callee.value (Operand.func 214),args:=#[Operand.tmp 32,Operand.tmp 33],argTypes:=#[217,289]},type:=0,pos:= "look.go:85",after:=#[{on:=0,ground:=Ground.data},{on:=1,ground:=Ground.data}],guard:=none}
def xun:Array Oper:=#[xja,xnp,xjb]
def xpu:LB1= .seq (.region 8 xum false) (.region 9 xun false):=by kernel_rfl
abbrev sgO(x:Int)(y:ByteArray):Obj:= .cells #[zi x,.string y] 289
abbrev sgV(x:Int)(y:ByteArray):Zv:= .agg #[zi x,.string y]
section
variable {F:Array Func} {x:Int} {y:ByteArray}
def xwo(w:Zy):(zeroValue 289).run (wf Tryz.prog F) w= .ok (sgV 0 ⟨#[]⟩) w:=by kernel_rfl
def xkh(w:Zy):(sizeOf 289).run (wf Tryz.prog F) w= .ok 2 w:=by kernel_rfl
def xg1(w:Zy):(isAgg 289).run (wf Tryz.prog F) w= .ok true w:=by kernel_rfl
def xuf(w:Zy):(execOp a.eval xnn).run (wf Tryz.prog F) w= .ok (.value (zo w.heap.size)) (w.alloc (sgO 0 ⟨#[]⟩)):=by
 unfold execOp;simp only[xnn];simp[go_sem,xwo,xkh,xg1]
def xug{N:Nat}(c:a.eval (.tmp 6)=zo N)(b:a.eval (.tmp 31)=sgV x y){w:Zy}(d:w.heap.size=N):(execOp a.eval xno).run (wf Tryz.prog F) (w.alloc (sgO 0 ⟨#[]⟩))= .ok .skip (w.alloc (sgO x y)):=by
 subst d;unfold execOp;simp only[xno,c,b];simp[go_sem,xkh,xg1]
def xuh{N:Nat}(b:a.eval (.tmp 6)=zo N){w:Zy}(c:w.heap.size=N):(execOp a.eval xnp).run (wf Tryz.prog F) (w.alloc (sgO x y))= .ok (.value (sgV x y)) (w.alloc (sgO x y)):=by
 subst c;unfold execOp;simp only[xnp,b];simp[go_sem,xkh,xg1]
def xtw{tt:Bool}(h:a.eval (.tmp 29)= .tuple #[sv,.bool tt])(w:Zy):(execOp a.eval xi9).run Tryz.prog w= .ok (.value sv) w/\(execOp a.eval xi9).events Tryz.prog w #[]=#[]:=by
 unfold execOp;simp only[xi9,h];exact⟨by simp[go_sem],by simp[go_sem]⟩
def mv9(h:a.eval (.tmp 0)=sv)(w:Zy):(execOp a.eval xja).run Tryz.prog w= .ok (.value sv) w/\(execOp a.eval xja).events Tryz.prog w #[]=#[]:=by
 unfold execOp;simp only[xja,h];exact⟨by simp[go_sem],by simp[go_sem]⟩
def cl9{u v:Zv}(h:a.eval (.tmp 32)=u)(b:a.eval (.tmp 33)=v)(w:Zy):(execOp a.eval xjb).run Tryz.prog w= .ok (.enter 214 #[u,v]) w/\(execOp a.eval xjb).events Tryz.prog w #[]=#[]:=by
 subst h b;refine⟨?_,events_call_body rfl Tryz.func214 (by kernel_rfl) (by kernel_rfl) #[]⟩;have h:=run_call_body (a:=a) (w:=w) (o:=xjb) (args:=#[Operand.tmp 32,Operand.tmp 33]) (ats:=#[217,289]) rfl Tryz.func214 (by kernel_rfl) (by kernel_rfl);rw[h];simp
def xcr:Mc Tryz.prog 136:=⟨Tryz.f136,_,Tryz.func136,rfl,by decide+kernel⟩
end
section
variable {F:Array Func} {dm:Frame} {S:Nat->Prop} {o:Nat->Obj} {X:Nat->Prop} {D M Bd Bs C Wg c p Lb cp:Nat} {vals:List Value} {bs ls:Int} {cs:List Frame} {G':Goroutine->World->Nat->Prop}
theorem xiw(B:q9 X Wg C S D M)(K:J0 Tryz.prog F)(k:DmF Tryz.prog dm)(b:Ys Tryz.prog F 214)(j:∀x∈cs,FrW Tryz.prog x){I:Nat->Zy->Prop}{J:List PanicEntry->Zy->Prop}(l:∀r w t d,I r (A.re w t d)->I r w)(m:∀ch w t d,J ch (A.re w t d)->J ch w)
  (U:∀r,r<vals.length->∃x y,vals[r]?=some (sgV x y)/\∀w,I r w->∀t d,Calls (wf Tryz.prog F) 214 #[zo Lb,sgV x y] (A.re (w.alloc (sgO x y)) t d) (fun e w'=>match e with| .returned _=>I (r+1) w'| .panicked ch=>J ch w'| .outgrown=>False))
  (Q:∀a w',I vals.length w'->a.defers=[dcall 209 #[zo Wg]]->RC Tryz.prog 286 Wg C S D M c vals o X p 0 vals.length (G {(base 136).at a []with mode:= .returning} cs) w' G')
  (O:∀r a todo ch w',J ch w'->a.defers=[dcall 209 #[zo Wg]]->RC Tryz.prog 286 Wg C S D M c vals o X p 0 r (G {(base 136).at a todo with mode:= .panicking ch} cs) w' G'):
  ∀n r w,r+n=vals.length->I r w->∀y6 y29 y30 y31 y32 y33 y34,RC Tryz.prog 286 Wg C S D M c vals o X p 0 r (G ((base 136).at (zk4 Lb D Bd Bs C Wg bs ls cp y6 y29 y30 y31 y32 y33 y34) [.code LB,.inLoop LB,.inBlock 0]) cs) w G':=by
 intro n;induction n with
 |zero=>
  intro r w T g y6 y29 y30 y31 y32 y33 y34;obtain rfl:r=vals.length:=by omega
  exact xix B (ze _) (Q _ _ g rfl)
 |succ n ih=>
  intro r w T g y6 y29 y30 y31 y32 y33 y34;obtain⟨x,y,q,L⟩:=U r (by omega);refine zsj B (sv:=sgV x y) (tt:=true) (by unfold got;rw[if_pos (by omega),Xo,q];rfl) ?_;rw[show zq9 vals r=r+1 by unfold zq9;rw[if_pos (by omega)]];refine RC.ctl B rfl rfl (fun _=>stepG_cond (t:=true) rfl) ?_;refine RC.ctl B rfl rfl (fun _=>stepG_skip) ?_;refine RC.ctl B rfl rfl (fun _=>stepG_block) ?_;rw[xpu];refine RC.ctl B rfl rfl (fun _=>stepG_seq) ?_;refine RC.ctl B rfl rfl (fun _=>stepG_region) ?_;rw[show List.range xum.size=[0,1,2]from rfl];refine RC.pure B (op:=xi9) (sgV x y) rfl rfl (by decide) (fun w=>(xtw rfl w).1) (fun w=>(xtw rfl w).2) ?_;refine RC.value (F:=F) (w':=w.alloc (sgO 0 ⟨#[]⟩)) B K (op:=xnn) (val:=zo w.heap.size) rfl rfl (by decide) (by decide+kernel) (fun t d=>xuf _) ?_;refine RC.none (F:=F) (w':=w.alloc (sgO x y)) B K (op:=xno) rfl rfl (by decide) (by decide+kernel) (fun t d=>xug (w:=A.re w t d) (N:=w.heap.size) rfl rfl rfl) ?_;refine RC.ctl B rfl rfl (fun _=>stepG_region_end) ?_;refine RC.ctl B rfl rfl (fun _=>stepG_region) ?_;rw[show List.range xun.size=[0,1,2]from rfl];refine RC.pure B (op:=xja) (zo Lb) rfl rfl (by decide) (fun w=>(mv9 rfl w).1) (fun w=>(mv9 rfl w).2) ?_;refine RC.value (F:=F) (w':=w.alloc (sgO x y)) B K (op:=xnp) (val:=sgV x y) rfl rfl (by decide) (by decide+kernel) (fun t d=>xuh (w:=A.re w t d) (N:=w.heap.size) rfl rfl) ?_;refine RC.ctl B rfl rfl (fun v=>by
   rw[stepG_enter (o:=xjb) (f:=214) (args:=#[zo Lb,sgV x y]) rfl rfl (by decide) (cl9 rfl rfl v).1];unfold listed;rw[(cl9 rfl rfl v).2,seen_none]) ?_
  refine(RC.calls (dm:=dm) (R:=fun t d e w'=>match e with| .returned _=>I (r+1) w'| .panicked ch=>J ch w'| .outgrown=>False) B K k b ?_ (fun _ _ _ h=>h) (L w g)).trans ?_;intro z s;rcases xf.1 s with rfl|s
  exact .inl xcr;exact j z s;rintro Y w' Z ⟨rfl,e,W,⟨t,d,t1,V,i⟩,rfl,E,H⟩;cases e with
  |outgrown=>exact i.elim
  |returned val=>
   refine RC.ret (F:=F) B (by rw[E];exact b) H ?_;rw[za3];refine RC.ctl B rfl rfl (fun _=>stepG_region_end) ?_;refine RC.ctl B rfl rfl (fun _=>stepG_inBlock) ?_;refine RC.ctl B rfl rfl (fun _=>stepG_inLoop) ?_;exact ih (r+1) w' (by omega) (l _ _ _ _ i) _ _ _ _ _ _ _
  |panicked ch=>
   refine RC.raise (F:=F) B H ⟨_,by rw[E];exact Tryz.func214⟩ ?_;rw[Frame.raise_at];exact O _ _ _ _ _ (m _ _ _ _ i) rfl
end
end
end A
namespace A
open Go Go.Conc Go.RowKit Go.Conc.Lib
open Go.ConcN (sumTo WgLive)
open Go.ConcR.Gen (body_wait)
variable [pn:Pn] [py:Go.ConcR.Payload]
section
variable {J:List PanicEntry→Zy→Prop} {w v:Zy} {I:Nat→Zy→Prop}
def xbk{P:Zp}{b:Zf}{a:Act}{todo:List Item}{cs:List Zf}{w:Zy}{f:FuncId}{fn:Func}{args:Za}{c:Code}(hd:a.defers=[dcall f args])(g:P.funcs[f]?=some fn)(d:(fn.name== "runtime.NumGoroutine")=false)(e:fn.body=some c){m:FrameMode}(i:m= .returning\/∃ch,m= .panicking ch):
  stepG P true (G {b.at a todo with mode:=m} cs) w=
   .go (G ((baseD f).at {tmps:=args++Array.replicate (fn.ntmps-args.size) undef,defers:=[]} [.code c]) ({b.at ⟨a.tmps,[]⟩ todo with mode:=m}::cs)) w #[]:=by
 have h:¬fn.name= "runtime.NumGoroutine":=by simpa using d
 rw[<-enter_atD args g e];rcases i with rfl|⟨ch,rfl⟩
 simp[G,stepG,unwind,callDeferred,Frame.at,hd,dcall,invoke,callFunc,g,h,e,GStep.after,seen_none];simp[G,stepG,unwind,callDeferred,Frame.at,hd,dcall,invoke,callFunc,g,h,e,GStep.after,seen_none]
def xgk:(Go.Proofs.Tryz.f209.name== "runtime.NumGoroutine")=false:=by kernel_rfl
def xbl:Go.Proofs.Tryz.f209.ntmps=84:=by kernel_rfl
def xgj:Go.Proofs.Tryz.f209.body=some (body_wait ze6):=by kernel_rfl
def SL.of_heap{Lb:Nat}{bs ls:Int}(h:SL Lb bs ls w)(e:v.heap[Lb]?=w.heap[Lb]?):SL Lb bs ls v:=by
 have:=h.base;have:=h.last;exact⟨by rw[<-h.base];simp only[World.cell?,e],by rw[<-h.last];simp only[World.cell?,e]⟩
def zis{P:Zp}{X:ZP}(f:Sm P X w v){r:Nat}{cs:Za}{e:Zt}{i:Nat×Nat}(h:w.heap[r]?=some (.cells cs e i))(b:cs≠#[]):¬X r:=by
 intro g;obtain⟨o,k,d,_,a⟩:=f.dead r g;rw[h]at d;cases d;rcases a with⟨a,_⟩|⟨c,j,a,_⟩
 simp[Obj.isChan]at a;cases a;exact b rfl
def zxj{P:Zp}{X:ZP}(d:Sm P X w v){r:Nat}{es:Array MapEntry}{k:Nat}(h:w.heap[r]?=some (.map es k)):¬X r:=by
 intro e;obtain⟨o,g,b,_,a⟩:=d.dead r e;rw[h]at b;cases b;rcases a with⟨a,_⟩|⟨c,f,a,_⟩
 simp[Obj.isChan]at a;cases a
theorem cells_of_cell{w:Zy}{a:Addr}{v:Zv}(h:w.cell? a=some v):∃cs e i,w.heap[a.block]?=some (.cells cs e i)/\cs≠#[]:=by
 unfold World.cell? at h;split at h
 rename_i cs e i hb
 refine⟨cs,e,i,hb, ?_⟩;rintro rfl;simp at h;cases h
def healW(w1:Zy)(D M:Nat)(oD oM:Obj):Zy:={w1 with heap:=(w1.heap.setIfInBounds D oD).setIfInBounds M oM}
section
variable {F:Array Func} {dm:Frame} {w:World} {Lb D M clock:Nat} {es:Array MapEntry} {rm nx:Value} {bs ls:Int} {cp:Nat} {c0:Frame} {cs:List Frame}
def xmt{v:Zy}{c d:Nat}(f:c=7\/c=8)(i:v.heap[D]?=some (.cells #[rm,.map (some M),nx] py.ety))(j:v.heap[M]?=some (.map es clock))(g:∀e∈es.toList,IsFile e):Kn D M v.heap.size (sOf v.heap.size c) (cOf v.heap.size c) es (Sx v.heap.size D c) (ox ((goW v D cp c).at d)):=by
 have a:D<v.heap.size:=(za.1 i).1;have b:M<v.heap.size:=(za.1 j).1;obtain⟨n1,n,k,p⟩:=zuf v D cp f d;have l:=(zb0 v D cp f a d).trans i;have m:=(zb0 v D cp f b d).trans j;have ox_of:∀{r:Nat} {o:Obj},((goW v D cp c).at d).heap[r]?=some o->ox ((goW v D cp c).at d) r=o:=fun {r o} h=>by unfold ox;rw[h];rfl
 exact⟨.inl rfl,.inr (.inl rfl),.inr (.inr rfl),⟨rm,nx,ox_of l⟩,ox_of n1,ox_of k,⟨clock,ox_of m⟩,g⟩
def xlp(x y:Zv):(#[x,y]++Array.replicate (35-#[x,y].size) undef:Za)=#[x,y,undef,undef,undef,undef,undef,undef,undef,undef,undef,undef,undef,undef,undef,undef,undef,undef,undef,undef,undef,undef,undef,undef,undef,undef,undef,undef,undef,undef,undef,undef,undef,undef,undef]:=by
 rw[show 35-#[x,y].size=33 from rfl];apply Array.ext';simp[List.replicate]
def xh7(x y:Zv):Frame.enter Tryz.prog 136 #[x,y] .normal=(base 136).at ⟨#[x,y,undef,undef,undef,undef,undef,undef,undef,undef,undef,undef,undef,undef,undef,undef,undef,undef,undef,undef,undef,undef,undef,undef,undef,undef,undef,undef,undef,undef,undef,undef,undef,undef,undef],[]⟩ [.code zct]:=by
 rw[enter_at (c:=zct) _ Tryz.func136 (by kernel_rfl),Tryz.ntmps136,xlp]
end
section
variable {F:Array Func} {dm:Frame} {w:World} {Lb D M clock:Nat} {es:Array MapEntry} {rm nx:Value} {bs ls:Int} {cp:Nat} {c0:Frame} {cs:List Frame}
def Lvs(c0:Zf)(cs:List Zf)(I:Zy->Prop)(J:List PanicEntry->Zy->Prop)(g:Zg)(w:Zy):Prop:=
 ∃a todo,a.defers=[]/\((I w/\g=G {(base 136).at a todo with mode:= .returning} (c0::cs))\/∃ch,J ch w/\g=G {(base 136).at a todo with mode:= .panicking ch} (c0::cs))
def xwr(Wg:Nat)(c0:Zf)(cs:List Zf)(I:Zy->Prop)(J:List PanicEntry->Zy->Prop)(g:Zg)(w:Zy)(_r:Nat):Prop:=
 ∃c:Zf,g=G ((baseD 209).at ⟨#[zo Wg]++Array.replicate 83 undef,[]⟩ [.code (body_wait ze6)]) (c::c0::cs)/\Lvs c0 cs I J (G {c with mode:=settle c.mode} (c0::cs)) w
def xfj{I:Zy->Prop}{w1 w':Zy}{g:Zg}(h:Lvs c0 cs I J g w1):RX Tryz.prog g w' (fun g' w2=>w2=w'/\((I w1/\g'=Z0 (c0.finish (.tuple #[])) cs)\/∃ch,J ch w1/\g'=Z0 (c0.raise ch) cs)):=by
 obtain⟨a,d,hd,h⟩:=h;have e:Tryz.f136.results=#[]:=by kernel_rfl
 rcases h with⟨f,rfl⟩|⟨ch,i,rfl⟩;refine(RX.move (es:=#[]) (g':=Z0 (c0.finish (.tuple #[])) cs) (fun v=>?_) (fun b=>⟨?_,fun x c=>b.2 x (by simp[G,Z0]at c⊢;exact .inr c)⟩) rfl rfl (by simp)).mono ?_;exact stepG_leave rfl hd Tryz.func136 (results_none e _ _ _) (events_results_none e _ _);exact(b.2 c0 (by simp[G])).finish _;rintro g' w2 ⟨rfl,rfl⟩;exact⟨rfl,.inl ⟨f,rfl⟩⟩;refine(RX.move (es:=#[]) (g':=Z0 (c0.raise ch) cs) (fun v=>?_) (fun b=>⟨(b.2 c0 (by simp[G])).raise _,fun x c=>b.2 x (by simp[G,Z0]at c⊢;exact .inr c)⟩) rfl rfl (by simp)).mono ?_;have j:({(base 136).at a d with mode:= .panicking ch}:Zf).defers=[]:=hd;simp[stepG,G,Z0,unwind,Frame.catches,Frame.at,hd,base,Tryz.func136];rintro g' w2 ⟨rfl,rfl⟩;exact⟨rfl,.inr ⟨ch,i,rfl⟩⟩
def zm7{Wg:Nat}{a:Act}{todo:List Item}{m:FrameMode}(b:m= .returning\/∃ch,m= .panicking ch)(hd:a.defers=[dcall 209 #[zo Wg]]){fs:List Zf}(v:Zy):
  stepG Tryz.prog true (G {(base 136).at a todo with mode:=m} fs) v= .go (G ((baseD 209).at ⟨#[zo Wg]++Array.replicate 83 undef,[]⟩ [.code (body_wait ze6)]) ({(base 136).at ⟨a.tmps,[]⟩ todo with mode:=m}::fs)) v:=by
 rw[xbk hd Tryz.func209 xgk xgj b,xbl];rfl
abbrev zgq(v:Zy)(D M:Nat):Pn:=⟨⟨Pn.N,fun r=>if r=D\/r=M then v.heap[r]?else Pn.V r⟩⟩
def Sm.repin{p1 p2:Pn}{P:Zp}{X:ZP}(h:Sm (pn:=p1) P X w v)(a:@Pn.N p2= @Pn.N p1)(c:∀r,X r-> @Pn.V p2 r= @Pn.V p1 r):Sm (pn:=p2) P X w v:=by
 obtain⟨g,i,j,k,l,m,n,o,e,f⟩:=h;exact @Sm.mk p2 P X w v g i j k l m n o ⟨by rw[a];exact e,fun r b d=>by rw[c r b];exact f r b (by rw[<-a];exact d)⟩
def xav(K:∀p:Pn,J0 (pn:=p) Tryz.prog F)(bl:DmF Tryz.prog dm)(br:Ys Tryz.prog F 214)(Q:SL Lb bs ls w)(hD:w.heap[D]?=some (.cells #[rm,.map (some M),nx] py.ety))(hM:w.heap[M]?=some (.map es clock))(Y:∀e∈es.toList,IsFile e)
  (bx:IntKind.i64.wrap (ls-bs)=(cp:Int))(bk:cp<=1000000000)(bw:IntKind.i64.wrap (bs+1)=bs+1)(bv:ls<9223372036854775807)(bo:-9223372036854775808<=bs+1)(hn:bs+1+(cp:Int)=ls+1)
(bt:∀r w t d,I r (A.re w t d)->I r w)(bu:∀ch w t d,J ch (A.re w t d)->J ch w)(bn:∀ch w,J ch w->settle (.panicking ch)= .panicking ch)
  (bh:∀c,c=7\/c=8->I 0 (wF w D M c))
  (hv:∀r,r<(segs es (bs+1) cp).length->∃x y,(segs es (bs+1) cp)[r]?=some (sgV x y)/\∀w,I r w->∀t d,Calls (wf Tryz.prog F) 214 #[zo Lb,sgV x y] (A.re (w.alloc (sgO x y)) t d) (fun e w'=>match e with| .returned _=>I (r+1) w'| .panicked ch=>J ch w'| .outgrown=>False)):
  RX Tryz.prog (Z0 (Frame.enter Tryz.prog 136 #[zo Lb,zo D] .normal) (c0::cs)) w
   (fun g' w'=>∃w1,w'=healW w1 D M (.cells #[rm,.map (some M),nx] py.ety) (.map es clock)/\((I cp w1/\g'=Z0 (c0.finish (.tuple #[])) cs)\/∃ch,J ch w1/\g'=Z0 (c0.raise ch) cs)):=by
 rintro X m t ⟨⟨gs,v,sl,k,rfl,h0,hJ,f⟩,bq,b7,cb⟩;have S:∀x∈c0::cs,FrW Tryz.prog x:=bq.2;have Z:¬X D:=zis f hD (by simp);have nM:¬X M:=zxj f hM;obtain⟨cl,b8,b9,bi,bp⟩:=cells_of_cell Q.base;have nL:¬X Lb:=zis f bi bp;have C:=(f.out D Z).trans hD;have z:=(f.out M nM).trans hM;have vS:SL Lb bs ls v:=Q.of_heap (f.out Lb nL);have V:v.heap.size=w.heap.size:=f.size;have n:∀x,X x->x<v.heap.size:=fun x l=>by rw[V];exact f.low x l
 have W:=segs_length es cp (bs+1);have H:D<v.heap.size:=(za.1 C).1;have O:M<v.heap.size:=(za.1 z).1;have ca:D≠M:=by rintro rfl;rw[C]at z;cases z
 have bg:gs[0]?=some (G ((base 136).at ⟨#[zo Lb,zo D,undef,undef,undef,undef,undef,undef,undef,undef,undef,undef,undef,undef,undef,undef,undef,undef,undef,undef,undef,undef,undef,undef,undef,undef,undef,undef,undef,undef,undef,undef,undef,undef,undef],[]⟩ [.code zct]) (c0::cs)):=by rw[h0,xh7];rfl
 obtain⟨N1,be,i,b5,t1,q1,c,x,y,s,r1,g1,z1,L1,P1,l,hy⟩:=xq4 (sl:=sl) hJ bg nL vS n bx bk bw;have T:0<gs.size:=(za.1 h0).1;obtain⟨k1,J1⟩:=xms (cp:=cp) (d:=i) s T z1 L1 P1 l hy n C z Z nM Y bv bo hn;have S0:Sm (pn:=zgq v D M) Tryz.prog X (re w v.tape v.drawn) v:=f.repin rfl (fun r U=>if_neg fun h=>h.elim (fun e=>Z (e▸U)) (fun e=>nM (e▸U)));have S1:Sm (pn:=zgq v D M) Tryz.prog (Xx X v.heap.size D M) (re (wF w D M c) ((goW v D cp c).at i).tape ((goW v D cp c).at i).drawn) ((goW v D cp c).at i):=by
  have h1:=xof (pn:=zgq v D M) (cp:=cp) (d:=i) S0 s C z Z nM (if_pos (.inl rfl)) (if_pos (.inr rfl));have e1:((goW v D cp c).at i).tape=v.tape:=by rcases s with rfl|rfl<;>rfl
  have e2:((goW v D cp c).at i).drawn=i:=rfl;rw[e1,e2];exact h1
 have B:=zwz (pn:=zgq v D M) (X:=X) (c:=c) H O (by rw[V];exact f.pin.1);have Kk:=xmt (cp:=cp) (d:=i) s C z Y;have bd:(be.push (born Tryz.prog (call211 v.heap.size (sOf v.heap.size c) (v.heap.size+3) (bs+1) ls)))[0]?=some (G ((base 136).at (zdw Lb D v.heap.size (sOf v.heap.size c) (cOf v.heap.size c) (v.heap.size+3) bs ls cp) [.inRegion zgp [],.code K5]) (c0::cs)):=by
  rw[jh,if_neg (by omega)];exact g1
 have bj:=xm8 (pn:=zgq v D M) (c:=gs.size) (p:=t1.size) (r:=0) (cs:=c0::cs) (Lb:=Lb) (bs:=bs) (ls:=ls) (cp:=cp)
  (G':=xwr (v.heap.size+3) c0 cs (I cp) J) B Kk (xiw (pn:=zgq v D M) (dm:=dm) B (K _) bl br S bt bu hv
   (fun a w' hI hd=>RC.ctl (pn:=zgq v D M) B rfl rfl (zm7 (.inl rfl) hd) (RC.refl (pn:=zgq v D M) ⟨_,rfl,⟨a.tmps,[]⟩,[],rfl,.inl ⟨by rw[W]at hI;exact hI,rfl⟩⟩))
   (fun r a o ch w' hJ hd=>RC.ctl (pn:=zgq v D M) B rfl rfl (zm7 (.inr ⟨ch,rfl⟩) hd) (RC.refl (pn:=zgq v D M) ⟨_,rfl,⟨a.tmps,[]⟩,o,rfl,.inr ⟨ch,hJ,by
    have:=bn ch w' hJ;simp only[this]⟩⟩))
   cp 0 _ (by rw[W];omega) (bh c s) _ _ _ _ _ _ _)
 obtain⟨N2,bf,v2,b6,t2,k2,g2,w2,r2,e2,J2,a2,S2,j,rfl,L⟩:=bj k1 _ _ b5 _ J1 bd S1;obtain⟨d,st,mm,left,b,q,J2,-⟩:=J2;have hG:=xgl (Out:=fun g=>g=G _ (c0::cs)) (c:=j) xdw rfl v2 ⟨_,_,J2.wg⟩;have hW:=xk3 (pn:=zgq v D M) B _ bf v2 b6 t2
  ⟨9,3,1,0,d,st,mm,left,b,q,_,J2,by simpa using a2,.inl rfl,.kd hG,fun h=>by omega,rfl⟩ S2
 obtain⟨N3,E,v3,ba,t3,d3,m3,bz,b3,q3,g3,e3,J3,a3,rfl,bm,S3⟩:=hW;obtain⟨k3,bb⟩:=zyz (pn:=zgq v D M) B (X':=fun x=>(Xx X v.heap.size D M x/\x≠D)/\x≠M) (fun x l hs=>⟨⟨l,fun e=>hs (.inl (e▸ .inl rfl))⟩,fun e=>hs (.inr e)⟩) J3 bm ⟨_,a3⟩;have b1:ox ((goW v D cp c).at i) D= .cells #[rm,.map (some M),nx] py.ety:=by unfold ox;rw[zb0 v D cp s H i,C];rfl
 have b2:ox ((goW v D cp c).at i) M= .map es clock:=by unfold ox;rw[zb0 v D cp s O i,z];rfl
 have kD:v3.heap[D]?=some (.cells #[rm,.map (some M),nx] py.ety):=(J3.kc D (.inl (.inl rfl))).trans (by rw[b1]);have kM:v3.heap[M]?=some (.map es clock):=(J3.kc M (.inr rfl)).trans (by rw[b2]);have b0:DOk Tryz.prog (some (.map es clock)):=by have:=f.oks M;rw[show(re w v.tape v.drawn).heap[M]?=some (.map es clock)from hM]at this;exact this
 have bc:=Sm.heal (pn:=zgq v D M) (Sm.heal (pn:=zgq v D M) S3 kD DOk.cells) kM b0;have S4:=Sm.repin (p2:=pn) bc rfl (fun r U=>(if_neg fun h=>h.elim (fun e=>U.1.2 e) (fun e=>U.2 e)).symm);have R:Beh Tryz.prog (fun x=>(Xx X v.heap.size D M x/\x≠D)/\x≠M) (G {j with mode:=settle j.mode} (c0::cs)) (healW w2 D M (.cells #[rm,.map (some M),nx] py.ety) (.map es clock)) (crowd E v3 ba) t3:=by
  refine⟨⟨E,v3,ba,k3,rfl,a3,bb,S4⟩,⟨.inl ?_,S⟩,rfl,rfl⟩;obtain⟨a,o,_,⟨_,e⟩|⟨ch,_,e⟩⟩:=L<;>(rw[show j.fn=136 by have:=congrArg (fun g=>g.frame.fn) e;exact this];exact xcr)
 obtain⟨N4,m4,t4,X4,g4,w4,e4,x4,b4,rfl,h4⟩:=xfj (w':=healW w2 D M (.cells #[rm,.map (some M),nx] py.ety) (.map es clock)) L _ _ _ R;refine⟨N1+(N2+(N3+N4)),m4,t4,X4,g4,_,ql r1 (ql e2 (ql e3 e4)),fun x l=>x4 x ⟨⟨.inl l,fun e=>Z (e▸l)⟩,fun e=>nM (e▸l)⟩,b4,w2,rfl,h4⟩
end
section
variable {F:Array Func} {dm:Frame} {w:World} {Lb D M clock:Nat} {es:Array MapEntry} {rm nx:Value} {bs ls:Int} {cp:Nat} {c0:Frame} {cs:List Frame}
def readLog_cc(K:∀p:Pn,J0 (pn:=p) Tryz.prog F)(g:DmF Tryz.prog dm)(k:Ys Tryz.prog F 214)(b:SL Lb bs ls w)(z:w.heap[D]?=some (.cells #[rm,.map (some M),nx] py.ety))(E:w.heap[M]?=some (.map es clock))(s:∀e∈es.toList,IsFile e)
  (q:IntKind.i64.wrap (ls-bs)=(cp:Int))(f:cp<=1000000000)(o:IntKind.i64.wrap (bs+1)=bs+1)(n:ls<9223372036854775807)(j:-9223372036854775808<=bs+1)(G:bs+1+(cp:Int)=ls+1)
(l:∀r w t d,I r (A.re w t d)->I r w)(m:∀ch w t d,J ch (A.re w t d)->J ch w)(i:∀ch w,J ch w->settle (.panicking ch)= .panicking ch)
  (a:∀c,c=7\/c=8->I 0 (wF w D M c))
  (H:∀r,r<(segs es (bs+1) cp).length->∃x y,(segs es (bs+1) cp)[r]?=some (sgV x y)/\∀w,I r w->∀t d,Calls (wf Tryz.prog F) 214 #[zo Lb,sgV x y] (A.re (w.alloc (sgO x y)) t d) (fun e w'=>match e with| .returned _=>I (r+1) w'| .panicked ch=>J ch w'| .outgrown=>False)):
  CC Tryz.prog 136 #[zo Lb,zo D] w
   (fun e w'=>∃w1,w'=healW w1 D M (.cells #[rm,.map (some M),nx] py.ety) (.map es clock)/\((e= .returned (.tuple #[])/\I cp w1)\/∃ch,e= .panicked ch/\J ch w1)):=fun L O=>by
 refine(xav K g k b z E s q f o n j G l m i a H).mono ?_;rintro Q w' ⟨w1,v,⟨B,h⟩|⟨ch,C,h⟩⟩;exact⟨.returned _,⟨w1,v,.inl ⟨rfl,B⟩⟩,h⟩;exact⟨.panicked ch,⟨w1,v,.inr ⟨ch,rfl,C⟩⟩,h⟩
end
end
end A
namespace A
open Go Go.Conc
variable [pn:Pn]
section
variable {I:Zf→Zy→Prop}
section
variable {P:Program} {F:Array Func} {X:Nat->Prop}
def zmi{p:Zp}{fr:Zf}{cs:List Zf}{a b:Sem Next}{u:Zy}(h:a.runT p u #[]=b.runT p u #[]):stepG.apply p true fr cs none a u=stepG.apply p true fr cs none b u:=by
 unfold stepG.apply;simp only[if_true,h]
def zp2{fr fr':Zf}{w:Zy}(h:∀p cs u,stepG p true (Z0 fr cs) u= .go (Z0 fr' cs) u #[])(hk:fr'.kind=fr.kind)(c:I fr' w\/Xv P fr'):zmh P F X I fr w:=by
 refine .inr (.inr ⟨fr',w,c,hk,fun cs=>?_,⟨#[],fun cs=>h _ _ _⟩,fun v b=>⟨v,#[],fun cs=>h _ _ _,.still b⟩⟩);intro f g a e hd;dsimp only at e;rw[h]at e;cases e;exact⟨ze _,rfl,fun t d _=>⟨#[],by dsimp only;rw[h];simp⟩⟩
def zp1{fr:Zf}{ops:Array Oper}{i:Nat}{rest:List Nat}{k:List Item}{o:Oper}{s:Sem Next}{w:Zy}(J:Sm P X w w)(ht:fr.todo= .inRegion ops (i::rest)::k)(hm:fr.mode= .run)(ho:ops[i]?=some o)
  (hg:Region.wanted o (yielded ops fr.tmps)=true)(hr:fr.roundOf=none)(W:fr.kind≠ .early)(R:BN P F X s)
  (h1:∀t d,(execOp fr.eval o).runT (wf P F) (re w t d) #[]=s.runT (wf P F) (re w t d) #[])(h2:∀v,Sm P X w v->(execOp fr.eval o).runT P v #[]=s.runT P v #[])
  (hv:∀n x,s.run (wf P F) w= .ok n x->∃a,(n= .value a\/n= .skip/\a=undef)/\(I (fr.finish a) x\/Xv P (fr.finish a)))
  (hp:∀y x,s.run (wf P F) w= .halt (.panic y) x->I (fr.raise [{v:=y,recovered:=false}]) x):zmh P F X I fr w:=by
 have j:(fr.kind==CallKind.early)=false:=by cases hq:fr.kind<;>simp_all
 have L:∀p c u,stepG p true (Z0 fr c) u=stepG.apply p true fr c none (execOp fr.eval o) u:=fun p c u=>by
  simp only[stepG,Z0,hm,stepG.exec,ht,ho,js,jv,hg,if_true,stepG.oper,Frame.oper?,hr]
 have O:∀c t d,stepG (wf P F) true (Z0 fr c) (re w t d)=stepG.apply (wf P F) true fr c none s (re w t d):=fun c t d=>by
  rw[L];exact zmi (h1 t d)
 have l:∀c,stepG (wf P F) true (Z0 fr c) w=stepG.apply (wf P F) true fr c none s w:=fun c=>O c _ _;have M:∀c v,Sm P X w v->stepG P true (Z0 fr c) v=stepG.apply P true fr c none s v:=fun c v B=>by
  rw[L];exact zmi (h2 v B)
 have hn:∀n x,s.run (wf P F) w= .ok n x->Nx n:=fun n x e=>by
  obtain⟨a,h|⟨h,_⟩,_⟩:=hv n x e<;>rw[h]<;>trivial
 have z:∀c,xd1 w (stepG (wf P F) true (Z0 fr c)):=fun c g' r H e hd=>by
  have Z:stepG (wf P F) true (Z0 fr c) w= .go g' r H:=e;rw[l]at Z;obtain⟨l1,l2,l3⟩:=zr0 R J W hn g' r H Z hd;exact⟨l1,l2,fun t d ha=>by
   obtain⟨S,h⟩:=l3 t d ha;exact⟨S,by
    show stepG (wf P F) true (Z0 fr c) (A.re w t d)=_;rw[O];exact h⟩⟩
 have D:=R.tame w J;cases hq:s.run (wf P F) w with
 |ok n x=>
  obtain⟨a,C,hI⟩:=hv n x hq;have U:Thr (s.run (wf P F) w):=by rw[hq];trivial
  have T:∀f b r,s.run (wf P F) w= .ok (.enter f b) r->¬Ref F f:=fun f b r e=>by
   rw[hq]at e;cases e;rcases C with h|⟨h,_⟩<;>cases h
  refine .inr (.inr ⟨fr.finish a,x,hI,Vm fr a,z, ?_,fun v B=>?_⟩);rcases C with rfl|⟨rfl,rfl⟩
  exact⟨_,fun c=>by rw[l];simp only[stepG.apply,zg,if_true,hq,j];rfl⟩;exact⟨_,fun c=>by rw[l];simp only[stepG.apply,zg,if_true,hq,j];rfl⟩;obtain⟨Y,E,K⟩:=R.mov w v #[] B U T;obtain⟨G,Q⟩:=K.run;rw[hq]at G;have q:=K.af;rw[hq]at q;refine⟨Y,seen P fr.fn E,fun c=>?_,q.sub fun e V=>mem_seen V⟩;rw[M c v B];rcases C with rfl|⟨rfl,rfl⟩
  simp only[stepG.apply,zg,if_true,G,Q,j,Ww,GStep.after,xu,if_false];simp[Z0];simp only[stepG.apply,zg,if_true,G,Q,j,Ww,GStep.after,xu,if_false];simp[Z0]
 |halt h x=>
  have ended:(∀c,∃oo r S,stepG.apply (wf P F) true fr c none s w= .ended oo r S)->zmh P F X I fr w:=fun h=> .inl fun c=>by rw[l];exact h c
  rw[hq]at D;cases h with
  |panic y=>
   have U:Thr (s.run (wf P F) w):=by rw[hq];trivial
   have T:∀f b r,s.run (wf P F) w= .ok (.enter f b) r->¬Ref F f:=fun f b r e=>by
    rw[hq]at e;cases e
   refine .inr (.inr ⟨fr.raise [{v:=y,recovered:=false}],x,.inl (hp y x hq),zd8 _ _,z, ?_,fun v B=>?_⟩);exact⟨_,fun c=>by rw[l];simp only[stepG.apply,zg,if_true,hq,j];rfl⟩;obtain⟨Y,E,K⟩:=R.mov w v #[] B U T;obtain⟨G,Q⟩:=K.run;rw[hq]at G;have q:=K.af;rw[hq]at q;refine⟨Y,seen P fr.fn E,fun c=>?_,q.sub fun e V=>mem_seen V⟩;rw[M c v B];simp only[stepG.apply,zg,if_true,G,Q,j,Ww,GStep.after,xu,if_false];simp[Z0]
  |stuck m=>exact ended fun c=>⟨_,_,_,by simp only[stepG.apply,zg,if_true,hq,j,GStep.after];rfl⟩
  |exit m=>exact ended fun c=>⟨_,_,_,by simp only[stepG.apply,zg,if_true,hq,j,GStep.after];rfl⟩
  |unsupported m=>
   cases m with
   |initOrder g=>exact D.elim
   |_=>exact ended fun c=>⟨_,_,_,by simp only[stepG.apply,zg,if_true,hq,j,GStep.after];rfl⟩
  |_=>exact D.elim
def zxz(H:Fit P F X){fr:Zf}{ops:Array Oper}{i:Nat}{rest:List Nat}{k:List Item}{o:Oper}{w:Zy}(b:Sm P X w w)(h:fr.todo= .inRegion ops (i::rest)::k)(e:fr.mode= .run)(ho:ops[i]?=some o)
  (d:Region.wanted o (yielded ops fr.tmps)=true)(g:fr.roundOf=none)(c:fr.kind≠ .early)(hop:zk8 P o.op=true)
  (j:∀n x,(execOp fr.eval o).run (wf P F) w= .ok n x->∃a,(n= .value a\/n= .skip/\a=undef)/\(I (fr.finish a) x\/Xv P (fr.finish a)))
  (f:∀y x,(execOp fr.eval o).run (wf P F) w= .halt (.panic y) x->I (fr.raise [{v:=y,recovered:=false}]) x):zmh P F X I fr w:=
 zp1 b h e ho d g c (zfc H fr.eval o hop) (fun _ _=>rfl) (fun _ _=>rfl) j f
end
namespace Odd160
noncomputable def parts:Option (Array Oper×Array Oper×Code):=match Tryz.f220.body with
 |some (.seq (.region _ a _) (.cond _ (.region _ b _) c))=>some (a,b,c)
 |_=>none
noncomputable def zfo:Array Oper:=match parts with
 |some (a,_,_)=>a
 |none=>#[]
noncomputable def Va:Array Oper:=match parts with
 |some (_,b,_)=>b
 |none=>#[]
noncomputable def xqs:Code:=match parts with
 |some (_,_,c)=>c
 |none=> .skip
noncomputable def cR0:Code:= .region 0 zfo false
noncomputable def cC:Code:= .cond (.tmp 6) (.region 1 Va false) xqs
def body160:Tryz.f220.body=some (.seq cR0 cC):=by kernel_rfl
def ntmps220:Tryz.f220.ntmps=20:=by kernel_rfl
def xuc:qn Tryz.prog true xqs=true:=by kernel_rfl
def xly:qn Tryz.prog true (.seq cR0 cC)=false:=by kernel_rfl
def mc160:Mc Tryz.prog 220:=⟨_,_,Tryz.func220,body160,xly⟩
def zj8(ops:Array Oper)(i:Nat)(op:Op)(d:Option Nat):Prop:=∃o,ops[i]?=some o/\o.op=op/\o.dst=d/\o.guard=none
def o00:zj8 zfo 0 (.move (.tmp 0)) (some 2):=⟨zfo[0]!,by kernel_rfl,by kernel_rfl,by kernel_rfl,by kernel_rfl⟩
def o01:zj8 zfo 1 (.nilCheck (.tmp 2)) (some 3):=⟨zfo[1]!,by kernel_rfl,by kernel_rfl,by kernel_rfl,by kernel_rfl⟩
def o02:zj8 zfo 2 (.fieldAddr 223 (.tmp 3) 0) (some 4):=⟨zfo[2]!,by kernel_rfl,by kernel_rfl,by kernel_rfl,by kernel_rfl⟩
def o03:zj8 zfo 3 (.load 221 (.tmp 4)) (some 5):=⟨zfo[3]!,by kernel_rfl,by kernel_rfl,by kernel_rfl,by kernel_rfl⟩
def o04:zj8 zfo 4 (.binOp .eql 221 (.tmp 5) (.const (.pointer none)) 221) (some 6):=⟨zfo[4]!,by kernel_rfl,by kernel_rfl,by kernel_rfl,by kernel_rfl⟩
def o10:zj8 Va 0 (.move (.tmp 0)) (some 7):=⟨Va[0]!,by kernel_rfl,by kernel_rfl,by kernel_rfl,by kernel_rfl⟩
def o11:zj8 Va 1 (.move (.tmp 0)) (some 8):=⟨Va[1]!,by kernel_rfl,by kernel_rfl,by kernel_rfl,by kernel_rfl⟩
def o12:zj8 Va 2 (.convert 221 327 (.tmp 8)) (some 9):=⟨Va[2]!,by kernel_rfl,by kernel_rfl,by kernel_rfl,by kernel_rfl⟩
def o13:zj8 Va 3 (.call {callee:= .value (.func 275),args:=#[.tmp 9],argTypes:=#[327]}) (some 10):=⟨Va[3]!,by kernel_rfl,by kernel_rfl,by kernel_rfl,by kernel_rfl⟩
def o14:zj8 Va 4 (.convert 327 221 (.tmp 10)) (some 11):=⟨Va[4]!,by kernel_rfl,by kernel_rfl,by kernel_rfl,by kernel_rfl⟩
def o15:zj8 Va 5 (.nilCheck (.tmp 7)) (some 12):=⟨Va[5]!,by kernel_rfl,by kernel_rfl,by kernel_rfl,by kernel_rfl⟩
def o16:zj8 Va 6 (.fieldAddr 223 (.tmp 12) 0) (some 13):=⟨Va[6]!,by kernel_rfl,by kernel_rfl,by kernel_rfl,by kernel_rfl⟩
def o17:zj8 Va 7 (.store 221 (.tmp 13) (.tmp 11)) none:=⟨Va[7]!,by kernel_rfl,by kernel_rfl,by kernel_rfl,by kernel_rfl⟩
def xvn:zfo.size=5:=by kernel_rfl
def xvo:Va.size=8:=by kernel_rfl
def xvw:Tryz.prog.underlying 221=some (.pointer 223):=by kernel_rfl
def xvy:Tryz.prog.underlying 327=some .unsafePointer:=by kernel_rfl
noncomputable def zw1:Array Field:=match Tryz.prog.underlying 223 with
 |some (.struct fs)=>fs
 |_=>#[]
def xvx:Tryz.prog.underlying 223=some (.struct zw1):=by kernel_rfl
noncomputable def xcg:Field:=zw1[0]!
def fs0:zw1[0]?=some xcg:=by kernel_rfl
def xq1:xcg.offset=0:=by kernel_rfl
def xmq:xcg.type=221:=by kernel_rfl
def xvj:(Tryz.prog.info? 221).map (·.size)=some 1:=by kernel_rfl
def xvk:(Tryz.prog.info? 223).map (·.size)=some 2:=by kernel_rfl
end Odd160
end
end A
end Go.Proofs.YtjnbhiamaabbgabGreatDoor
