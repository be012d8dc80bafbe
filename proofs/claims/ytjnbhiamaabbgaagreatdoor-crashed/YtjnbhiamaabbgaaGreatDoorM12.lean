import Derived.Test.YtjnbhiamaabbgaaGreatDoorM8
import Derived.Test.YtjnbhiamaabbgaaGreatDoorM11
import Derived.Deep.Upon
set_option linter.all false
set_option maxRecDepth 100000
set_option maxHeartbeats 8000000
namespace Go.Proofs.YtjnbhiamaabbgaaGreatDoor
open Bool renaming false->bK,true->bL
open Go renaming MapEntry->aK,Oper->aD,execOp->bG,stepG->aZ,undef->bJ
open Go.Proofs.Tryz renaming prog->bM
open Go.stepG renaming exec->bI
open Option renaming none->bN,some->bO
open _root_.Array renaming replicate->aW
namespace A
open Tryq Go Go.Conc
variable [pn:Pn]
section
variable {k:List Item} {ops:Array aD} {i:Nat} {o:aD} {Q:Exit→Act→Zy→Prop} {a:Addr} {f:FuncId} {rest:List Nat} {w:Zy} {d:Nat} {fn:FuncId}
def cG(P:Zp)(F:Zc):∀d t,(wf P F).holdsStoodIn d t=P.holdsStoodIn d t:=by
 intro d;induction d with
 |zero=>intro t;rfl
 |succ d ih=>intro t;simp only[Program.holdsStoodIn,Jz,wW,ih]
namespace Odd160
structure Tb(p:Zp):Prop where
 u1:p.underlying 177=bO (.pointer 179)
 u2:p.underlying 283=bO .unsafePointer
 u3:p.underlying 179=bO (.struct MH)
 s1:(p.info? 177).map (·.size)=bO 1
 s2:(p.info? 179).map (·.size)=bO 2
def Ao:Tb bM:=⟨Ij,Il,Ik,Ia,Ib⟩
def GJ:Tb<|wf bM funcs:=⟨by rw[Jz];exact Ij,by rw[Jz];exact Il,by rw[Jz];exact Ik,by rw[BG];exact Ia,by rw[BG];exact Ib⟩
section
variable {p:Program} (T:Tb p)
def xts(T:Tb p){u:Zy}{c:Za}{e:Zt}{f:Nat×Nat}(g:u.heap[a.block]?=bO (.cells c e f))(ho:a.off<c.size)(es:Array Event):
  (convert 177 283<|.pointer<|bO a).runT p u es=(.ok (.pointer<|bO a) u,es):=by
 obtain⟨j,b,d⟩:=zt.1 T.s2;have i:u.shape? a.block=bO (e,c.size):=by simp[World.shape?,g]
 have h:¬(c.size<=a.off):=by omega
 simp[convert,Conv.unsafePointer,Conv.seenAt,viewAt,cellsIn,underlying,sizeOf,typeInfo,program,shape,bind,Sem.bind,Sem.runT,pure,T.u1,T.u2,b,d,i,h,-Sem.runT_eq]
def CQ(a:Addr):Sem Zv:=do
 if(<-sizeOf 179)=0||(<-variablesAt a 179 1)then pure (.pointer<|bO a)
 else
  match<-shape a.block with
  |some (e,_)=>
   if(<-program).holdsStoodIn (<-program).depth e then unsupported (.unsafePointer "memory that holds a struct of a package that the model stands in for, seen as another type")
  |none=>unsupported<|.unsafePointer "memory that has no shape (a package-level variable that still waits for its initialiser), seen as another type"
  pure (zo<|<-newObj (.view a 179))
def xtt(T:Tb p){u:Zy}{c:Za}{e:Zt}{f:Nat×Nat}(b:u.heap[a.block]?=bO (.cells c e f))(es:Array Event):
  (convert 283 177<|.pointer<|bO a).runT p u es=(CQ a).runT p u es:=by
 have d:u.shape? a.block=bO (e,c.size):=by simp[World.shape?,b]
 simp[convert,CQ,Conv.unsafePointer,Conv.seenAt,viewAt,underlying,program,shape,bind,Sem.bind,Sem.runT,pure,T.u1,T.u2,d,-Sem.runT_eq];rfl
end
section
variable {P:Program} {F:Array Func} {X:Nat->Prop}
def xp6(hx:¬X a.block):B P F X<|CQ a:=by
 unfold CQ;refine xp (dP.1 _) fun n=>xp ?_ fun b=>?_;unfold variablesAt;refine Xc (by simp only[RZ,Y8,Y7])<|xp (RA hx) fun s=>?_;split<;>exact xr _
 split;exact xr _;refine xp (RA hx) fun s=>?_;have d:B P F X (do pure (zo<|<-newObj (.view a 179)):Sem Zv):=xp (xH _ ⟨fun c e h=>(by cases h),fun f h=>(by cases h),fun l h=>(by cases h)⟩) fun _=>xr _;split;refine Xc (by simp only[cG])<|Xc (by simp only[Y8,cG]) ?_;split;exact EJ (Jk _ trivial) (fun p w a x h=>by cases h);exact d;exact EJ (Jk _ trivial) fun p w a x h=>by cases h
end
end Odd160
namespace Odd160
def zB:Zv->Bool
 | .pointer _=>bL
 |_=>bK
section
variable {p:Program}
def zrf{like v:Zv}{bs:Zl}(h:like.ofBytes bs=bO v):zB v=bK:=by
 unfold Value.ofBytes at h
 repeat' split at h
 all_goals first|(cases h;done)|(cases h;rfl)
def zqt{a k:Addr}{u:Zt}{b:Bool}{v:Zv}{l:List Addr}(h:w.viewLoad p a u k b= .ok (v,l)):zB v=bK:=by
 unfold World.viewLoad at h;cases hs:w.seen p a u k b with
 |error e=>rw[hs]at h;cases h
 |ok q=>
  obtain⟨f,g,i,first,d,c⟩:=q;rw[hs]at h;simp only[bind,Except.bind]at h;split at h
  rename_i v' hv
  cases h;exact zrf hv;cases h
def Cd{w x:Zy}{v:Zv}(h:(Go.load a).run p w= .ok v x):x=w/\(zB v=bL->∃c e f,w.heap[a.block]?=bO (.cells c e f)/\a.off<c.size):=by
 rw[TD]at h;cases hc:w.cell? a with
 |some y=>
  rw[hc]at h;cases h;refine⟨rfl,fun _=>?_⟩;unfold World.cell? at hc;split at hc
  rename_i c e f he
  split at hc;cases hc;exact⟨c,e,f,he,(za.1 hc).1⟩;cases hc
 |none=>
  rw[hc]at h;dsimp only at h;split at h
  rename_i y l hf
  cases h;refine⟨rfl,fun b=>?_⟩;unfold World.farLoad at hf;split at hf;split at hf
  rename_i r hr
  cases hf;rw[zqt hr]at b;cases b;cases hf;cases hf;cases h
def sC(T:Tb p){w x:Zy}{v y:Zv}(h:(Instr.loadAt 177 y).run p w= .ok v x):x=w/\∃a,y= .pointer (bO a)/\(zB v=bL->∃c e f,w.heap[a.block]?=bO (.cells c e f)/\a.off<c.size):=by
 unfold Instr.loadAt at h;obtain⟨a,g,d,i⟩:=jm h;have m:y= .pointer (bO a)/\g=w:=by
  unfold Instr.sureAddr at d;split at d;cases d;exact⟨rfl,rfl⟩;cases d
 obtain⟨rfl,rfl⟩:=m;unfold loadVar at i;obtain⟨b,o,j,k⟩:=jm i;have n:b=bK/\o=g:=by
  have:(isAgg 177).run p g= .ok bK g:=by simp[isAgg,underlying,T.u1]
  rw[this]at j;cases j;exact⟨rfl,rfl⟩
 obtain⟨rfl,rfl⟩:=n;simp only[xu,if_false]at k;obtain⟨rfl,l⟩:=Cd k;exact⟨rfl,a,rfl,l⟩
def zua(T:Tb p){w x:Zy}{v y:Zv}(h:(Instr.fieldAt 179 y 0).run p w= .ok v x):x=w/\∃a,y= .pointer (bO a)/\v= .pointer (bO a):=by
 obtain⟨r,l,m⟩:=zt.1 T.s1;have q:(underlying 179).run p w= .ok (.struct MH) w:=by simp[underlying,T.u3]
 unfold Instr.fieldAt at h;obtain⟨d,s,g,c⟩:=jm h;rw[q]at g;cases g;dsimp only at c;rw[eK]at c;dsimp only at c;obtain⟨a,f,e,j⟩:=jm c;have n:y= .pointer (bO a)/\f=w:=by
  unfold Instr.sureAddr at e;split at e;cases e;exact⟨rfl,rfl⟩;cases e
 obtain⟨rfl,rfl⟩:=n;have o:(fieldPlace a NT).run p f= .ok a f:=by simp[fieldPlace,xmq,xq1,sizeOf,typeInfo,l,m,Addr.add]
 obtain⟨b,t,i,k⟩:=jm j;rw[o]at i;cases i;cases k;exact⟨rfl,a,rfl,rfl⟩
def xmk(T:Tb p){w x:Zy}{v y:Zv}{o o':Operand}(h:(do eqGuard .eql 177 o o' y (.pointer bN);binOp .eql 177 y (.pointer bN):Sem Zv).run p w= .ok v x):x=w/\zB y=bL:=by
 have k:(underlying 177).run p w= .ok (.pointer 179) w:=by simp[underlying,T.u1]
 have c:∀{y:Zv} {v x},(Op.equal 177 y<|.pointer bN).run p w= .ok v x->x=w/\zB y=bL:=fun {y v x} h=>by
  unfold Op.equal at h;rw[show Op.maxDepth=9999+1 from rfl,Op.equalIn]at h;obtain⟨d,e,b,a⟩:=jm h;rw[k]at b;cases b;cases y with
  |pointer q=>
   cases q with
   |none=>cases a;exact⟨rfl,rfl⟩
   |some q=>cases a;exact⟨rfl,rfl⟩
  |_=>cases a
 obtain⟨g,e,b,a⟩:=jm h;have l:e=w:=by
  cases y<;>(simp[eqGuard]at b;exact b.symm)
 subst l;have j:(binOp .eql 177 y<|.pointer bN)=(do pure (.bool<|<-Op.equal 177 y (.pointer bN)):Sem Zv):=by
  cases y<;>rfl
 rw[j]at a;obtain⟨q,m,f,i⟩:=jm a;cases i;exact c f
end
def xl7(x:Zv)(w:Zy):(callFunc 209 #[x]).run (wf bM funcs) w= .ok (.value x) w:=by
 have h:(wf bM funcs).funcs[209]?=bO Tryz.f209:=MK (by decide) Tryz.func209;have c:(Tryz.f209.name== "runtime.NumGoroutine")=bK:=KR Tryz.func209;have a:¬Tryz.f209.name= "runtime.NumGoroutine":=by simpa using c
 have b:Tryz.f209.body=bN:=by kernel_rfl
 have d:Extern.AbiNoEscape.same #[x]=pure x:=rfl;simp[callFunc,h,a,b,Gt,Io,d]
end Odd160
namespace Odd160
structure Bs(fr:Zf):Prop where
 fn:fr.fn=160
 ke:fr.kind≠ .early/\fr.kind≠ .report
 de:fr.defers=[]
 ro:fr.roundOf=bN
 sz:20<=fr.tmps.size
def Own(X:ZP)(fr:Zf)(w:Zy):Prop:=∃a c e f,fr.tmps.getD 0 bJ= .pointer (bO a)/\w.heap[a.block]?=bO (.cells c e f)/\a.off<c.size/\¬X a.block
def At(X:ZP)(fr:Zf)(w:Zy):Nat->Prop
 |0=>fr.todo=[.code<|.seq xW cC]
 |1=>fr.todo=[.code xW,.code cC]
 |2=>fr.todo=[.inRegion lM [0,1,2,3,4],.code cC]
 |3=>fr.todo=[.inRegion lM [1,2,3,4],.code cC]/\fr.tmps.getD 2 bJ=fr.tmps.getD 0 bJ
 |4=>fr.todo=[.inRegion lM [2,3,4],.code cC]/\fr.tmps.getD 3 bJ=fr.tmps.getD 0 bJ
 |5=>fr.todo=[.inRegion lM [3,4],.code cC]/\∃a,fr.tmps.getD 0 bJ= .pointer (bO a)/\fr.tmps.getD 4 bJ= .pointer (bO a)
 |6=>fr.todo=[.inRegion lM [4],.code cC]/\(zB (fr.tmps.getD 5 bJ)=bL->Own X fr w)
 |7=>fr.todo=[.inRegion lM [],.code cC]/\Own X fr w
 |8=>fr.todo=[.code cC]/\Own X fr w
 |9=>fr.todo=[.code<|.region 1 Va bK]/\Own X fr w
 |10=>fr.todo=[.inRegion Va [0,1,2,3,4,5,6,7]]/\Own X fr w
 |11=>fr.todo=[.inRegion Va [1,2,3,4,5,6,7]]/\Own X fr w
 |12=>fr.todo=[.inRegion Va [2,3,4,5,6,7]]/\Own X fr w/\fr.tmps.getD 8 bJ=fr.tmps.getD 0 bJ
 |13=>fr.todo=[.inRegion Va [3,4,5,6,7]]/\Own X fr w/\fr.tmps.getD 9 bJ=fr.tmps.getD 0 bJ
 |14=>fr.todo=[.inRegion Va [4,5,6,7]]/\Own X fr w/\fr.tmps.getD 10 bJ=fr.tmps.getD 0 bJ
 |15=>fr.todo=[.inRegion Va [5,6,7]]
 |16=>fr.todo=[.inRegion Va [6,7]]
 |17=>fr.todo=[.inRegion Va [7]]
 |18=>fr.todo=[.inRegion Va []]
 |_=>False
def I(X:ZP)(fr:Zf)(w:Zy):Prop:=Bs fr/\((∃ch ops r k,fr.mode= .panicking ch/\fr.todo= .inRegion ops r::k)\/(fr.mode= .run/\∃n,At X fr w n))
def At.re{X:ZP}{fr:Zf}{n:Nat}(t:Nat->Question->Nat)(d:Nat)(h:At X fr w n):At X fr (re w t d) n:=by
 match n,h with
 |0,h|1,h|2,h|3,h|4,h|5,h|6,h|7,h|8,h|9,h|10,h|11,h|12,h|13,h|14,h|15,h|16,h|17,h|18,h=>exact h
 |_+19,h=>exact h.elim
def CG{ts:Za}{d j:Nat}{a:Zv}(h:d≠j):(ts.setIfInBounds d a).getD j bJ=ts.getD j bJ:=by
 simp[Zj,h]
def CF{ts:Za}{a:Zv}(h:d<ts.size):(ts.setIfInBounds d a).getD d bJ=a:=by
 simp[Zj,h]
section
variable {X:Nat->Prop} {fr:Frame} {w:World}
def Bs.put(h:Bs fr)(d:Nat)(a:Zv)(k:List Item):Bs {fr with tmps:=fr.tmps.setIfInBounds d a,todo:=k}:=⟨h.fn,h.ke,h.de,h.ro,by simpa using h.sz⟩
def Bs.to(h:Bs fr)(k:List Item):Bs {fr with todo:=k}:=⟨h.fn,h.ke,h.de,h.ro,h.sz⟩
def Own.put(h:Own X fr w)(hd:d≠0)(a:Zv)(k:List Item):Own X {fr with tmps:=fr.tmps.setIfInBounds d a,todo:=k} w:=by
 obtain⟨q,c,e,f,b,g⟩:=h;exact⟨q,c,e,f,by rw[<-b];exact CG hd,g⟩
def fin{op:Op}(b:fr.todo= .inRegion ops (i::rest)::k)(ho:ops[i]?=bO o)(hd:o.dst=bO d)(a:Zv):fr.finish a={fr with tmps:=fr.tmps.setIfInBounds d a,todo:= .inRegion ops rest::k}:=by
 simp[Frame.finish,b,ho,hd]
def xw7{op:Op}(b:fr.todo= .inRegion ops (i::rest)::k)(ho:ops[i]?=bO o)(hd:o.dst=bN)(a:Zv):fr.finish a={fr with todo:= .inRegion ops rest::k}:=by
 simp[Frame.finish,b,ho,hd]
def I.raise{r:List Nat}(h:Bs fr)(a:fr.todo= .inRegion ops r::k)(b:List PanicEntry)(x:Zy):I X (fr.raise b) x:=by
 unfold Frame.raise;split;exact⟨⟨h.fn,h.ke,h.de,h.ro,h.sz⟩,.inl ⟨_,_,_,_,rfl,a⟩⟩;exact⟨⟨h.fn,h.ke,h.de,h.ro,h.sz⟩,.inl ⟨_,_,_,_,rfl,a⟩⟩
def wanted{y:Nat->Option Bool}(h:o.guard=bN):Region.wanted o y=bL:=by
 simp[Region.wanted,h]
def vI(H:Fit bM funcs X)(q:Sm bM X w w)(b:Bs fr)(r:fr.mode= .run)(f:fr.todo= .inRegion ops (i::rest)::k){op:Op}(hop:qK ops i op<|bO d)(c:qM bM op=bL)
  (s:∀o n x,o.op=op->(bG fr.eval o).run (wf bM funcs) w= .ok n x->∃a,n= .value a/\I X {fr with tmps:=fr.tmps.setIfInBounds d a,todo:= .inRegion ops rest::k} x):zA bM funcs X (I X) fr w:=by
 obtain⟨o,g,h,m,p⟩:=hop;refine cD H q f r g (wanted p) b.ro b.ke.1 (by rw[h];exact c) (fun n x e=>?_) fun y x _=>I.raise b f _ _;obtain⟨a,j,l⟩:=s o n x h e;exact⟨a,.inl j,.inl<|by rw[fin (op:=op) f g m];exact l⟩
def KG{s:Sem Zv}{p:Zp}{x:Zy}{n:Next}(h:(do pure (.value<|<-s):Sem Next).run p w= .ok n x):∃a,n= .value a/\s.run p w= .ok a x:=by
 obtain⟨a,d,b,c⟩:=jm h;cases c;exact⟨a,rfl,b⟩
def M_{ρ:Operand->Zv}{y:Operand}{p:Zp}{x:Zy}{n:Next}(ho:o.op= .move y)(h:(bG ρ o).run p w= .ok n x):n= .value (ρ y)/\x=w:=by
 unfold bG at h;rw[ho]at h;cases h;exact⟨rfl,rfl⟩
def Nl{ρ:Operand->Zv}{y:Operand}{p:Zp}{x:Zy}{n:Next}(ho:o.op= .nilCheck y)(h:(bG ρ o).run p w= .ok n x):n= .value (ρ y):=by
 unfold bG at h;rw[ho]at h;dsimp only at h;split at h;exact absurd h<|Yr _ _ _ _ _;exact absurd h<|Yr _ _ _ _ _;exact absurd h<|Yr _ _ _ _ _
 rename_i name first captured hy
 rw[hy];split at h;exact absurd h<|Yr _ _ _ _ _;obtain⟨p,g,d,b⟩:=jm h;obtain⟨y,i,e,a⟩:=jm b;split at a;obtain⟨z,j,c,f⟩:=jm a;cases c;cases a;rfl;cases h;rfl;cases h;rfl
end
end Odd160
namespace Odd160
section
variable {X:Nat->Prop} {fr:Frame} {w:World}
def UO(fr:Zf)(j:Nat):fr.eval (.tmp j)=fr.tmps.getD j bJ:=rfl
def LQ(a:Bs fr)(b:fr.mode= .run)(h:∀p cs u,aZ p bL (Z0 fr cs) u= .go (Z0 {fr with todo:=k} cs) u #[]){n:Nat}(c:At X {fr with todo:=k} w n):zA bM funcs X (I X) fr w:=
 C9 h rfl (.inl ⟨a.to k,.inr ⟨b,n,c⟩⟩)
def xrv:Tryz.prog.inits.idxOf? 160=bN:=by
 rw[Tryz.inits_eq];simp
def Tu(a:Bs fr)(hk:∀it∈k,Y3 bM bL it):Xv bM {fr with todo:=k}:=
 ⟨fun it b=>by simp only[a.ro,Option.isNone_none];exact hk it b,fun d hd=>(by simp only[a.de]at hd;cases hd),a.ke,(by rw[show({fr with todo:=k}:Zf).fn=160 from a.fn];exact xrv)⟩
def live{c:Za}{e:Zt}{f:Nat×Nat}(i:Sm bM X w w)(d:w.heap[a.block]?=bO (.cells c e f))(g:a.off<c.size):¬X a.block:=fun j=>by
 obtain⟨o,m,b,_,⟨h,_⟩|⟨k,l,h,_⟩⟩:=i.dead _ j;rw[d]at b;cases b;cases h;rw[d]at b;cases b;cases h;simp at g
def xmm(ho:o.op= .call {callee:= .value (.func 209),args:=#[.tmp 9],argTypes:=#[283]}):bG fr.eval o=callFunc 209 #[fr.eval<|.tmp 9]:=by
 have a:resolve fr.eval {callee:= .value (.func 209),args:=#[.tmp 9],argTypes:=#[283]} o.type=pure {target:= .fn (.func 209) #[],args:=#[fr.eval<|.tmp 9]}:=by
  simp[resolve,Deferred.ofValue,Frame.eval]
 unfold bG;rw[ho];dsimp only;rw[a];show invoke (.fn (.func 209) #[]) #[fr.eval<|.tmp 9]=_;simp[invoke]
def wL(H:Fit bM funcs X)(l:Sm bM X w w)(g:Bs fr)(i:fr.mode= .run){n:Nat}(h:At X fr w n):zA bM funcs X (I X) fr w:=by
 have sz:=g.sz
 match n,h with
 |0,h=>exact LQ g i (k:=[.code xW,.code cC]) (fun p m u=>by simp[aZ,Z0,i,bI,show fr.todo=[.code<|.seq xW cC]from h]) (n:=1) rfl
 |1,h=>
  exact LQ g i (k:=[.inRegion lM [0,1,2,3,4],.code cC]) (fun p m u=>by
   simp[aZ,Z0,i,bI,show fr.todo=[.code xW,.code cC]from h,xW,xvn];rfl) (n:=2) rfl
 |2,h=>
  refine vI H l g i h hH rfl fun o n x j e=>?_;obtain⟨rfl,rfl⟩:=M_ j e;exact⟨_,rfl,g.put _ _ _,.inr ⟨i,3,rfl,by
   show(fr.tmps.setIfInBounds 2 _).getD 2 bJ=(fr.tmps.setIfInBounds 2 _).getD 0 bJ;rw[CF<|by omega,CG<|by omega];rfl⟩⟩
 |3,⟨h,h2⟩=>
  refine vI H l g i h hO rfl fun o n x j e=>?_;obtain rfl:=Nl j e;exact⟨_,rfl,g.put _ _ _,.inr ⟨i,4,rfl,by
   show(fr.tmps.setIfInBounds 3 _).getD 3 bJ=(fr.tmps.setIfInBounds 3 _).getD 0 bJ;rw[CF<|by omega,CG<|by omega];exact h2⟩⟩
 |4,⟨h,h2⟩=>
  refine vI H l g i h hU rfl fun o n x j e=>?_;unfold bG at e;rw[j]at e;obtain⟨a,rfl,B⟩:=KG e;obtain⟨rfl,b,C,rfl⟩:=zua GJ B;exact⟨_,rfl,g.put _ _ _,.inr ⟨i,5,rfl,b,by
   show(fr.tmps.setIfInBounds 4 _).getD 0 bJ=_;rw[CG<|by omega,<-h2];exact C,by
   show(fr.tmps.setIfInBounds 4 _).getD 4 bJ=_;rw[CF<|by omega]⟩⟩
 |5,⟨h,a0,h2,h3⟩=>
  refine vI H l g i h hY rfl fun o n x j e=>?_;unfold bG at e;rw[j]at e;obtain⟨a,rfl,B⟩:=KG e;obtain⟨rfl,b,C,U⟩:=sC GJ B;rw[UO,h3]at C;cases C;exact⟨_,rfl,g.put _ _ _,.inr ⟨i,6,rfl,fun V=>by
   have E:zB ((fr.tmps.setIfInBounds 5 a).getD 5 bJ)=bL:=V;rw[CF<|by omega]at E;obtain⟨c,D,f,r,z⟩:=U E;exact Own.put ⟨a0,c,D,f,h2,r,z,live l r z⟩ (by omega) _ _⟩⟩
 |6,⟨h,h2⟩=>
  refine vI H l g i h hZ rfl fun o n x j e=>?_;unfold bG at e;rw[j]at e;obtain⟨a,rfl,B⟩:=KG e;obtain⟨rfl,C⟩:=xmk GJ B;exact⟨_,rfl,g.put _ _ _,.inr ⟨i,7,rfl,(h2 C).put (by omega) _ _⟩⟩
 |7,⟨h,h2⟩=>exact LQ g i (k:=[.code cC]) (fun p m u=>by simp[aZ,Z0,i,bI,show fr.todo=[.inRegion lM [],.code cC]from h]) (n:=8) ⟨rfl,h2⟩
 |8,⟨h,h2⟩=>
  have K:∀p m u,aZ p bL (Z0 fr m) u=(match fr.eval (.tmp 6)with
    | .bool b=> .go (Z0 {fr with todo:=[.code (if b then .region 1 Va bK else WR)]} m) u #[]
    |_=> .ended (.stuck "cond: bool expected" (fr.pos p)) u):=fun p m u=>by
   simp only[aZ,Z0,i,bI,show fr.todo=[.code cC]from h,cC];rfl
  by_cases M:∃b,fr.eval (.tmp 6)= .bool b;obtain⟨b,M⟩:=M;rw[M]at K;cases b with
  |true=>exact LQ g i (fun p m u=>K p m u) (n:=9) ⟨rfl,h2⟩
  |false=>exact C9 (fun p m u=>K p m u) rfl (.inr (Tu g fun W L=>by
    simp only[jp]at L;subst L;exact xuc))
  refine .inl fun m=>⟨.stuck "cond: bool expected" (fr.pos<|wf bM funcs),w,#[], ?_⟩;rw[K];split
  rename_i b hb'
  exact absurd ⟨b,hb'⟩ M;rfl
 |9,⟨h,h2⟩=>
  exact LQ g i (k:=[.inRegion Va [0,1,2,3,4,5,6,7]]) (fun p m u=>by
   simp[aZ,Z0,i,bI,show fr.todo=[.code<|.region 1 Va bK]from h,xvo];rfl) (n:=10) ⟨rfl,h2⟩
 |10,⟨h,h2⟩=>
  refine vI H l g i h iS rfl fun o n x j e=>?_;obtain⟨rfl,rfl⟩:=M_ j e;exact⟨_,rfl,g.put _ _ _,.inr ⟨i,11,rfl,h2.put (by omega) _ _⟩⟩
 |11,⟨h,h2⟩=>
  refine vI H l g i h kA rfl fun o n x j e=>?_;obtain⟨rfl,rfl⟩:=M_ j e;exact⟨_,rfl,g.put _ _ _,.inr ⟨i,12,rfl,h2.put (by omega) _ _,by
   show(fr.tmps.setIfInBounds 8 _).getD 8 bJ=(fr.tmps.setIfInBounds 8 _).getD 0 bJ;rw[CF<|by omega,CG<|by omega];rfl⟩⟩
 |12,⟨h,h2,h3⟩=>
  obtain⟨o,r,z,F,G⟩:=kB;obtain⟨a,c,D,f,N,J,S,O⟩:=id h2;have q:∀{p:Zp} {u:Zy},Tb p->u.heap[a.block]?=bO (.cells c D f)->(bG fr.eval o).runT p u #[]=(pure (.value<|.pointer<|bO a):Sem Next).runT p u #[]:=fun {p u} T Q=>by
   unfold bG;rw[z];dsimp only;rw[UO,h3,N];show((convert 177 283<|.pointer<|bO a).bind _).runT p u #[]=_;rw[Jb,xts T Q S]
  refine C8 l h i r (wanted G) g.ro g.ke.1 (s:=pure<|.value<|.pointer<|bO a) (Bl.next<|xr _) (fun t d=>q GJ J) (fun v R=>q Ao<|by rw[R.out _ O];exact J) (fun n x e=>?_) (fun y x e=>by cases e);cases e;refine⟨_,.inl rfl,.inl ?_⟩;rw[fin (op:= .move (.tmp 0)) h r F];exact⟨g.put _ _ _,.inr ⟨i,13,rfl,h2.put (by omega) _ _,by
   show(fr.tmps.setIfInBounds 9 _).getD 9 bJ=(fr.tmps.setIfInBounds 9 _).getD 0 bJ;rw[CF<|by omega,CG<|by omega];exact N.symm⟩⟩
 |13,⟨h,h2,h3⟩=>
  refine vI H l g i h kO rfl fun o n x j e=>?_;rw[xmm j,xl7]at e;cases e;exact⟨_,rfl,g.put _ _ _,.inr ⟨i,14,rfl,h2.put (by omega) _ _,by
   show(fr.tmps.setIfInBounds 10 _).getD 10 bJ=(fr.tmps.setIfInBounds 10 _).getD 0 bJ;rw[CF<|by omega,CG<|by omega];exact h3⟩⟩
 |14,⟨h,h2,h3⟩=>
  obtain⟨o,r,z,F,G⟩:=lA;obtain⟨a,c,D,f,N,J,S,O⟩:=id h2;have q:∀{p:Zp} {u:Zy},Tb p->u.heap[a.block]?=bO (.cells c D f)->(bG fr.eval o).runT p u #[]=(do pure (.value<|<-CQ a):Sem Next).runT p u #[]:=fun {p u} T Q=>by
   unfold bG;rw[z];dsimp only;rw[UO,h3,N];show((convert 283 177<|.pointer<|bO a).bind _).runT p u #[]=((CQ a).bind _).runT p u #[];rw[Jb,Jb,xtt T Q]
  refine C8 l h i r (wanted G) g.ro g.ke.1 (s:=do pure (.value<|<-CQ a)) (Bl.next<|xp (xp6 O) fun _=>xr _) (fun t d=>q GJ J) (fun v R=>q Ao<|by rw[R.out _ O];exact J) (fun n x e=>?_) fun y x e=>I.raise g h _ _;obtain⟨b,rfl,_⟩:=KG e;refine⟨_,.inl rfl,.inl ?_⟩;rw[fin (op:= .move (.tmp 0)) h r F];exact⟨g.put _ _ _,.inr ⟨i,15,rfl⟩⟩
 |15,h=>
  refine vI H l g i h lB rfl fun o n x j e=>?_;obtain rfl:=Nl j e;exact⟨_,rfl,g.put _ _ _,.inr ⟨i,16,rfl⟩⟩
 |16,h=>
  refine vI H l g i h o16 rfl fun o n x j e=>?_;unfold bG at e;rw[j]at e;obtain⟨a,rfl,B⟩:=KG e;exact⟨_,rfl,g.put _ _ _,.inr ⟨i,17,rfl⟩⟩
 |17,h=>
  obtain⟨o,r,z,F,G⟩:=lE;refine cD H l h i r (wanted G) g.ro g.ke.1 (by rw[z];rfl) (fun n x e=>?_) fun y x _=>I.raise g h _ _;unfold bG at e;rw[z]at e;obtain⟨u,Z,Y,B⟩:=jm e;cases B;refine⟨_,.inr ⟨rfl,rfl⟩,.inl ?_⟩;rw[xw7 (op:= .move (.tmp 0)) h r F];exact⟨g.to _,.inr ⟨i,18,rfl⟩⟩
 |18,h=>
  refine C9 (fr':={fr with todo:=[]}) (fun p m u=>?_) rfl<|.inr<|Tu g fun W L=>(by cases L);simp[aZ,Z0,i,bI,show fr.todo=[.inRegion Va []]from h]
 |_+19,h=>exact h.elim
end
end Odd160
def xxh(i:Nat):(funcs[i]?).map (·.results)=(Tryz.prog.funcs[i]?).map (·.results):=by
 rw[vP];cases h:Tryz.prog.funcs[i]?with
 |none=>rfl
 |some f=>simp only[js,vB];split<;>rfl
def WU(i:Nat):funcs[i]?=Tryz.prog.funcs[i]?\/Ref funcs i:=by
 cases h:Tryz.prog.funcs[i]?with
 |none=>left;rw[vP,h];rfl
 |some f=>
  cases hb:kJ i with
  |true=>exact .inr<|Au hb h<|KR h
  |false=>left;rw[vP,h];simp only[js,vB,hb,xu,if_false]
def WB(i:Nat)(fn:Func)(h:funcs[i]?=bO fn):(fn.name== "runtime.NumGoroutine")=bK:=by
 obtain⟨f,a,⟨_,rfl⟩|⟨_,rfl⟩⟩:=Ck h;have:=KR a;unfold vC;exact this;exact KR a
def yG(P:Zp)(F:Zc):(wf P F).funcs=F:=rfl
def WE(i:Nat)(fn:Func)(h:funcs[i]?=bO fn)(a:fn.body.isNone=bL):Extern.findNext fn=bN:=by
 rcases Em h a with⟨_,rfl⟩|⟨_,rfl⟩|⟨_,rfl⟩|⟨_,rfl⟩|⟨_,rfl⟩;exact n71;exact xxb;exact Gt;exact xxc;exact xxd
def xp8{P:Zp}{F:Zc}{X:ZP}(a:Za):B P F X<|Extern.AbiNoEscape.same a:=match a with
 |⟨[]⟩=>(ja _:B P F X<|stuck _)
 |⟨[x]⟩=>(xr x:B P F X<|pure x)
 |⟨_::_::_⟩=>(ja _:B P F X<|stuck _)
def WT{P:Zp}{F:Zc}{X:ZP}(i:Nat)(fn:Func)(h:funcs[i]?=bO fn)(c:fn.body.isNone=bL)(e:Za->Sem Zv)(b:Extern.find fn=bO e)(a:Za):B P F X<|e a:=by
 rcases Em h c with⟨_,rfl⟩|⟨_,rfl⟩|⟨_,rfl⟩|⟨_,rfl⟩|⟨_,rfl⟩;rw[pC]at b;cases b;exact Tr a;rw[xxo]at b;cases b;exact B6 a;rw[Io]at b;cases b;exact xp8 a;rw[xxp]at b;cases b;exact ztt _ _ a;rw[xxq]at b;cases b;exact ztp a
def xr4:Tryz.prog.inits=#[2]:=Tryz.inits_eq
def xny{f:Func}(h:kJ i=bL)(a:Tryz.prog.funcs[i]?=bO f):Ref funcs i:=Au h a<|KR a
def Fx(h:i≠2):Tryz.prog.inits.idxOf? i=bN:=by
 rw[xr4];simp[h.symm]
def Fw(a:¬Ref funcs f){x:Func}(hx:Tryz.prog.funcs[f]?=bO x):kJ f=bK:=by
 cases h:kJ f with
 |false=>rfl
 |true=>exact absurd (xny h hx) a
def EQ(b:¬Ref funcs f):Tryz.prog.inits.idxOf? f=bN/\(f≠160->∀fn c,funcs[f]?=bO fn->fn.body=bO c->qn bM bL c=bL):=by
 refine⟨Fx ?_,fun e fn c a d=>?_⟩;rintro rfl;have:=Fw b Tryz.func2;revert this;decide;rw[(WU f).resolve_right b]at a;exact Ay a (Fw b a) e d
def Hl(X:ZP):Fit bM funcs X:=⟨fun f=>(WU f).imp id .inl,xxh,WB,WE,fun f b h c e d a=>WT f b h c e d a⟩
def xuv(X:ZP):Fit (wf bM funcs) funcs X:=⟨fun f=> .inl (by rw[yG]),fun f=>(by rw[yG]),WB,WE,fun f b h c e d a=>WT f b h c e d a⟩
def xr2:pE bM funcs:=fun f a=>⟨(EQ a.2).1,by
 by_cases h:f=160;subst h;exact .inl Odd160.uI;exact .inr<|(EQ a.2).2 h⟩
def UU(i:Nat)(f:Func):Func:=if i=160 then vC f else vB i f
noncomputable def Tryo.funcs:Zc:=Tryz.prog.funcs.mapIdx UU
def He(i:Nat):Tryo.funcs[i]?=(Tryz.prog.funcs[i]?).map (UU i):=by
 unfold Tryo.funcs;simp
def OC(h:i≠160):Tryo.funcs[i]?=funcs[i]?:=by
 rw[He,vP];cases Tryz.prog.funcs[i]?with
 |none=>rfl
 |some f=>simp only[js,UU,h,if_false]
def OU:Tryo.funcs[160]?=bO (vC Tryz.f160):=by
 rw[He,Tryz.func160];rfl
def OZ:funcs[160]?=bO Tryz.f160:=by
 rw[vP,Tryz.func160];rfl
def Fk(f:Func):(vC f).name=f.name:=rfl
def xn1(f:Func):(vC f).results=f.results:=rfl
def F3(f:Func):(vC f).body=bO (.refuse ""):=rfl
def xxf(X:ZP):Fit (wf bM Tryo.funcs) funcs X where
 each f:=by
  rw[yG];by_cases h:f=160;subst h;exact .inr<|.inr ⟨_,_,OU,OZ,Fk _,by rw[F3];rfl,by rw[Odd160.body160];rfl⟩;exact .inl (OC h).symm
 res f:=by
  rw[yG];by_cases h:f=160;subst h;rw[OU,OZ];simp only[js,xn1];rw[OC h]
 name:=WB
 next:=WE
 ext f fn h hb e he a:=WT f fn h hb e he a
def xrz(b:Ys (wf bM Tryo.funcs) funcs f):f≠160:=by
 rintro rfl;have h:=b.1;rw[yG,OZ,OU,zp]at h;have a:=congrArg Func.body h;rw[F3,Odd160.body160]at a;cases a
def xrt:pE (wf bM Tryo.funcs) funcs:=fun f a=>⟨(EQ a.2).1,.inr fun b c d e=>by
 rw[Xm];exact(EQ a.2).2 (xrz a) b c d e⟩
def xud(f:FuncId):¬Mc (wf bM Tryo.funcs) f:=by
 rintro⟨j,c,a,d,b⟩;rw[yG]at a;rw[Xm]at b;by_cases h:f=160;subst h;rw[OU]at a;cases a;rw[F3]at d;cases d;cases b;rw[OC h]at a;by_cases i:Ref funcs f;obtain⟨k,s,e,g,_⟩:=i;rw[a]at e;cases e;rw[d]at g;cases g;cases b;rw[(EQ i).2 h j c a d]at b;cases b
def xnd(d:Ys bM funcs f)(i:Mc bM f):f=160:=by
 by_cases h:f=160;exact h;obtain⟨e,c,a,g,b⟩:=i;rw[<-d.1]at a;rw[(EQ d.2).2 h e c a g]at b;cases b
def xxg:zL bM funcs Odd160.I Tryo.funcs where
 enter X f a k w hp hM hk:=by
  obtain rfl:=xnd hp hM;have e:(wf bM funcs).funcs[160]?=bO Tryz.f160:=by rw[yG];exact OZ
  refine⟨⟨rfl,hk,rfl,rfl, ?_⟩,.inr ⟨rfl,0, ?_⟩⟩;simp only[Frame.enter,e,js,jv,Odd160.ntmps160,Array.size_append,Array.size_replicate];omega;show(Frame.enter (wf bM funcs) 160 a k).todo=_;simp only[Frame.enter,e,Option.bind_some,Odd160.body160,jv]
 mc X fr w h:=by rw[h.1.fn];exact Odd160.uI
 re X fr w t d h:=⟨h.1,h.2.imp id fun⟨g,n,i⟩=>⟨g,n,Odd160.At.re t d i⟩⟩
 step X fr w hS h:=by
  obtain⟨c,⟨ch,m,r,k,b,l⟩|⟨b,n,j⟩⟩:=h;refine .inr<|.inl ⟨ch,b,c.de,fun p=>?_⟩;unfold Frame.catches;rw[l];cases p.funcs[fr.fn]?<;>rfl
  exact Odd160.wL (Hl X) hS c b j
 fit:=xxf
 codes:=xrt
 plain f hp hM:=⟨by
  rw[yG];by_cases h:f=160;subst h;exact absurd Odd160.uI hM;exact(OC h).symm,hp.2⟩
 zO:=xud
theorem bQ:J0 bM funcs where
 fit:=Hl
 fitq:=xuv
 codes:=xr2
 two:=WU
 ro:=by kernel_rfl
 odd:=⟨_,_,xxg⟩
def kZ:gN bM<|U8 3:=xqw<|Fx<|by decide
def VW(f:Func):Bool:=match f.body with
 |some (.refuse _)=>bK
 |_=>bL
theorem bZ{f:Func}(h:kJ i=bK)(b:Tryz.prog.funcs[i]?=bO f)(hw:VW f=bL):Ys bM funcs i:=by
 refine⟨?_, ?_⟩;rw[vP,b];simp only[js,vB,h,xu,if_false];rintro⟨d,s,a,c,_⟩;rw[vP,b]at a;simp only[js,vB,h,xu,if_false,zp]at a;subst a;unfold VW at hw;rw[c]at hw;cases hw
def xO{f:Func}(h:kJ i=bK)(g:i≠160)(d:Tryz.prog.funcs[i]?=bO f):¬Mc bM i:=by
 rintro⟨j,c,a,e,b⟩;rw[d]at a;cases a;rw[Ay d h g e]at b;cases b
def FZ:Op->Option Operand
 | .move x=>bO x
 | .assign x=>bO x
 |_=>bN
def mZ{rest:List aD}{a:Act}{val:Zv}(c:¬Mc bM fn)(b:o.guard=bN/\(FZ o.op).map a.eval=bO val)(h:Jc bM fn ops Q rest (a.put o.dst val) w):Jc bM fn ops Q (o::rest) a w:=by
 obtain⟨d,p,j,i,f,g⟩:=o;obtain⟨rfl,b⟩:=b;refine Jc.value bQ c rfl (fun t e=>⟨t,e, ?_⟩) h;cases p<;>simp[FZ]at b<;>subst b<;>simp[bG,go_sem]
def gG{a:Act}{x y:Code}(b:¬Mc bM fn)(c:kT Q)(h:∀(w0:Zy) (Po:Exit->Act->Zy->Prop),kE w w0->RowKit.Hid (∀a' w',Xn bM fn y Q a' w'->Po .normal a' w')->RowKit.Hid (∀e a' w',e≠ .normal->Q e a' w'->Po e a' w')->x.wp prog Po a w0)(hy:hot [.code y]:=by exact trivial):Xn bM fn (.seq x y) Q a w:=Xn.go' bQ kZ b c hy h
def mY{a:Act}{x:Code}(b:¬Mc bM fn)(c:kT Q)(h:∀(w0:Zy) (Po:Exit->Act->Zy->Prop),kE w w0->RowKit.Hid (∀e a' w',Q e a' w'->Po e a' w')->x.wp prog Po a w0):Xn bM fn x Q a w:=Xn.last' bQ kZ b c h
end
end A
namespace P
open Go.RowKit
variable [pn:A.Pn]
section
variable {tv:Value} {b D M n cp clock:Nat} {k:Lk} {L:KV} {w:World} {es:Array aK} {rm nx:Value}
def rV(es:Array aK)(i:Nat):Zl:=(A.cB (i:Int) es.toList).data.toList
def xol(i:Nat):st (rV es i)=A.cB (i:Int) es.toList:=by simp[st,rV]
def Bg(es:Array aK):∀(k n r:Nat),r<k->(A.dY es (n:Int) k)[r]?=bO (A.pX ((n+r:Nat):Int)<|st<|rV es<|n+r)
 |0,n,r,h=>absurd h<|Wd _
 |k+1,n,0,h=>by simp[A.dY,xol]
 |k+1,n,r+1,h=>by
  have:=Bg es k (n+1) r (by omega);simp only[A.dY,Xb];rw[show((n:Int)+1)=((n+1:Nat):Int) by omega,this,show n+1+r=n+(r+1) by omega]
def inv(b D M n:Nat)(k:Lk)(L:KV)(es:Array aK)(w:Zy)(r:Nat)(w1:Zy):Prop:=
 ∃c k' L',(c=7\/c=8)/\dJ (rV es) n k L r=bO (k',L')/\xb (fun x=>x=b\/x=k.mp) (A.wF (py:=⟨132⟩) w D M c) w1/\Xa w1 b k'/\Xd w1 k.mp L'
def bad(tv:Zv)(b D M n cp:Nat)(k:Lk)(L:KV)(es:Array aK)(w:Zy)(ch:List PanicEntry)(w1:Zy):Prop:=
 ∃c,(c=7\/c=8)/\ch=[{v:=tv,recovered:=bK}]/\dJ (rV es) n k L cp=bN/\xb (fun x=>x=b\/x=k.mp) (A.wF (py:=⟨132⟩) w D M c) w1
def Tx{c:Nat}{w1:Zy}(f:w.heap[D]?=bO (.cells #[rm,.map<|bO M,nx] 132))(g:w.heap[M]?=bO (.map es clock))(h:xb (fun x=>x=b\/x=k.mp) (A.wF (py:=⟨132⟩) w D M c) w1):
  xb (fun x=>x=b\/x=k.mp) w (A.iI w1 D M (.cells #[rm,.map<|bO M,nx] 132)<|.map es clock):=by
 have i:D<w.heap.size:=(za.1 f).1;have j:M<w.heap.size:=(za.1 g).1;have e:=h.size;rw[A.fE (py:=⟨132⟩)]at e;refine⟨h.os,h.output, ?_,fun x m l=>?_⟩;simp only[A.iI,Xf];omega;simp only[A.iI];by_cases d:x=M;subst d;rw[zx<|by simp;omega,g];rw[zd<|Ne.symm d];by_cases a:x=D;subst a;rw[zx<|by omega,f];rw[zd<|Ne.symm a,h.block x (by rw[A.fE (py:=⟨132⟩)];omega) l,A.iP (py:=⟨132⟩) w m a d]
def Ty{w1:Zy}{x:Nat}{oD oM:Obj}(a:x≠D)(b:x≠M):(A.iI w1 D M oD oM).heap[x]?=w1.heap[x]?:=by
 simp only[A.iI];rw[zd<|Ne.symm b,zd<|Ne.symm a]
def Ph{x:Int}(a:-9223372036854775808<=x)(b:x<9223372036854775808):IntKind.i64.wrap x=x:=by
 have:=a
 first
 |exact IntKind.wrap_of_inRange<|by simp[IntKind.inRange];omega
 |(rw[xn];omega)
 |(simp[IntKind.wrap];omega)
def tM(hk:k.ok)(H:Xa w b k)(hs:Xd w k.mp L)(hT:dF w)(hG:Wh tv w)
  (U:w.heap[D]?=bO (.cells #[rm,.map<|bO M,nx] 132))(W:w.heap[M]?=bO (.map es clock))(bg:∀e∈es.toList,A.eZ e)
  (Z:b≠1)(ba:b≠4)(hm1:k.mp≠1)(bl:k.mp≠4)(bk:b≠k.mp)(a:∀x,x=1\/x=4\/x=b\/x=k.mp->x≠D/\x≠M)
  (s:k.base+1=(n:Int))(bd:k.last+1=(n:Int)+cp)(bc:cp<=1000000000)(hn:n<=1000000000000)(B:∀i,(rV es i).length<=100000):
  A.CC bM 106 #[zo b,zo D] w (yL tv b k.mp (dJ (rV es) n k L cp) w):=by
 have bi:1<w.heap.size:=by obtain⟨t,x,_,h⟩:=hG;exact qz h
 have bj:=hT.pos;have bb:b<w.heap.size:=H.lt;have be:=hs.lt;have m:∀c x,(x=1\/x=4\/x=b\/x=k.mp)->x<w.heap.size->(A.wF (py:=⟨132⟩) w D M c).heap[x]?=w.heap[x]?:=fun c x hx hl=>A.iP (py:=⟨132⟩) w hl (a x hx).1 (a x hx).2;refine(A.oP (py:=⟨132⟩) (I:=inv b D M n k L es w) (J:=bad tv b D M n cp k L es w) (fun p=>A.bQ) A.kZ (A.bZ (by decide) Tryz.func172 rfl) ⟨H.cell 11 rfl,H.cell 12 rfl⟩ U W bg ?_ bc ?_ (by omega) (by omega) (by omega) ?_ ?_ ?_ ?_ ?_).mono ?_;rw[Ph (by omega)<|by omega];omega;rw[Ph (by omega)<|by omega];rintro r O t d ⟨c,K,G,j,f,g,q,y⟩;exact⟨c,K,G,j,f,g.re,q,y⟩;rintro ch O t d ⟨c,j,f,g,q⟩;exact⟨c,j,f,g,q.re⟩;rintro ch O ⟨c,j,rfl,_⟩;rfl;intro c j;refine⟨c,k,L,j,rfl,xb.refl _ _, ?_, ?_⟩;exact(m c b (by simp) bb).trans H;obtain⟨o,Q,f,g⟩:=hs;exact⟨o,Q,(m c k.mp (by simp) be).trans f,g⟩;intro r hr;rw[A.eX]at hr;refine⟨((n+r:Nat):Int),st _,by rw[s];exact Bg es cp n r hr, ?_⟩;rintro w1 ⟨c,K,G,j,f,g,q,y⟩ t d;obtain⟨bh,F,_⟩:=ZK hk r f;have Y:xb (fun x=>x=b\/x=k.mp) w1<|A.re (w1.alloc<|A.oU ((n+r:Nat):Int)<|st<|rV es<|n+r) t d:=by
  have l:xb (fun x=>x=b\/x=k.mp) w1<|w1.alloc<|A.oU ((n+r:Nat):Int)<|st<|rV es<|n+r:=xb.alloc _;exact⟨l.os,l.output,l.size,l.block⟩
 have C:xb (fun _=>False) w1<|A.re (w1.alloc<|A.oU ((n+r:Nat):Int)<|st<|rV es<|n+r) t d:=by
  have l:xb (fun _=>False) w1<|w1.alloc<|A.oU ((n+r:Nat):Int)<|st<|rV es<|n+r:=xb.alloc _;exact⟨l.os,l.output,l.size,l.block⟩
 have z:=g.trans Y;have bf:=z.size;rw[A.fE (py:=⟨132⟩)]at bf;have X:dF<|A.wF (py:=⟨132⟩) w D M c:=fun i hi=>by
  have:=hT i hi;simp only[World.cell?]at this⊢;rw[m c 4 (by simp) bj];exact this
 have V:Wh tv<|A.wF (py:=⟨132⟩) w D M c:=by
  obtain⟨t',x,R,h⟩:=hG;refine⟨t',x,R, ?_⟩;simp only[World.cell?]at h⊢;rw[m c 1 (by simp) bi];exact h
 have R:¬(1=b\/1=k.mp):=by omega
 have e4:¬(4=b\/4=k.mp):=by omega
 refine(znh b K bh G _ _ (B _) _ (by omega) (by omega) Z ba (by omega) (by omega) (by omega) (q.but C id) (by rw[F];exact y.but C id) (X.but z e4)<|V.but z R).mono ?_;intro e O E;rw[F,<-Rp f]at E;cases hq:dJ (rV es) n k L (r+1)with
 |none=>
  rw[hq]at E;obtain⟨rfl,v⟩:=E;refine⟨c,j,rfl, ?_,z.trans v⟩;have:=Rq hq<|cp-(r+1);rwa[show r+1+(cp-(r+1))=cp by omega]at this
 |some p=>
  obtain⟨k2,L2⟩:=p;rw[hq]at E;obtain⟨rfl,v,S,T⟩:=E;exact⟨c,k2,L2,j,hq,z.trans v,S,T⟩
 rintro e O ⟨w1,rfl,⟨rfl,c,K,G,j,f,g,q,y⟩|⟨ch,rfl,c,j,rfl,f,g⟩⟩;refine zap f (Tx U W g) ?_ ?_;exact(Ty (a b<|by simp).1 (a b<|by simp).2).trans q;obtain⟨o,Q,S,T⟩:=y;exact⟨o,Q,(Ty (a k.mp<|by simp).1 (a k.mp<|by simp).2).trans S,T⟩;exact Xk f<|Tx U W g
end
def Rk:∀{es:List aK} {L:Ym},jB es L->∀e∈es,A.eZ e
 |[],_,_,e,he=>by cases he
 |e0::es,[],h,e,he=>by cases w_ h
 |e0::es,(k,v)::L,h,e,he=>by
  replace h:=EB h;rcases xf.1 he with rfl|a
  exact⟨k,v.2,st v.1,h.1,h.2.1.trans rfl⟩;exact Rk h.2.2 e a
def Nv(n:Int):∀{es:List aK} {L:Ym},jB es L->(A.cB n es).data.toList=qu L n
 |[],_::_,h=>(QR h).elim
 |e0::es,[],h=>by cases w_ h
 |[],[],_=>by simp[A.cB,A.fileAt,A.textOf,qu,J9]
 |e0::es,(k,v)::L,h=>by
  replace h:=EB h;have c:=Nv n h.2.2;have hk:e0.key=zi k:=h.1;have d:e0.val= .agg #[zs v.1,zi v.2]:=h.2.1.trans rfl;by_cases a:n=k;subst a;simp[A.cB,A.fileAt,A.textOf,hk,d,qu,J9,st];have b:¬k=n:=fun e=>a e.symm;simp only[A.cB,A.fileAt,hk,a,if_false]at c⊢;rw[c];simp[qu,J9,a,b]
def tI{tv:Zv}{b D n cp:Nat}{k:Lk}{L:KV}{d:Dk}{w:Zy}(hk:k.ok)(B:Xa w b k)(E:Xd w k.mp L)(z:dF w)(y:Wh tv w)(hd:Xg w D d)
  (j:b≠1)(l:b≠4)(hm1:k.mp≠1)(p:k.mp≠4)(m:b≠k.mp)(g:∀x,x=1\/x=4\/x=b\/x=k.mp->¬d.own D x)
  (a:k.base+1=(n:Int))(c:k.last+1=(n:Int)+cp)(o:cp<=1000000000)(C:n<=1000000000000)(f:∀i,(qu d.L i).length<=100000):
  A.CC bM 106 #[zo b,zo D] w (yL tv b k.mp (dJ (fun i=>qu d.L (i:Int)) n k L cp) w):=by
 obtain⟨t,h,v,q,_⟩:=hd.map;have r:rV t=fun i:Nat=>qu d.L (i:Int):=funext fun i=>Nv _ q;have:=tM hk B E z y (show w.heap[D]?=bO _ from hd.blk) v (Rk q) j l hm1 p m (fun x s=>⟨fun e=>g x s<|.inl e,fun e=>g x s<|.inr<|.inl e⟩) a c o C (fun i=>by rw[r];exact f _);rwa[r]at this
end P
namespace P
open A.Tryq Go.RowKit A
variable [pn:A.Pn]
attribute [local go_sem] xe zv
section
variable {Po:Exit→Act→Zy→Prop} {k:Lk} {w:Zy} {a:Act}
def tC(v0 v3 v4 v5:Zv)(a:Act):Prop:=∃x1 x2 x6 x7 x8 x9 x10 x11 x12 x13 x14 x15 x16 x17 x18 x19 x20 x21 x22 x23 x24 x25 x26 x27 x28 x29 x30 x31 x32 x33 x34 x35 x36 x37 x38 x39 x40 x41 x42 x43,a=⟨#[v0,x1,x2,v3,v4,v5,x6,x7,x8,x9,x10,x11,x12,x13,x14,x15,x16,x17,x18,x19,x20,x21,x22,x23,x24,x25,x26,x27,x28,x29,x30,x31,x32,x33,x34,x35,x36,x37,x38,x39,x40,x41,x42,x43],[]⟩
noncomputable def sI:=Qf Tryz.f67.body
noncomputable def Iz:=Qb<|Qb sI
noncomputable def Iq:=Qa Iz
noncomputable def Ka:=Qb Iz
noncomputable def Ir:=Qa Ka
noncomputable def Kb:=Qb Ka
noncomputable def Iu:=Qa Kb
noncomputable def Ke:=Qb Kb
noncomputable def Iw:=Qa Ke
noncomputable def Kg:=Qb Ke
def lI:¬Mc bM 67:=xO (by decide) (by decide) Tryz.func67
def NZ:Mc bM 106:=⟨_,_,Tryz.func106,rfl,by kernel_rfl⟩
def pO:Za:=#[.string ⟨#[]⟩,.int .i64 0,.string ⟨#[]⟩,.int .i64 0,.map bN,.int .i64 0,.string ⟨#[]⟩,.string ⟨#[]⟩,.int .i64 0,.string ⟨#[]⟩,.string ⟨#[]⟩,.int .i64 0,.int .i64 0,.int .i64 0,.int .i64 0,.bool bK,.int .i64 0]
def gO(k:Lk)(ck tk:Zl):Zv:= .agg (k.cells ck tk)
def Pc(k:Lk)(a b:Zl):(((((((((((((((((pO.setIfInBounds 0<|zs k.m).setIfInBounds 1<|zi k.tc).setIfInBounds 2<|zs k.mark).setIfInBounds 3<|zi k.op).setIfInBounds 4<|.map<|bO k.mp).setIfInBounds 5<|zi k.ep).setIfInBounds 6<|zs a).setIfInBounds 7<|zs b).setIfInBounds 8<|zi k.cnt).setIfInBounds 9<|zs k.tag).setIfInBounds 10<|zs k.ahead).setIfInBounds 11<|zi k.base).setIfInBounds 12<|zi k.last).setIfInBounds 13<|zi k.named).setIfInBounds 14<|zi k.dK).setIfInBounds 15<|.bool k.dD).setIfInBounds 16<|zi k.whole)=k.cells a b:=by simp[pO,Lk.cells]
def On{w1:Zy}{r4:Nat}(k:Lk)(b c:Zl)(a:xx w1 r4 pO 122):xx (((((((((((((((((w1.setCell (zq r4 0)<|zs k.m).setCell (zq r4 1)<|zi k.tc).setCell (zq r4 2)<|zs k.mark).setCell (zq r4 3)<|zi k.op).setCell (zq r4 4)<|.map<|bO k.mp).setCell (zq r4 5)<|zi k.ep).setCell (zq r4 6)<|zs b).setCell (zq r4 7)<|zs c).setCell (zq r4 8)<|zi k.cnt).setCell (zq r4 9)<|zs k.tag).setCell (zq r4 10)<|zs k.ahead).setCell (zq r4 11)<|zi k.base).setCell (zq r4 12)<|zi k.last).setCell (zq r4 13)<|zi k.named).setCell (zq r4 14)<|zi k.dK).setCell (zq r4 15)<|.bool k.dD).setCell (zq r4 16)<|zi k.whole) r4 (k.cells b c) 122:=by
 have h:=(((((((((((((((((a.set 0<|zs k.m).set 1<|zi k.tc).set 2<|zs k.mark).set 3<|zi k.op).set 4<|.map<|bO k.mp).set 5<|zi k.ep).set 6<|zs b).set 7<|zs c).set 8<|zi k.cnt).set 9<|zs k.tag).set 10<|zs k.ahead).set 11<|zi k.base).set 12<|zi k.last).set 13<|zi k.named).set 14<|zi k.dK).set 15<|.bool k.dD).set 16<|zi k.whole);rw[Pc]at h;exact h
def Pa{w1:Zy}{r4:Nat}(k:Lk)(a b:Zl):xb (fun x=>x=r4) w1<|((((((((((((((((w1.setCell (zq r4 0)<|zs k.m).setCell (zq r4 1)<|zi k.tc).setCell (zq r4 2)<|zs k.mark).setCell (zq r4 3)<|zi k.op).setCell (zq r4 4)<|.map<|bO k.mp).setCell (zq r4 5)<|zi k.ep).setCell (zq r4 6)<|zs a).setCell (zq r4 7)<|zs b).setCell (zq r4 8)<|zi k.cnt).setCell (zq r4 9)<|zs k.tag).setCell (zq r4 10)<|zs k.ahead).setCell (zq r4 11)<|zi k.base).setCell (zq r4 12)<|zi k.last).setCell (zq r4 13)<|zi k.named).setCell (zq r4 14)<|zi k.dK).setCell (zq r4 15)<|.bool k.dD).setCell (zq r4 16)<|zi k.whole:=((((((((((((((((((xb.refl _ w1).trans<|xb.set _ (zq r4 0) _).trans<|xb.set _ (zq r4 1) _).trans<|xb.set _ (zq r4 2) _).trans<|xb.set _ (zq r4 3) _).trans<|xb.set _ (zq r4 4) _).trans<|xb.set _ (zq r4 5) _).trans<|xb.set _ (zq r4 6) _).trans<|xb.set _ (zq r4 7) _).trans<|xb.set _ (zq r4 8) _).trans<|xb.set _ (zq r4 9) _).trans<|xb.set _ (zq r4 10) _).trans<|xb.set _ (zq r4 11) _).trans<|xb.set _ (zq r4 12) _).trans<|xb.set _ (zq r4 13) _).trans<|xb.set _ (zq r4 14) _).trans<|xb.set _ (zq r4 15) _).trans<|xb.set _ (zq r4 16) _)
def Cp{r4:Nat}{ck tk:Zl}{w2:Zy}(j:xx w2 r4 (k.cells ck tk) 122)(tm:Za)(y:tm[4]?=bO (zo r4))(t:Nat->Question->Nat)(d:Nat):
  (results Tryz.f67 tm).run (wf bM funcs) (re w2 t d)= .ok (.agg<|k.cells ck tk) (re w2 t d):=by
 show(results Tryz.f67 tm).run prog _=_;have a:xx (re w2 t d) r4 (k.cells ck tk) 122:=j;generalize re w2 t d=w3 at*;have l:w3.cell? (zq r4 0)=bO (zs k.m):=a.cell 0 rfl;have n:w3.cell? (zq r4 1)=bO (zi k.tc):=a.cell 1 rfl;have o:w3.cell? (zq r4 2)=bO (zs k.mark):=a.cell 2 rfl;have p:w3.cell? (zq r4 3)=bO (zi k.op):=a.cell 3 rfl;have q:w3.cell? (zq r4 4)=bO (.map<|bO k.mp):=a.cell 4 rfl;have r:w3.cell? (zq r4 5)=bO (zi k.ep):=a.cell 5 rfl;have s:w3.cell? (zq r4 6)=bO (zs ck):=a.cell 6 rfl;have v:w3.cell? (zq r4 7)=bO (zs tk):=a.cell 7 rfl;have w:w3.cell? (zq r4 8)=bO (zi k.cnt):=a.cell 8 rfl;have x:w3.cell? (zq r4 9)=bO (zs k.tag):=a.cell 9 rfl;have b:w3.cell? (zq r4 10)=bO (zs k.ahead):=a.cell 10 rfl;have c:w3.cell? (zq r4 11)=bO (zi k.base):=a.cell 11 rfl;have e:w3.cell? (zq r4 12)=bO (zi k.last):=a.cell 12 rfl;have f:w3.cell? (zq r4 13)=bO (zi k.named):=a.cell 13 rfl;have g:w3.cell? (zq r4 14)=bO (zi k.dK):=a.cell 14 rfl;have h:w3.cell? (zq r4 15)=bO (.bool k.dD):=a.cell 15 rfl;have i:w3.cell? (zq r4 16)=bO (zi k.whole):=a.cell 16 rfl;clear j a;simp[results,Tryz.results67,go_sem,y,l,n,o,p,q,r,s,v,w,x,b,c,e,f,g,h,i];rfl
def PJ{tv v0 v3:Zv}{b r4:Nat}{R:Ending->Zy->Prop}(W:tC v0 v3 (zo r4) (zo b) a)
  (C:Xa w b k)(D:xx w r4 pO 122)(B:Wh tv w)(v:b≠r4)(V:0<=k.tc)(X:k.tc<=1000000000000)
  (o:Hid<|∀e a' w',nJ bM funcs Tryz.f67 R e a' w'->Po e a' w')
  (p:Hid<|∀w',sS k->xb (fun x=>x=r4) w w'->R (.returned<|gO k (Xz k.m k.ep)<|Jm k.m k.ep) w')
  (s:Hid<|∀w',¬sS k->xb (fun x=>x=r4) w w'->R (eF tv) w'):
  Kg.wp prog Po a w:=by
 obtain⟨x1,x2,x6,x7,x8,x9,Z,ba,bb,bc,bd,be,bf,bg,bh,bi,bj,bk,bl,bm,bn,bo,bp,bq,br,bs,bt,bu,bv,bw,bx,bz,ca,cb,cc,cd,ce,cf,cg,ch,rfl⟩:=W;have r:=zl C;have y:=zl B;have z:=zl D;clear C B D
 conv=>arg 2;whnf
 go_wp2_with fail
 refine(zri b k _ r.o V X y.o).mono ?_;rintro e w1 ⟨g,⟨rfl,h⟩|⟨rfl,h⟩⟩;rotate_left;refine o.o _ _ _ ⟨rfl, ?_⟩;exact s.o _ h.o<|g.mono fun _ x=>x.elim;obtain⟨l,i⟩:∃l,Xz k.m k.ep=l:=⟨_,rfl⟩;obtain⟨n,j⟩:∃n,Jm k.m k.ep=n:=⟨_,rfl⟩;have f:xx w1 b (k.cells l n) 122:=by
  have:=xx.but r.o g id;rw[<-i,<-j];exact this
 rw[i,j]at p;clear i j;have c:=z.o.but g id;have b0:w1.cell? (zq b 0)=bO (zs k.m):=f.cell 0 rfl;have b1:w1.cell? (zq b 1)=bO (zi k.tc):=f.cell 1 rfl;have b2:w1.cell? (zq b 2)=bO (zs k.mark):=f.cell 2 rfl;have b3:w1.cell? (zq b 3)=bO (zi k.op):=f.cell 3 rfl;have b4:w1.cell? (zq b 4)=bO (.map<|bO k.mp):=f.cell 4 rfl;have b5:w1.cell? (zq b 5)=bO (zi k.ep):=f.cell 5 rfl;have b6:w1.cell? (zq b 6)=bO (zs l):=f.cell 6 rfl;have b7:w1.cell? (zq b 7)=bO (zs n):=f.cell 7 rfl;have b8:w1.cell? (zq b 8)=bO (zi k.cnt):=f.cell 8 rfl;have b9:w1.cell? (zq b 9)=bO (zs k.tag):=f.cell 9 rfl;have F:w1.cell? (zq b 10)=bO (zs k.ahead):=f.cell 10 rfl;have G:w1.cell? (zq b 11)=bO (zi k.base):=f.cell 11 rfl;have H:w1.cell? (zq b 12)=bO (zi k.last):=f.cell 12 rfl;have I:w1.cell? (zq b 13)=bO (zi k.named):=f.cell 13 rfl;have J:w1.cell? (zq b 14)=bO (zi k.dK):=f.cell 14 rfl;have K:w1.cell? (zq b 15)=bO (.bool k.dD):=f.cell 15 rfl;have L:w1.cell? (zq b 16)=bO (zi k.whole):=f.cell 16 rfl;have z0:w1.cell? (zq r4 0)=bO (.string ⟨#[]⟩):=c.cell 0 rfl;have f0:=c.bT 0;have z1:w1.cell? (zq r4 1)=bO (zi 0):=c.cell 1 rfl;have f1:=c.bT 1;have z2:w1.cell? (zq r4 2)=bO (.string ⟨#[]⟩):=c.cell 2 rfl;have f2:=c.bT 2;have z3:w1.cell? (zq r4 3)=bO (zi 0):=c.cell 3 rfl;have f3:=c.bT 3;have z4:w1.cell? (zq r4 4)=bO (.map bN):=c.cell 4 rfl;have f4:=c.bT 4;have z5:w1.cell? (zq r4 5)=bO (zi 0):=c.cell 5 rfl;have f5:=c.bT 5;have z6:w1.cell? (zq r4 6)=bO (.string ⟨#[]⟩):=c.cell 6 rfl;have f6:=c.bT 6;have z7:w1.cell? (zq r4 7)=bO (.string ⟨#[]⟩):=c.cell 7 rfl;have f7:=c.bT 7;have z8:w1.cell? (zq r4 8)=bO (zi 0):=c.cell 8 rfl;have f8:=c.bT 8;have z9:w1.cell? (zq r4 9)=bO (.string ⟨#[]⟩):=c.cell 9 rfl;have f9:=c.bT 9;have ci:w1.cell? (zq r4 10)=bO (.string ⟨#[]⟩):=c.cell 10 rfl;have M:=c.bT 10;have cj:w1.cell? (zq r4 11)=bO (zi 0):=c.cell 11 rfl;have N:=c.bT 11;have cl:w1.cell? (zq r4 12)=bO (zi 0):=c.cell 12 rfl;have O:=c.bT 12;have cm:w1.cell? (zq r4 13)=bO (zi 0):=c.cell 13 rfl;have Q:=c.bT 13;have cn:w1.cell? (zq r4 14)=bO (zi 0):=c.cell 14 rfl;have S:=c.bT 14;have co:w1.cell? (zq r4 15)=bO (.bool bK):=c.cell 15 rfl;have T:=c.bT 15;have cp:w1.cell? (zq r4 16)=bO (zi 0):=c.cell 16 rfl;have U:=c.bT 16;have Y:¬r4=b:=fun e=>v e.symm;have E:=zl g;have q:=zl c;clear g f c r y z
 go_wp2_with fail
 exact o.o _ _ _ ⟨rfl,.agg _,fun t d=>⟨t,d,Cp (On k l n q.o) _ rfl t d⟩,p.o _ h.o<|(E.o.mono fun _ x=>x.elim).trans<|Pa k l n⟩
def Xa.last{b:Nat}(h:Xa w b k)(l:Int):Xa (w.setCell (zq b 12)<|zi l) b {k with last:=l}:=by
 have:=xx.set h 12<|zi l;exact this
def xm7{v0 v3 v4:Zv}{b:Nat}(i:tC v0 v3 v4 (zo b) a)(c:Xa w b k)
  (h:Hid (∀a' w',tC v0 v3 v4 (zo b) a'->xb (·=b) w w'->Xa w' b {k with last:=k.base}->Po .normal a' w')):Ir.wp prog Po a w:=by
 obtain⟨W,X,Y,Z,x8,x9,j,l,m,n,o,p,q,r,s,t,v,x,y,z,B,C,D,E,F,G,H,I,J,K,L,M,N,O,Q,R,S,T,U,V,rfl⟩:=i;have e:w.cell? (zq b 11)=bO (zi k.base):=c.cell 11 rfl;have f:w.cell? (zq b 12)=bO (zi k.last):=c.cell 12 rfl;have g:=c.bT 12;have d:=zl<|Xa.last c k.base;clear c
 conv=>arg 2;whnf
 go_wp2_with fail
 exact h.o _ _ ⟨_,_,_,_,_,_,_,_,_,_,_,_,_,_,_,_,_,_,_,_,_,_,_,_,_,_,_,_,_,_,_,_,_,_,_,_,_,_,_,_,rfl⟩ (xb.set w (zq b 12) _) d.o
def TJ(b:Nat)(w:Zy):Nat:=(9999-intOf ((w.cell?<|zq b 12).getD bJ)).toNat
def Qj{b:Nat}(h:Xa w b k):TJ b w=(9999-k.last).toNat:=by
 unfold TJ;rw[h.cell 12 rfl];rfl
def PH{v3 v4:Zv}{b D n:Nat}{d:Dk}(O:tC (zo D) v3 v4 (zo b) a)(B:Xa w b k)(hd:Xg w D d)(m:¬d.own D b)(E:k.last=(n:Int))(Q:n<=1000000000000)
  (z:Hid (∀a' w',tC (zo D) v3 v4 (zo b) a'->xb (·=b) w w'->Xa w' b {k with last:=(Jl d.L n:Int)}->Po .normal a' w')):Iu.wp prog Po a w:=by
 obtain⟨x1,x2,x6,x7,x8,x9,S,T,U,V,W,X,Y,Z,ba,bb,bc,bd,be,bf,bg,bh,bi,bj,bk,bl,bm,bn,bo,bp,bq,br,bs,bt,bu,bv,bw,bx,bz,b0,rfl⟩:=O;have I:=zl B;have J:=zl hd;have q:=zl m;have K:=zl E;clear B hd m E
 conv=>arg 2;whnf
 go_wp2_with fail
 go_loopw [39] (fun _ wr=>∃i:Nat,i<=1000000000000/\Jl d.L n=Jl d.L i/\xb (·=b) w wr/\Xa wr b {k with last:=(i:Int)}) (fun _ wr=>TJ b wr)
 case atStart=>
  refine⟨n,Q,rfl,xb.refl _ _, ?_⟩;have e:({k with last:=(n:Int)}:Lk)=k:=by rw[<-K.o]
  rw[e];exact I.o
 case round=>
  obtain⟨i,hi,C,f,c⟩:=hrel;have r:=zl C;have p:=zl f;have s:=zl c;have H:Hid<|TJ b wr=(9999-(i:Int)).toNat:=Qj c;have G:=zl (J.o.but f fun x o e=>q.o<|by have e:x=b:=e;rw[<-e];exact o);have M:wr.cell? (zq b 12)=bO (zi i):=c.cell 12 rfl;have N:=c.bT 12;clear C f c;have hw:IntKind.i64.wrap ((i:Int)+1)=((i+1:Nat):Int):=by rw[xn];omega
  by_cases y:i<9999
  ·have R:(i:Int)<9999:=by omega
   go_wp2_with fail
   refine(AV D d _ _ G.o).mono ?_;rintro e w1 ⟨rfl,rfl⟩;obtain⟨x,o⟩:∃x,qu d.L ((i:Int)+1)=x:=⟨_,rfl⟩;rw[o];have j:=zl o;clear o;by_cases l:x=[]
   ·have g:=zl (r.o.trans<|ZJ fun h=>h.2<|(j.o).trans l)
    have t:=xo [];subst l
    go_wp2_with fail
    refine z.o _ _ ⟨_,_,_,_,_,_,_,_,_,_,_,_,_,_,_,_,_,_,_,_,_,_,_,_,_,_,_,_,_,_,_,_,_,_,_,_,_,_,_,_,rfl⟩ p.o ?_;rw[g.o];exact s.o
   have g:=zl<|r.o.trans<|Rn y fun h=>l<|j.o.symm.trans h;have t:(st x).toList.isEmpty=bK:=by rw[xo];simpa using l
   clear l
   go_wp2_with fail
   have v:Hid<|Xa (w1.setCell (zq b 12)<|zi<|(i:Int)+1) b {k with last:=((i+1:Nat):Int)}:=Xa.last s.o<|(i:Int)+1;have F:=zl<|p.o.trans<|xb.set w1 (zq b 12)<|zi<|(i:Int)+1
   go_roundw
   case rel=>exact⟨i+1,by omega,g.o,F.o,v.o⟩
   case measure=>rw[Qj v.o,H.o];simp;omega
  have R:¬(i:Int)<9999:=by omega
  have g:=zl<|r.o.trans<|ZJ fun h=>y h.1
  go_wp2_with fail
  refine z.o _ _ ⟨_,_,_,_,_,_,_,_,_,_,_,_,_,_,_,_,_,_,_,_,_,_,_,_,_,_,_,_,_,_,_,_,_,_,_,_,_,_,_,_,rfl⟩ p.o ?_;rw[g.o];exact s.o
def YZ(l:Zl):Zk (l.take 4)<4294967296:=by
 have h:=LF<|l.take 4;have:(l.take 4).length<=4:=by rw[xt];omega
 have:256^(l.take 4).length<=256^4:=PM (by decide) this;omega
def Ms{F:Ym}(a:qu F 0≠[])(h:¬qJ k.m k.tc (qu F 0)):Wr k F=bN:=by
 unfold Wr;rw[aB a,aB h]
def Mt{F:Ym}(a:qu F 0≠[])(h:qJ k.m k.tc<|qu F 0):Wr k F=(Y6 (iL<|qu F 0) F<|Xz k.m (iL<|qu F 0).ep).map fun L=>(k.begun (iL<|qu F 0) k.mp,L):=by
 unfold Wr;rw[aB a,aA h]
def Pq{F:Ym}(a:qu F 0=[]):Wr k F=bO (k,[]):=by
 unfold Wr;rw[aA a]
def xiv{tv v4:Zv}{b D r3 lo:Nat}{d:Dk}(ha:tC (zo D) (zo r3) v4 (zo b) a)(hb:Xa w b k)(hs:Xd w k.mp [])(hd:Xg w D d)(s:¬d.own D b)(S:4<b)
  (r:xx w r3 #[zs k.m,zi k.tc,zs k.mark,zi k.op] 78)(hG:Wh tv w)(R:dF w)(hm:k.m.length=32)(hl:(qu d.L 0).length<=1000000)(T:lo<=k.mp)(ba:lo<=w.heap.size)(t:k.base=0)
  (hN:Hid (∀a' w' k1 L1,tC (zo D) (zo r3) v4 (zo b) a'->xb (·=b) w w'->Wr {k with mp:=k1.mp} d.L=bO (k1,L1)->Xa w' b k1->Xd w' k1.mp L1->lo<=k1.mp->(∃n:Nat,k1.base=(n:Int)/\n<=4294967296)->Po .normal a' w'))
  (hX:Hid (∀a' w',a'.defers=[]->(∀mp,Wr {k with mp:=mp} d.L=bN)->xb (·=b) w w'->Po (.panic [{v:=tv,recovered:=bK}]) a' w')):Iq.wp prog Po a w:=by
 obtain⟨x1,x2,x6,x7,x8,x9,bb,bc,bd,be,bf,bg,bh,bi,bj,bk,bl,bm,bn,bo,bp,bq,br,bs,bt,bu,bv,bw,bx,bz,b0,b1,b2,b3,b4,b5,b6,b7,b8,b9,rfl⟩:=ha;have HB:=zl hb;have HS:=zl hs;have HD:=zl hd;have H:=zl s;have HG:=zl hG;have HT:=zl R;have HM:=zl hm;have I:=zl t;have c0:w.cell? (zq r3 0)=bO (zs k.m):=r.cell 0 rfl;have c1:w.cell? (zq r3 1)=bO (zi k.tc):=r.cell 1 rfl;have c2:w.cell? (zq r3 2)=bO (zs k.mark):=r.cell 2 rfl;have c3:w.cell? (zq r3 3)=bO (zi k.op):=r.cell 3 rfl;obtain⟨x,E⟩:∃x,qu d.L 0=x:=⟨_,rfl⟩;have g:=zl E;have CB:Hid<|Calls prog 76 #[zo D,zi 0] w fun e w'=>e= .returned (zs x)/\w'=w:=by
  have:=AV D d 0 w hd;rw[E]at this;exact this
 rw[E]at hl;have Q:1<w.heap.size:=by have:=R.pos;omega
 clear hb hs hd s r hG R hm E t
 conv=>arg 2;whnf
 go_wp2_with fail
 refine CB.o.mono ?_;rintro e w1 ⟨rfl,rfl⟩;by_cases j:x=[]
 ·have l:=zl (g.o.trans j)
  have X:=xo [];subst j
  go_wp2_with fail
  refine hN.o _ _ k [] ⟨_,_,_,_,_,_,_,_,_,_,_,_,_,_,_,_,_,_,_,_,_,_,_,_,_,_,_,_,_,_,_,_,_,_,_,_,_,_,_,_,rfl⟩ (xb.refl _ _) (Pq l.o) HB.o HS.o T ⟨0,I.o,by omega⟩
 have l:Hid<|qu d.L 0≠[]:=fun h=>j<|g.o.symm.trans h;have X:(st x).toList.isEmpty=bK:=by rw[xo];simpa using j
 clear j
 go_wp2_with fail
 refine(zra k.m _ k.tc k.op x HM.o hl _ Q HT.o HG.o).mono ?_;rintro e F ⟨f,⟨rfl,z⟩|⟨rfl,Y⟩⟩
 ·have M:Hid<|qJ k.m k.tc<|qu d.L 0:=by show qJ _ _ _;rw[g.o];exact z
  have O:=zl f;have B2:Hid<|Xa F b k:=xx.but HB.o f id;have D2:=zl<|HD.o.but f fun _ _=>id;have G2:=zl<|HG.o.but f id;have T2:=zl<|HT.o.but f id;obtain⟨c,i⟩:∃c,iL x=c:=⟨_,rfl⟩;have K:Hid<|iL (qu d.L 0)=c:=by show _=_;rw[g.o];exact i
  have U:c.len<=100000000000:=by
   have:=YZ<|rM x;rw[<-i];show Zk _<=_;omega
  have J:Hid<|c.base<=4294967296:=by
   have:=YZ<|rQ x;show c.base<=_;rw[<-i];show Zk _<=_;omega
  rw[i];clear f z i;obtain⟨Z,p⟩:∃Z,c.V=Z:=⟨_,rfl⟩;have G:Hid<|Calls prog 104 #[zo b,Z,zo D] F<|vD tv b k c (Y6 c d.L<|Xz k.m c.ep) F:=by
   have:=B7 b k c D d HM.o U F B2.o D2.o H.o S G2.o T2.o;rw[p]at this;exact this
  rw[p];clear p
  go_wp2_with fail
  refine G.o.mono ?_;rintro e w3 ⟨o,C⟩;have q:Hid<|∀mp,Wr {k with mp:=mp} d.L=(Y6 c d.L<|Xz k.m c.ep).map fun L=>(k.begun c mp,L):=fun mp=>by
   have:=Mt (k:={k with mp:=mp}) l.o M.o;rw[K.o]at this;exact this
  cases hq:Y6 c d.L (Xz k.m c.ep)with
  |none=>
   rw[hq]at C;subst C;exact hX.o _ _ rfl (fun mp=>by rw[q.o,hq];rfl)<|(O.o.mono fun _ x=>x.elim).trans o
  |some L1=>
   rw[hq]at C;obtain⟨rfl,mp,W,B,y⟩:=C;have HF:Hid<|∀a',tC (zo D) (zo r3) v4 (zo b) a'->Po .normal a' w3:=fun a' h=>hN.o a' w3 _ L1 h ((O.o.mono fun _ x=>x.elim).trans o) (by
    have:=q.o mp;rw[hq]at this;exact this) y B (by have:=O.o.size;show lo<=mp;omega) ⟨c.base,rfl,J.o⟩
   clear y B W o hq
   go_wp2_with fail
   exact HF.o _ ⟨_,_,_,_,_,_,_,_,_,_,_,_,_,_,_,_,_,_,_,_,_,_,_,_,_,_,_,_,_,_,_,_,_,_,_,_,_,_,_,_,rfl⟩
 refine hX.o _ _ rfl (fun mp=>Ms (k:={k with mp:=mp}) l.o ?_)<|f.mono fun _ x=>x.elim;rw[g.o];exact Y
end
end P
namespace A
open Go Go.Conc Go.RowKit
variable [pn:Pn]
section
variable {f:List<|Nat×Zv} {n:Nat} {l:Array Bool}
section
variable {P:Program} {F:Array Func} {dm:Frame} {w w':World} {a:Act} {Q:Exit->Act->World->Prop} {fn:FuncId} {ops:Array aD}
def mem_ready{i:Nat}(h:i∈Region.ready .any ops l):∃o,ops[i]?=bO o/\l[i]?=bO bK/\∀e∈o.after,Region.binds .any e=bL->l[e.on]?=bO bL:=by
 unfold Region.ready at h;obtain⟨k,f⟩:=IC.1 h;simp only[xl,Bool.not_eq_true']at f;obtain⟨c,d⟩:=f;cases ho:ops[i]?with
 |none=>rw[ho]at d;simp at d
 |some o=>
  rw[ho]at d;simp only[js,jv]at d;refine⟨o,rfl, ?_,fun e j g=>?_⟩;rw[Zj]at c;cases hl:l[i]?with
  |none=>rw[hl]at c;cases c
  |some b=>rw[hl]at c;exact congrArg bO c
  have a:=qi.1 d e j;rw[g]at a;simp only[Bool.not_true,Bool.false_or]at a;rw[Zj]at a;cases hl:l[e.on]?with
  |none=>rw[hl]at a;cases a
  |some b=>rw[hl]at a;exact congrArg bO a
def TG(ops:Array aD):Bool:=(List.range ops.size).all fun i=>match ops[i]?with
 |some o=>o.after.all fun e=>decide (e.on<i)
 |none=>bL
def Sa(hd:TG ops=bL)(j:l.size=ops.size)(h:Region.ready .any ops l=[]):∀i,i<ops.size->l[i]?=bO bL:=by
 intro i;induction i using Nat.strongRecOn with
 |_ i ih=>
  intro a;have f:ops[i]?=bO ops[i]:=xg a;have d:l[i]?=bO l[i]:=xg (by omega);cases hb:l[i]with
  |true=>rw[d,hb]
  |false=>
   exfalso;have:i∈Region.ready .any ops l:=by
    unfold Region.ready;refine IC.2 ⟨List.mem_range.2 a, ?_⟩;rw[f];simp only[xl,Bool.not_eq_true',js,jv];refine⟨by rw[Zj,d,hb];rfl,qi.2 fun e g=>?_⟩;have b:e.on<i:=by
     have c:=PY.1 hd i<|List.mem_range.2 a;rw[f]at c;exact Xj<|qi.1 c e g
    rw[Zj,ih _ b<|by omega];simp
   rw[h]at this;cases this
def xA(l:List Bool):Nat:=(l.filter (! ·)).length
def Ro:∀{l:List Bool} {i:Nat},l[i]?=bO bK->xA (l.set i bL)+1=xA l
 |[],i,h=>by cases h
 |b::l,0,h=>by
  cases h;simp[xA]
 |b::l,i+1,h=>by
  have:=Ro (l:=l) h;unfold xA at this⊢;rw[Zz];cases b<;>simp<;>omega
def Oy:∀{l:List Bool} {i:Nat},xA l=0->l[i]?≠bO bK
 |[],i,h,e=>by cases e
 |b::l,0,h,e=>by
  cases e;simp[xA]at h
 |b::l,i+1,h,e=>by
  refine Oy (l:=l) ?_ e;unfold xA at h⊢;cases b<;>simp at h⊢
  exact h
def Xn.inv(K:J0 P F){id:Nat}(x:¬Mc P fn)(y:P.follows .mixedOrders=bL)(c:TG ops=bL)(J:Array Bool->Act->Zy->Prop)(s:J (aW ops.size bK) a w)
  (b:∀l a w,J l a w->(∀i,i<ops.size->l[i]?=bO bL)->Q .normal a w)
  (d:∀l a w i o,J l a w->l.size=ops.size->ops[i]?=bO o->l[i]?=bO bK->(∀e∈o.after,Region.binds .any e=bL->l[e.on]?=bO bL)->oX P fn ops Q i (J<|l.setIfInBounds i bL) a w):Xn P fn (.region id ops bL) Q a w:=by
 have p:∀(m:Nat) (l:Array Bool) (a:Act) (w:Zy),l.size=ops.size->xA l.toList=m->J l a w->UH P fn .any ops Q m l a w:=by
  intro m;induction m with
  |zero=>
   intro l a w f q h;have j:Region.ready .any ops l=[]:=by
    refine List.eq_nil_iff_forall_not_mem.2 fun i n=>?_;obtain⟨o,_,g,_⟩:=mem_ready n;exact Oy q<|by simpa using g
   exact⟨j,b l a w h<|Sa c f j⟩
  |succ m ih=>
   intro l a w f q h;refine⟨fun j=>b l a w h<|Sa c f j,fun i n=>?_⟩;obtain⟨o,t,g,v⟩:=mem_ready n;refine(d l a w i o h f t g v).mono fun r z k=>ih _ r z (by simpa using f) ?_ k;have:=Ro (l:=l.toList) (by simpa using g);rw[Array.toList_setIfInBounds];omega
 refine Xn.any K x y<|p _ _ a w (by simp) ?_ s;simp[xA]
def EH{i j:Nat}(h:(l.setIfInBounds i bL)[j]?=bO bL):j=i\/l[j]?=bO bL:=by
 by_cases e:j=i;exact .inl e;rw[zd fun h=>e h.symm]at h;exact .inr h
end
end
end A
namespace A
open Tryq Go Go.Conc Go.RowKit
variable [pn:Pn]
section
variable {w w':World} {a:Act} {l:Array Bool} {i j:Nat} {p p':Prop}
def UM{f:FuncId}{args:Za}{R:Ending->Zy->Prop}{fn:Func}(g:kJ f=bK)(i:f≠160)(a:Tryz.prog.funcs[f]?=bO fn)(hw:VW fn=bL)(c:∀e w t d,R e (re w t d)->R e w)(b:∀w',¬R .outgrown w')
  (h:∀t d,Calls prog f args (re w t d) R):CC bM f args w R:=CC.jL bQ kZ (bZ g a hw) (xO g i a) ⟨_,a⟩ c b h
def At(a:Act)(t:Nat)(v:Zv):Prop:=a.tmps[t]?=bO v
def At.ev{t:Nat}{v:Zv}(h:At a t v):a.eval (.tmp t)=v:=by
 unfold At at h;simp[Act.eval,h]
def At.put{t s:Nat}{v:Zv}(h:At a t v)(b:t≠s)(u:Zv):At (a.put (bO s) u) t v:=by
 unfold At at h⊢;simp only[Act.put];rw[zd fun e=>b e.symm];exact h
def At.new{t n:Nat}{v:Zv}(b:a.tmps.size=n)(h:t<n):At (a.put (bO t) v) t v:=by
 unfold At;simp[Act.put,b,h]
def AP{s n:Nat}{u:Zv}(h:a.tmps.size=n):(a.put (bO s) u).tmps.size=n:=by simpa[Act.put]using h
def Li(l:Array Bool)(j:Nat)(p:Prop):Prop:=l[j]?=bO bL->p
def Li.none{n:Nat}:Li (aW n bK) j p:=fun h=>by
 rw[Array.getElem?_replicate]at h;split at h<;>cases h
def Li.next(h:Li l j p)(a:j≠i)(k:p->p'):Li (l.setIfInBounds i bL) j p':=fun b=>k<|h<|(EH b).resolve_left a
def Li.now(k:p):Li l i p:=fun _=>k
end
end A
namespace P
open A.Tryq Go.RowKit A
variable [pn:A.Pn]
section
variable {b:Nat}
def GI(cs:Za):Nat->Ze->Za
 |_,[]=>cs
 |o,v::vs=>GI (cs.setIfInBounds o v) (o+1) vs
def Bj:∀(vs:Ze) (cs:Za) (o j:Nat),o+vs.length<=cs.size->(GI cs o vs)[j]?=if o<=j/\j<o+vs.length then vs[j-o]?else cs[j]?
 |[],cs,o,j,h=>by
  rw[aB<|by simp];rfl
 |v::vs,cs,o,j,h=>by
  simp only[zh]at h;rw[GI,Bj vs _ (o+1) j<|by simp;omega];simp only[zh];by_cases a:o+1<=j/\j<o+1+vs.length;rw[aA a,aA<|by omega,show j-o=(j-(o+1))+1 by omega,Xb];rw[aB a];by_cases b:j=o;subst b;rw[aA<|by omega,V9,Xl,zx<|by omega];rw[aB<|by omega,zd fun e=>b e.symm]
def WD(cs cs':Za)(h:cs.size=cs'.size):GI cs 0 cs'.toList=cs':=by
 apply Yc;intro j;rw[Bj _ _ _ _<|by simp;omega];simp only[Vj,true_and,jy,Array.length_toList,Nat.sub_zero,Array.getElem?_toList];split;rfl;rw[ju<|by omega,ju<|by omega]
def xx.setCells{t:Zt}:∀(vs:Ze) {cs:Za} {w:Zy} (o:Nat),xx w b cs t->xx (w.setCells b o vs) b (GI cs o vs) t
 |[],cs,w,o,h=>h
 |v::vs,cs,w,o,h=>by
  have a:=xx.setCells vs (o+1)<|h.set o v;exact a
def xb.setCells:∀(vs:Ze) (w:Zy) (o:Nat),xb (·=b) w (w.setCells b o vs)
 |[],w,o=>xb.refl _ _
 |v::vs,w,o=>(xb.set w (zq b o) v).trans<|xb.setCells vs _<|o+1
def xx.load{w:Zy}{cs:Za}{t ty:Zt}{d:TypeDesc}(h:xx w b cs t)(c:prog.underlying ty=bO d)(hd:d.isRow=bL)(a:(prog.info? ty).map (·.size)=bO cs.size):(loadVar ty<|zq b 0).run prog w= .ok (.agg cs) w:=by
 have:=run_loadVar_mid w b 0 ty cs.toList d (fun j v e=>by rw[jy];exact h.cell j<|by simpa using e) c hd (by simpa using a);simpa using this
def xx.store{w:Zy}{cs cs':Za}{t ty:Zt}(h:xx w b cs t)(i:cs.size=cs'.size)(g:(prog.info? ty).map (·.size)=bO cs'.size)(f:cs'.all (·.oneCell')=bL):
  ∃w',(storeVar ty (zq b 0)<|.agg cs').run prog w= .ok () w'/\xx w' b cs' t/\xb (·=b) w w'/\∀t d,(storeVar ty (zq b 0)<|.agg cs').run prog (re w t d)= .ok () (re w' t d):=by
 have c:∀w,xx w b cs t->(storeVar ty (zq b 0)<|.agg cs').run prog w= .ok () (w.setCells b 0 cs'.toList):=fun w h=>run_storeVar_mid w b 0 ty cs' (fun j k=>by
  rw[jy];refine⟨?_,h.bT j⟩;rw[h.cell j (v:=cs[j]'(by omega))<|xg<|by omega];rfl) g f
 have e:∀(a:Ze) (w:Zy) (o:Nat) (t:Nat->Question->Nat) (d:Nat),(re w t d).setCells b o a=re (w.setCells b o a) t d:=by
  intro a;induction a with
  |nil=>intro w o t d;rfl
  |cons v a ih=>
   intro w o t d;show((re w t d).setCell (zq b o) v).setCells b (o+1) a=re ((w.setCell (zq b o) v).setCells b (o+1) a) t d;rw[<-ih]
   congr 1
 refine⟨_,c w h, ?_,xb.setCells _ _ _,fun t d=>?_⟩;have:=xx.setCells cs'.toList 0 h;rwa[WD _ _ i]at this;rw[c (re w t d) h,e]
end
end P
namespace P
open A.Tryq Go.RowKit A
variable [pn:A.Pn]
attribute [local go_sem] xe zv
section
variable {w w':Zy} {l:Array Bool} {T:List<|Nat×Nat×Zv} {b:Nat}
noncomputable def qG:Array aD:=match sI with
 | .seq _ (.seq (.region _ ops _) _)=>ops
 |_=>#[]
def ZN:qG.size=8:=by kernel_rfl
def mixed:Tryz.prog.follows .mixedOrders=bL:=by kernel_rfl
def xup:TG qG=bL:=by kernel_rfl
def iV(m mark:Zl)(tc op:Int):Za:=#[.string<|st m,.int .i64 tc,.string<|st mark,.int .i64 op]
def Mk{ρ:Operand->Zv}{o:aD}{ty:Zt}{x:Operand}{w:Zy}{cs:Za}{t:Zt}{d:TypeDesc}(ho:o.op= .load ty x)(hx:ρ x=zo b)(h:xx w b cs t)(c:prog.underlying ty=bO d)(hd:d.isRow=bL)(a:(prog.info? ty).map (·.size)=bO cs.size):
  (bG ρ o).run prog w= .ok (.value<|.agg cs) w:=by
 unfold bG;simp only[ho,hx,Instr.loadAt,Instr.sureAddr,Sem.run_bind,DT,Result.andThen_ok,h.load c hd a]
def Lp{ρ:Operand->Zv}{o:aD}{ty:Zt}{x y:Operand}{cs':Za}(ho:o.op= .store ty x y)(hx:ρ x=zo b)(hy:ρ y= .agg cs')(h:(storeVar ty (zq b 0)<|.agg cs').run prog w= .ok () w'):
  (bG ρ o).run prog w= .ok .skip w':=by
 unfold bG;simp only[ho,hx,hy,Instr.storeAt,Instr.sureAddr,Sem.run_bind,DT,Result.andThen_ok,h]
def Ap:∃d,prog.underlying 78=bO d/\d.isRow=bL:=⟨_,(cK 78).trans Tryz.underlying78,rfl⟩
def Gr:(prog.info? 122).map (·.size)=bO 17:=by kernel_rfl
def i78:(prog.info? 78).map (·.size)=bO 4:=by kernel_rfl
def Tb(T:List<|Nat×Nat×Zv)(l:Array Bool)(a:Act):Prop:=∀x∈T,Li l x.1<|At a x.2.1 x.2.2
def Tb.put{a:Act}(h:Tb T l a){n i s:Nat}{v:Zv}(f:a.tmps.size=n)(d:s<n)(c:∀x∈T,(x.2.1≠s/\x.1≠i)\/x=(i,s,v)):Tb T (l.setIfInBounds i bL)<|a.put (bO s) v:=fun x b=>(c x b).elim (fun e=>(h x b).next e.2 fun y=>y.put e.1 _) fun e=>by subst e;exact .now<|.new f d
def Tb.skip{a:Act}(h:Tb T l a){i:Nat}(c:∀x∈T,x.1≠i):Tb T (l.setIfInBounds i bL) a:=fun x b=>(h x b).next (c x b) id
def Tb.none{n:Nat}{a:Act}:Tb T (aW n bK) a:=fun _ _=> .none
structure qV(w:Zy)(v0:Zv)(r3:Nat)(v4:Zv)(m mark:Zl)(tc op:Int)(mp b:Nat)(l:Array Bool)(a:Act)(w':Zy):Prop where
 df:a.defers=[]
 sz:a.tmps.size=44
 nw:Nw w w'
 s0:At a 0 v0
 s3:At a 3<|zo r3
 s4:At a 4 v4
 T:Tb [(0,7,.agg<|iV m mark tc op),(2,9,.agg<|iV m mark tc op),(3,10,.agg #[zs<|Xz m 0,zs<|Jm m 0]),(4,11,zs oV)] l a
 l1:Li l 1<|At a 8 (.map<|bO mp)/\w.heap.size<=mp/\Xd w' mp []
 l5:Li l 5<|l[1]?=bO bL/\At a 12 (.agg<|(Jp m mark tc op mp).cells (Xz m 0)<|Jm m 0)
 l6:Li l 6<|At a 5 (zo b)/\w.heap.size<=b/\(l[7]?=bO bK->xx w' b pO 122)
 l7:Li l 7<|(l[1]?=bO bL/\l[6]?=bO bL)/\Xa w' b (Jp m mark tc op mp)
def JM{i j:Nat}(h:(l.setIfInBounds i bL)[j]?=bO bK)(a:i≠j):l[j]?=bO bK:=by
 rwa[zd a]at h
def Vo{i j:Nat}(h:l[j]?=bO bL):(l.setIfInBounds i bL)[j]?=bO bL:=by
 by_cases e:i=j;subst e;rw[zx (za.1 h).1];rw[zd e];exact h
def xx.nw{cs:Za}{t:Zt}(h:xx w b cs t)(k:Nw w w'):xx w' b cs t:=h.but k id
def Xd.nw{L:KV}(h:Xd w b L)(k:Nw w w'):Xd w' b L:=h.but k id
def Xa.nw{k:Lk}(h:Xa w b k)(a:Nw w w'):Xa w' b k:=xx.but h a id
def Nw.alloc(w:Zy)(o:Obj):Nw w<|w.alloc o:=xb.alloc _
def Nw.gL(h:Nw w w')(t:Nat->Question->Nat)(d:Nat):Nw w<|re w' t d:=⟨h.os,h.output,h.size,h.block⟩
def Nw.of_below{t:Nat->Question->Nat}{d:Nat}(h:Below (A.re w t d).heap.size (A.re w t d) w'):Nw w w':=⟨h.os,h.output,h.size,fun k hk _=>h.block k hk⟩
def dF.nw(h:dF w)(k:Nw w w'):dF w':=h.but k id
def Wh.nw{tv:Zv}(h:Wh tv w)(k:Nw w w'):Wh tv w':=h.but k id
def cT{i n:Nat}(b:l.size=n)(a:i<n):(l.setIfInBounds i bL)[i]?=bO bL:=by
 rw[zx<|by omega]
section
variable {w:World} {v0 v4:Value} {r3:Nat} {m mark:List UInt8} {tc op:Int} {mp b:Nat} {l:Array Bool} {a:Act} {w1:World} {Q:Exit->Act->World->Prop}
def xS(w:Zy)(v0:Zv)(r3:Nat)(v4:Zv)(m mark:Zl)(tc op:Int)(l:Array Bool)(a:Act)(w1:Zy)(Q:Exit->Act->Zy->Prop)(i:Nat):Prop:=∀o:aD,l.size=qG.size->qG[i]?=bO o->l[i]?=bO bK->(∀e∈o.after,Region.binds .any e=bL->l[e.on]?=bO bL)->oX bM 67 qG Q i (fun a w1=>∃mp b,qV w v0 r3 v4 m mark tc op mp b (l.setIfInBounds i bL) a w1) a w1
def qV.go(J:qV w v0 r3 v4 m mark tc op mp b l a w1){w2:Zy}(d:Nw w1 w2){i s:Nat}{v:Zv}(e:i=0\/i=2\/i=3\/i=4)(f:s=i+7)(c:∀x∈[(0,7,.agg<|iV m mark tc op),(2,9,.agg<|iV m mark tc op),(3,10,.agg #[zs<|Xz m 0,zs<|Jm m 0]),(4,11,zs oV)],(x.2.1≠s/\x.1≠i)\/x=(i,s,v)):∃mp b,qV w v0 r3 v4 m mark tc op mp b (l.setIfInBounds i bL) (a.put (bO s) v) w2:=
 ⟨mp,b,J.df,AP J.sz,J.nw.trans d,J.s0.put (by omega) _,J.s3.put (by omega) _,J.s4.put (by omega) _,J.T.put J.sz (by omega) c,J.l1.next (by omega) fun x=>⟨x.1.put (by omega) _,x.2.1,x.2.2.nw d⟩,J.l5.next (by omega) fun x=>⟨Vo x.1,x.2.put (by omega) _⟩,J.l6.next (by omega) fun x=>⟨x.1.put (by omega) _,x.2.1,fun h=>(x.2.2<|JM h<|by omega).nw d⟩,J.l7.next (by omega) fun x=>⟨⟨Vo x.1.1,Vo x.1.2⟩,Xa.nw x.2 d⟩⟩
def xu7(g:xx w r3 (iV m mark tc op) 78)(J:qV w v0 r3 v4 m mark tc op mp b l a w1):xS w v0 r3 v4 m mark tc op l a w1 Q 0:=fun o k c j hd=>by
 have e:=c;simp[qG,sI,Tryz.f67,Qf]at c;subst c;obtain⟨d,i,h⟩:=Ap;refine oX.value bQ lI e rfl (fun t f=>⟨t,f,Mk rfl J.s3.ev (show xx _ r3 _ 78 from g.nw<|J.nw.gL t f) i h i78⟩)<|J.go (xb.refl _ _) (by simp) rfl<|by simp
def xu9(g:xx w r3 (iV m mark tc op) 78)(J:qV w v0 r3 v4 m mark tc op mp b l a w1):xS w v0 r3 v4 m mark tc op l a w1 Q 2:=fun o k c j hd=>by
 have e:=c;simp[qG,sI,Tryz.f67,Qf]at c;subst c;obtain⟨d,i,h⟩:=Ap;refine oX.value bQ lI e rfl (fun t f=>⟨t,f,Mk rfl J.s3.ev (show xx _ r3 _ 78 from g.nw<|J.nw.gL t f) i h i78⟩)<|J.go (xb.refl _ _) (by simp) rfl<|by simp
def xu8(J:qV w v0 r3 v4 m mark tc op mp b l a w1):xS w v0 r3 v4 m mark tc op l a w1 Q 1:=fun o j c e hd=>by
 have d:=c;simp[qG,sI,Tryz.f67,Qf]at c;subst c;have g:¬l[5]?=bO bL:=fun h=>by have:=(J.l5 h).1;rw[e]at this;cases this
 have i:¬l[7]?=bO bL:=fun h=>by have:=(J.l7 h).1.1;rw[e]at this;cases this
 refine oX.value (val:= .map (bO w1.heap.size)) (w':=w1.alloc<|.map #[] 0) bQ lI d rfl (fun t f=>⟨t,f, ?_⟩) ⟨w1.heap.size,b,⟨J.df,AP J.sz,J.nw.trans<|Nw.alloc _ _,(J.s0.put (by decide) _),(J.s3.put (by decide) _),(J.s4.put (by decide) _),J.T.put J.sz (by decide)<|by simp,.now ⟨.new J.sz<|by decide,J.nw.size,#[],0,jw _ _,rfl,MapKept.stamped_empty 0⟩,fun h=>absurd ((EH h).resolve_left<|by decide) g,J.l6.next (by decide) fun x=>⟨(x.1.put (by decide) _),x.2.1,fun h=>(x.2.2<|JM h<|by decide).nw<|Nw.alloc _ _⟩,fun h=>absurd ((EH h).resolve_left<|by decide) i⟩⟩;rfl
def xva(p:m.length=32)(n:dF w)(J:qV w v0 r3 v4 m mark tc op mp b l a w1):xS w v0 r3 v4 m mark tc op l a w1 Q 3:=fun o s c r hd=>by
 have g:=c;simp[qG,sI,Tryz.f67,Qf]at c;subst c;have k:a.tmps[9]?=bO _:=J.T (2,9,.agg<|iV m mark tc op) (by simp)<|hd ⟨2,.data⟩ (by simp) rfl;refine oX.call (R:=fun e i=>e= .returned (.agg #[zs<|Xz m 0,zs<|Jm m 0])/\Nw w1 i) bQ lI J.df g rfl (f:=103) (args:=#[.agg<|iV m mark tc op,zi 0]) (fun v=>?_) (bZ rfl Tryz.func103 rfl) (UM rfl (by decide) Tryz.func103 rfl (fun e w t d h=>⟨h.1,h.2.re⟩) (fun i h=>by cases h.1) fun t d=>(EO m mark tc op 0 p (re w1 t d)<|n.nw<|J.nw.gL t d).mono fun e i h=>⟨h.1,Nw.of_below h.2⟩) ?_ ?_
 ·show(bG a.eval _).run prog v=_
  simp[bG,go_sem,resolve,k]
 rintro v q ⟨e,j⟩;cases e;exact J.go j (by simp) rfl (by simp);rintro ch q ⟨e,j⟩;cases e
def xvb(J:qV w v0 r3 v4 m mark tc op mp b l a w1):xS w v0 r3 v4 m mark tc op l a w1 Q 4:=fun o p c n hd=>by
 have g:=c;simp[qG,sI,Tryz.f67,Qf]at c;subst c;refine oX.call (R:=fun e i=>e= .returned (zs oV)/\Nw w1 i) bQ lI J.df g rfl (f:=58) (args:=#[]) (fun v=>?_) (bZ rfl Tryz.func58 rfl) (UM rfl (by decide) Tryz.func58 rfl (fun e w t d h=>⟨h.1,h.2.re⟩) (fun i h=>by cases h.1) fun t d=>(aE<|re w1 t d).mono fun e i h=>⟨h.1,Nw.of_below h.2⟩) ?_ ?_
 ·show(bG a.eval _).run prog v=_
  simp[bG,go_sem,resolve]
 rintro v k ⟨e,j⟩;cases e;exact J.go j (by simp) rfl (by simp);rintro ch k ⟨e,j⟩;cases e
def xvc(J:qV w v0 r3 v4 m mark tc op mp b l a w1):xS w v0 r3 v4 m mark tc op l a w1 Q 5:=fun o n e k hd=>by
 have f:=e;simp[qG,sI,Tryz.f67,Qf]at e;subst e;have i:l[1]?=bO bL:=hd ⟨1,.data⟩ (by simp) rfl;have j:a.tmps[7]?=bO _:=J.T (0,7,.agg<|iV m mark tc op) (by simp)<|hd ⟨0,.data⟩ (by simp) rfl;have e8:a.tmps[8]?=bO _:=(J.l1 i).1;have c:a.tmps[10]?=bO _:=J.T (3,10,.agg #[zs<|Xz m 0,zs<|Jm m 0]) (by simp)<|hd ⟨3,.data⟩ (by simp) rfl;have d:a.tmps[11]?=bO _:=J.T (4,11,zs oV) (by simp)<|hd ⟨4,.data⟩ (by simp) rfl;refine oX.value (val:= .agg ((Jp m mark tc op mp).cells (Xz m 0)<|Jm m 0)) (w':=w1) bQ lI f rfl (fun t g=>⟨t,g, ?_⟩) ⟨mp,b,⟨J.df,AP J.sz,J.nw,(J.s0.put (by decide) _),(J.s3.put (by decide) _),(J.s4.put (by decide) _),J.T.put J.sz (by decide)<|by simp,J.l1.next (by decide) fun x=>⟨(x.1.put (by decide) _),x.2.1,x.2.2⟩,.now ⟨Vo i,.new J.sz<|by decide⟩,J.l6.next (by decide) fun x=>⟨(x.1.put (by decide) _),x.2.1,fun h=>x.2.2<|JM h<|by decide⟩,J.l7.next (by decide) fun x=>⟨⟨Vo x.1.1,Vo x.1.2⟩,x.2⟩⟩⟩;show(bG a.eval _).run prog (re w1 t g)=_;simp[bG,go_sem,j,e8,c,d,iV];rfl
def xvd(J:qV w v0 r3 v4 m mark tc op mp b l a w1):xS w v0 r3 v4 m mark tc op l a w1 Q 6:=fun o i c f hd=>by
 have d:=c;simp[qG,sI,Tryz.f67,Qf]at c;subst c;have g:¬l[7]?=bO bL:=fun h=>by have:=(J.l7 h).1.2;rw[f]at this;cases this
 refine oX.value (val:=zo w1.heap.size) (w':=w1.alloc<|.cells pO 122) bQ lI d rfl (fun t e=>⟨t,e, ?_⟩) ⟨mp,w1.heap.size,⟨J.df,AP J.sz,J.nw.trans<|Nw.alloc _ _,(J.s0.put (by decide) _),(J.s3.put (by decide) _),(J.s4.put (by decide) _),J.T.put J.sz (by decide)<|by simp,J.l1.next (by decide) fun x=>⟨(x.1.put (by decide) _),x.2.1,x.2.2.nw<|Nw.alloc _ _⟩,J.l5.next (by decide) fun x=>⟨Vo x.1,(x.2.put (by decide) _)⟩,.now ⟨.new J.sz<|by decide,J.nw.size,fun _=>xx.new _ _ _⟩,fun h=>absurd ((EH h).resolve_left<|by decide) g⟩⟩;show(bG a.eval _).run prog (re w1 t e)=_;simp[bG,go_sem];exact⟨rfl,rfl⟩
def xve(J:qV w v0 r3 v4 m mark tc op mp b l a w1):xS w v0 r3 v4 m mark tc op l a w1 Q 7:=fun o G k F hd=>by
 have n:=k;simp[qG,sI,Tryz.f67,Qf]at k;subst k;have B:=(J.l5<|hd ⟨5,.data⟩ (by simp) rfl).1;have s:l[6]?=bO bL:=hd ⟨6,.data⟩ (by simp) rfl;have g:=(J.l5<|hd ⟨5,.data⟩ (by simp) rfl).2.ev;obtain⟨z,H,f⟩:=J.l6 s;have C:=z.ev;have y:=f F;obtain⟨I,L,E,d,p⟩:=y.store (cs':=(Jp m mark tc op mp).cells (Xz m 0)<|Jm m 0) (ty:=122) rfl Gr (by simp[Lk.cells,Value.oneCell']);have j:∀{mp},Xd w1 mp []->¬mp=b:=fun h e=>by obtain⟨K,c,D⟩:=h.blk;exact y.cZ D e.symm
 have q:Nw w I:=⟨d.os.trans J.nw.os,d.output.trans J.nw.output,xz J.nw.size d.size,fun i v _=>(d.block i (zn v J.nw.size)<|by show¬i=b;omega).trans<|J.nw.block i v id⟩;refine oX.skip bQ lI n rfl (fun t r=>⟨t,r,Lp rfl C g<|p t r⟩) ⟨mp,b,⟨J.df,J.sz,q,J.s0,J.s3,J.s4,J.T.skip<|by simp,J.l1.next (by decide) fun x=>⟨x.1,x.2.1,x.2.2.but d<|j x.2.2⟩,J.l5.next (by decide) fun x=>⟨Vo x.1,x.2⟩,J.l6.next (by decide) fun x=>⟨x.1,x.2.1,fun h=>absurd h<|by rw[cT G<|by rw[ZN];decide];simp⟩,.now ⟨⟨Vo B,Vo s⟩,E⟩⟩⟩
noncomputable def XP:=Qa<|Qb sI
def xo2:XP= .region 1 qG bL:=by kernel_rfl
def xm6(t:m.length=32)(r:dF w)(k:xx w r3 (iV m mark tc op) 78)(g:a.defers=[])(j:a.tmps.size=44)(s0:At a 0 v0)(s3:At a 3<|zo r3)(s4:At a 4 v4)
  (q:∀a' w' mp b,a'.defers=[]->a'.tmps.size=44->At a' 0 v0->At a' 3 (zo r3)->At a' 4 v4->At a' 5 (zo b)->Nw w w'->w.heap.size<=mp->w.heap.size<=b->Xd w' mp []->Xa w' b (Jp m mark tc op mp)->Q .normal a' w'):Xn bM 67 XP Q a w:=by
 rw[xo2];refine Xn.inv bQ lI mixed xup (fun l a w1=>∃mp b,qV w v0 r3 v4 m mark tc op mp b l a w1) ⟨0,0,g,j,xb.refl _ _,s0,s3,s4,.none,.none,.none,.none,.none⟩ ?_ ?_;rintro l a' w' ⟨mp,b,J⟩ f;have c:∀i,i<8->l[i]?=bO bL:=fun i n=>f i (by rw[ZN];exact n);obtain⟨p,s,_⟩:=J.l6 (c 6<|by decide);obtain⟨_,h,d⟩:=J.l1 (c 1<|by decide);exact q a' w' mp b J.df J.sz J.s0 J.s3 J.s4 p J.nw h s d (J.l7<|c 7<|by decide).2;rintro l a' w' i o ⟨mp,b,J⟩ d e c hd;have n:i<8:=by have:=(za.1 e).1;rwa[ZN]at this
 have:i=0\/i=1\/i=2\/i=3\/i=4\/i=5\/i=6\/i=7:=by omega
 rcases this with rfl|rfl|rfl|rfl|rfl|rfl|rfl|rfl;exact xu7 k J o d e c hd;exact xu8 J o d e c hd;exact xu9 k J o d e c hd;exact xva t r J o d e c hd;exact xvb J o d e c hd;exact xvc J o d e c hd;exact xvd J o d e c hd;exact xve J o d e c hd
noncomputable def Iy:=Qa sI
def xm5{Po:Exit->Act->Zy->Prop}(e:Hid<|∀a' w',a'.defers=[]->a'.tmps.size=44->At a' 0 v0->At a' 3 (zo w.heap.size)->At a' 4 (zo<|w.heap.size+1)->Nw w w'->w'.heap.size=w.heap.size+2->xx w' w.heap.size (iV m mark tc op) 78->xx w' (w.heap.size+1) pO 122->Po .normal a' w'):
  Iy.wp prog Po ⟨#[v0,.agg<|iV m mark tc op]++aW (44-2) bJ,[]⟩ w:=by
 have a:=zl<|(xx.new w (iV m mark tc op) 78).alloc<|.cells pO 122;have b:Hid<|xx ((w.alloc<|.cells (iV m mark tc op) 78).alloc<|.cells pO 122) (w.heap.size+1) pO 122:=by
  have:=xx.new (w.alloc<|.cells (iV m mark tc op) 78) pO 122;rw[xh]at this;exact this
 have d:Hid<|Nw w<|(w.alloc<|.cells (iV m mark tc op) 78).alloc<|.cells pO 122:=(Nw.alloc _ _).trans<|Nw.alloc _ _;have c:Hid<|((w.alloc<|.cells (iV m mark tc op) 78).alloc<|.cells pO 122).heap.size=w.heap.size+2:=by show _=_;simp
 simp only[jg,zh,jn,Nat.reduceAdd,Nat.reduceSub,qw,qx,Z7,Zi,jk,jc]
 conv=>arg 2;whnf
 unfold iV at*
 go_wp2_with fail
 exact e.o _ _ rfl rfl rfl rfl rfl d.o c.o a.o b.o
end
end
end P
namespace P
open A.Tryq Go.RowKit A
variable [pn:A.Pn]
def xnz{k k':Lk}{L L':KV}{kind head body tag:Zl}{ep cnt:Nat}(h:jJ k L kind ep cnt head body tag=bO (k',L')):k'.tc=k.tc:=by
 unfold jJ at h;split at h;cases h;split at h;split at h;rw[DW h];cases h;split at h;split at h;rw[DW h];cases h;cases h
def cJ:∀(n:Nat) {k k':Lk} {L L':KV} {l r:Zl},oF n k L l=bO (k',L',r)->k'.tc=k.tc
 |0,k,k',L,L',l,r,h=>by
  simp only[oF,zp,qg]at h;obtain⟨rfl,_⟩:=h;rfl
 |n+1,k,k',L,L',l,r,h=>by
  unfold oF at h;by_cases a:X7 l=bL;rw[aA a]at h;cases hr:lY k L l with
  |none=>rw[hr]at h;cases h
  |some p=>
   obtain⟨c,b⟩:=p;rw[hr]at h;exact(cJ n h).trans<|xnz hr
  rw[aB a]at h;simp only[zp,qg]at h;obtain⟨rfl,_⟩:=h;rfl
def Sl{k k':Lk}{L L':KV}{num:Int}{len whole:Nat}(h:Wq k L num len whole=bO (k',L')):k'.tc=k.tc:=by
 unfold Wq at h;split at h;split at h;simp only[zp,qg]at h;obtain⟨rfl,_⟩:=h;rfl;cases h;simp only[zp,qg]at h;obtain⟨rfl,_⟩:=h;rfl
def xoa{k k':Lk}{L L':KV}{num:Nat}{x:Zl}(h:eP k L num x=bO (k',L')):k'.tc=k.tc:=by
 unfold eP at h;split at h;split at h;cases h;split at h
 rename_i k1 L1 r hr
 exact(Sl h).trans<|cJ _ (show oF _ k L _=bO _ from hr);cases h;exact Sl h
def Cf{fs:Nat->Zl}{n:Nat}{k:Lk}{L:KV}:∀(r:Nat) {k':Lk} {L':KV},dJ fs n k L r=bO (k',L')->k'.tc=k.tc
 |0,k',L',h=>by
  simp only[dJ,zp,qg]at h;obtain⟨rfl,_⟩:=h;rfl
 |r+1,k',L',h=>by
  unfold dJ at h;cases hr:dJ fs n k L r with
  |none=>rw[hr]at h;cases h
  |some p=>
   obtain⟨b,a⟩:=p;rw[hr]at h;exact(xoa h).trans<|Cf r hr
def WF{k k1:Lk}{F:Ym}{L1:KV}(h:Wr k F=bO (k1,L1))(hk:k.ok):k1.ok/\k1.tc=k.tc:=by
 by_cases b:qu F 0=[];rw[Pq b]at h;simp only[zp,qg]at h;rw[<-h.1];exact⟨hk,rfl⟩;by_cases a:qJ k.m k.tc<|qu F 0;rw[Mt b a]at h;obtain⟨L,_,c⟩:=zt.1 h;simp only[qg]at c;rw[<-c.1];refine⟨⟨hk.m, ?_, ?_, ?_⟩,rfl⟩;show(iL<|qu F 0).ep<=255;have:=a.ep;omega;exact YZ _;show((rO<|qu F 0).take 32).length=32;have:=(Ux a.len).2.2.2.2.2.2.2.2.1;rw[xt];omega;rw[Ms b a]at h;cases h
section
variable {k k1 k2:Lk} {F:Ym} {L1 L2:KV} {n:Nat}
def sL(b:Wr k F=bO (k1,L1))(c:k1.base=(n:Int))(a:dJ (fun i=>qu F (i:Int)) (n+1) {k1 with last:=(Jl F n:Int)} L1 (Jl F n-n)=bO (k2,L2))(d:sS k2):Yu k F=bO (k2,L2):=by
 unfold Yu;rw[b];simp only[c,Wt];rw[c]at a;rw[a];simp only;rw[aA d]
def Cl(b:Wr k F=bO (k1,L1))(c:k1.base=(n:Int))(a:dJ (fun i=>qu F (i:Int)) (n+1) {k1 with last:=(Jl F n:Int)} L1 (Jl F n-n)=bO (k2,L2))(d:¬sS k2):Yu k F=bN:=by
 unfold Yu;rw[b];simp only[c,Wt];rw[c]at a;rw[a];simp only;rw[aB d]
def sE(b:Wr k F=bO (k1,L1))(c:k1.base=(n:Int))(a:dJ (fun i=>qu F (i:Int)) (n+1) {k1 with last:=(Jl F n:Int)} L1 (Jl F n-n)=bN):Yu k F=bN:=by
 unfold Yu;rw[b];simp only[c,Wt];rw[c]at a;rw[a]
end
def Pg:oV.length=32:=by simp[oV]
def xqr:Tryz.f67.body=bO (.seq Iy<|.seq XP<|.seq Iq<|.seq Ir<|.seq Iu<|.seq Iw Kg):=by kernel_rfl
def xo3:Iw= .region 8 [⟨bO 40,.move<|.tmp 0,76,"look.go:52",#[],bN⟩,⟨bO 41,.call ⟨.value<|.func 106,#[.tmp 5,.tmp 40],#[122,76]⟩,0,"look.go:52",#[⟨0,.data⟩],bN⟩].toArray bK:=by kernel_rfl
def ji{w w':Zy}(h:kE w w'):Nw w w':=by obtain⟨t,d,rfl⟩:=h;exact Nw.gL (xb.refl _ _) t d
def Ug{w w':Zy}(h:kE w w'):w'.heap.size=w.heap.size:=by obtain⟨t,d,rfl⟩:=h;rfl
def zxk{tv:Zv}{X:Nat->Option (Lk×KV)}{w w':Zy}{e:Ending}{t:Nat->Question->Nat}{d:Nat}:KE tv X w e (re w' t d)↔KE tv X w e w':=by
 constructor;rintro⟨h,c,a,b⟩;exact⟨xb.re h,c,a,b⟩;rintro⟨h,c,a,b⟩;exact⟨Nw.gL h t d,c,a,b⟩
def xmv{a:Act}{v0 v3 v4 v5:Zv}(c:a.defers=[])(b:a.tmps.size=44)(d:At a 0 v0)(e:At a 3 v3)(f:At a 4 v4)(g:At a 5 v5):tC v0 v3 v4 v5 a:=by
 obtain⟨⟨l⟩,U⟩:=a;simp only at c;subst c;simp only[jg]at b;unfold At at d e f g;simp only[q8]at d e f g;obtain _|⟨V,l⟩:=l;simp at b;obtain _|⟨W,l⟩:=l;simp at b;obtain _|⟨X,l⟩:=l;simp at b;obtain _|⟨Y,l⟩:=l;simp at b;obtain _|⟨Z,l⟩:=l;simp at b;obtain _|⟨x5,l⟩:=l;simp at b;obtain _|⟨x6,l⟩:=l;simp at b;obtain _|⟨x7,l⟩:=l;simp at b;obtain _|⟨x8,l⟩:=l;simp at b;obtain _|⟨x9,l⟩:=l;simp at b;obtain _|⟨h,l⟩:=l;simp at b;obtain _|⟨i,l⟩:=l;simp at b;obtain _|⟨j,l⟩:=l;simp at b;obtain _|⟨k,l⟩:=l;simp at b;obtain _|⟨m,l⟩:=l;simp at b;obtain _|⟨n,l⟩:=l;simp at b;obtain _|⟨o,l⟩:=l;simp at b;obtain _|⟨p,l⟩:=l;simp at b;obtain _|⟨q,l⟩:=l;simp at b;obtain _|⟨r,l⟩:=l;simp at b;obtain _|⟨s,l⟩:=l;simp at b;obtain _|⟨t,l⟩:=l;simp at b;obtain _|⟨v,l⟩:=l;simp at b;obtain _|⟨w,l⟩:=l;simp at b;obtain _|⟨x,l⟩:=l;simp at b;obtain _|⟨z,l⟩:=l;simp at b;obtain _|⟨B,l⟩:=l;simp at b;obtain _|⟨C,l⟩:=l;simp at b;obtain _|⟨D,l⟩:=l;simp at b;obtain _|⟨E,l⟩:=l;simp at b;obtain _|⟨F,l⟩:=l;simp at b;obtain _|⟨G,l⟩:=l;simp at b;obtain _|⟨H,l⟩:=l;simp at b;obtain _|⟨I,l⟩:=l;simp at b;obtain _|⟨J,l⟩:=l;simp at b;obtain _|⟨K,l⟩:=l;simp at b;obtain _|⟨L,l⟩:=l;simp at b;obtain _|⟨M,l⟩:=l;simp at b;obtain _|⟨N,l⟩:=l;simp at b;obtain _|⟨O,l⟩:=l;simp at b;obtain _|⟨Q,l⟩:=l;simp at b;obtain _|⟨R,l⟩:=l;simp at b;obtain _|⟨S,l⟩:=l;simp at b;obtain _|⟨T,l⟩:=l;simp at b;obtain _|⟨y,l⟩:=l;rotate_left;simp at b;cases d;cases e;cases f;cases g;exact⟨_,_,_,_,_,_,_,_,_,_,_,_,_,_,_,_,_,_,_,_,_,_,_,_,_,_,_,_,_,_,_,_,_,_,_,_,_,_,_,_,rfl⟩
def zps{tv:Zv}{D:Nat}{d:Dk}{m mark:Zl}{tc op:Int}{w:Zy}(hd:Xg w D d)(bi:∀x,d.own D x->4<x)(hG:Wh tv w)(hT:dF w)(hm:m.length=32)(h0:0<=tc)(hc:tc<=1000000000000)(Q:∀i,(qu d.L i).length<=100000):
  CC bM 67 #[zo D,.agg<|iV m mark tc op] w (KE tv (fun mp=>Yu (Jp m mark tc op mp) d.L) w):=by
 have hQ:kT<|nJ bM funcs Tryz.f67<|KE tv (fun mp=>Yu (Jp m mark tc op mp) d.L) w:=AO fun e w t d=>zxk;have dv:=hT.pos;have bh:∀x,d.own D x->x<w.heap.size:=fun x M=>Dk.bX hd M;refine CC.fA bQ lI (bZ rfl Tryz.func67 rfl).1 Tryz.func67 xqr ?_;rw[show Tryz.f67.ntmps=44 from rfl];refine Xn.go' bQ kZ lI hQ trivial fun w0 Po hE hN hX=>?_;have n0:=ji hE;have z0:=Ug hE;refine xm5 (m:=m) (mark:=mark) (tc:=tc) (op:=op) (v0:=zo D) fun a1 w1 bo MZ ci cj ck n1 z1 b3 b4=>hN.o _ _ ?_;have l:Nw w w1:=n0.trans n1;refine Xn.seq bQ lI trivial (xm6 (w:=w1) hm (hT.nw l) b3 bo MZ ci cj ck fun a2 w2 mp b bp cr cl cm cn co n2 d6 hb cf b9=>?_);have a:Nw w w2:=l.trans n2;have b2:=xmv bp cr cl cm cn co;refine Xn.go' bQ kZ lI hQ trivial fun cs dx s bs bx=>?_;have g:Nw w cs:=a.trans<|ji s;have B:¬d.own D b:=fun h=>by have:=bh _ h;have:=l.size;omega
 refine xiv (lo:=w.heap.size) (k:=Jp m mark tc op mp) b2 (Xa.nw b9<|ji s) (cf.nw<|ji s) (hd.but g fun _ _=>id) B (by have:=l.size;omega) (b3.nw<|n2.trans<|ji s) (hG.nw g) (hT.nw g) hm (by have:=Q 0;omega) (by have:=l.size;show _<=mp;omega) g.size rfl (fun a3 w3 j L1 b5 q E bf bj C ⟨n,I,hn⟩=>bs.o _ _ ?_) fun a3 w3 bq ce q=>bx.o _ _ _ (by simp) ⟨bq, ?_⟩;have r:=WF E ⟨hm,Vj _,by show(0:Nat)<_;omega,Pg⟩;have dt:j.mp=mp\/True:= .inr trivial;have X:b≠j.mp:=fun e=>by obtain⟨es,c,h1⟩:=bj.blk;exact xx.cZ bf h1 e
 have d3:4<b:=by have:=l.size;omega
 have du:4<j.mp:=by omega
 refine Xn.go' bQ kZ lI hQ trivial fun d8 dy S bt d1=>?_;refine xm7 b5 (Xa.nw bf<|ji S) fun a4 w4 b6 bc ca=>bt.o _ _ ?_;refine Xn.go' bQ kZ lI hQ trivial fun d9 dz T bu d2=>?_;have Z:=((((ji s).mono fun _ x=>x.elim).trans q).trans<|((ji S).mono fun _ x=>x.elim).trans bc).trans<|(ji T).mono fun _ x=>x.elim;have bz:=(hd.but a fun _ _=>id).but Z fun x M e=>B (by have e:x=b:=e;rw[<-e];exact M);refine PH (n:=n) b6 (Xa.nw ca<|ji T) bz B I (by omega) fun F w5 bd N cb=>bu.o _ _ ?_;have o:=Z.trans N;have Y:=((((ji S).mono fun _ x=>x.elim).trans bc).trans<|(ji T).mono fun _ x=>x.elim).trans N;have b0:=(hd.but a fun _ _=>id).but o fun x M e=>B (by have e:x=b:=e;rw[<-e];exact M);have bb:=(hG.nw a).but o (by show¬1=b;omega);have bw:=(hT.nw a).but o (by show¬4=b;omega);have bk:=bj.but Y fun e=>X e.symm;have z5:=(b4.nw n2).but o (by show¬_=b;omega);have d4:=PB d.L n;have cd:∀x,Wr (Jp m mark tc op j.mp) d.L=x->x=bO (j,L1):=fun x h=>h.symm.trans E;rw[xo3];refine Xn.seq bQ lI trivial (Xn.dB bQ lI ?_);obtain⟨ba,W,cq,V⟩:F.defers=[]/\F.tmps.size=44/\At F 0 (zo D)/\At F 5 (zo b):=by
  obtain⟨x1,x2,x6,x7,x8,x9,cu,cv,cw,cx,cy,cz,c0,c1,c2,c3,c4,c5,c6,c7,c8,c9,da,db,dc,dd,de,df,dg,dh,di,dj,dk,dl,dm,dn,dp,dq,dr,ds,rfl⟩:=bd;exact⟨rfl,rfl,rfl,rfl⟩
 refine Jc.value (val:=zo D) (w':=w5) bQ lI rfl (fun t d'=>⟨t,d', ?_⟩) ?_
 ·show(bG F.eval _).run prog _=_
  have br:F.tmps[0]?=bO _:=cq;simp[bG,go_sem,br]
 have d7:At (F.put (bO 40)<|zo D) 5<|zo b:=V.put (by decide) _;have dw:At (F.put (bO 40)<|zo D) 40<|zo D:= .new W (by decide);have be:({j with last:=(Jl d.L n:Int)}:Lk).ok:=⟨r.1.m,r.1.ep,r.1.cnt,r.1.tag⟩;have U:=tI (n:=n+1) (cp:=Jl d.L n-n) be cb bk bw bb b0 (by omega) (by omega) (show j.mp≠1 by omega) (show j.mp≠4 by omega) X
  (fun x M h=>by
   have h4:=bi x h;have d5:=bh x h;rcases M with e|e|e|e
   omega;omega;rw[e]at h;exact B h;have e:x=j.mp:=e;omega)
  (by show j.base+1=_;omega) (by show(Jl d.L n:Int)+1=_;omega) (by omega) (by omega) Q
 refine Jc.mP (f:=106) (args:=#[zo b,zo D]) ba rfl (fun v=>?_) (fun v=>?_) NZ U ?_ ?_
 ·simp[bG,go_sem,resolve,W]
  exact(za.1 V).2
 ·have e5:F.tmps[5]?=bO _:=V
  refine Conc.listed_nil ?_;simp[bG,go_sem,resolve,W];simp[callFunc,go_sem,Tryz.func106];intro _ h;cases h
 intro v w6 K;refine Jc.nil bQ lI ?_;cases hlog:dJ (fun i=>qu d.L (i:Int)) (n+1) {j with last:=(Jl d.L n:Int)} L1 (Jl d.L n-n)with
 |none=>rw[hlog]at K;cases K.1
 |some p=>
  obtain⟨k2,L2⟩:=p;rw[hlog]at K;obtain⟨_,z,cc,cg⟩:=K;have b8:=ZK be _ hlog;have bl:=Cf _ hlog;have bg:k2.mp=j.mp:=b8.2.1;refine Xn.last' bQ kZ lI hQ fun ct d0 y bv=>?_;have b7:tC (zo D) (zo w0.heap.size) (zo<|w0.heap.size+1) (zo b)<|(F.put (bO 40)<|zo D).put (bO 41) v:=by
   obtain⟨x1,x2,x6,x7,x8,x9,cu,cv,cw,cx,cy,cz,c0,c1,c2,c3,c4,c5,c6,c7,c8,c9,da,db,dc,dd,de,df,dg,dh,di,dj,dk,dl,dm,dn,dp,dq,dr,ds,rfl⟩:=bd;exact⟨_,_,_,_,_,_,_,_,_,_,_,_,_,_,_,_,_,_,_,_,_,_,_,_,_,_,_,_,_,_,_,_,_,_,_,_,_,_,_,_,rfl⟩
  have bm:∀x,x=b\/x=j.mp->x≠w0.heap.size+1:=fun x M e=>by
   rcases M with rfl|rfl;omega;obtain⟨es,c,h1⟩:=bk.blk;exact z5.cZ h1 e.symm
  have z6:=(z5.but z fun h=>bm _ h rfl).nw<|ji y;have bn:∀w',xb (fun x=>x=w0.heap.size+1) ct w'->Nw w w':=fun w' h=>by
   have G:xb (fun x=>x=b\/x=j.mp\/x=w0.heap.size+1) w2 w':=((o.mono fun _ h=> .inl h).trans<|z.mono fun _ h=>h.elim .inl fun h=> .inr (.inl h)).trans<|((ji y).mono fun _ h=>h.elim).trans<|h.mono fun _ h=> .inr (.inr h);refine⟨G.os.trans a.os,G.output.trans a.output,xz a.size G.size,fun i O _=>(G.block i (zn O a.size) fun h=>?_).trans<|a.block i O id⟩;rcases h with h|h|h<;>omega
  refine PJ (tv:=tv) (R:=KE tv (fun mp=>Yu (Jp m mark tc op mp) d.L) w) b7 (Xa.nw cc<|ji y) z6 ((bb.but z<|by omega).nw<|ji y) (by omega) (by have:=r.2;show 0<=k2.tc;rw[bl];show 0<=j.tc;rw[this];exact h0) (by have:=r.2;show k2.tc<=_;rw[bl];show j.tc<=_;rw[this];exact hc) bv (fun w' he H=>?_) fun w' he H=>?_;refine⟨bn w' H,j.mp,C, ?_⟩;simp only;rw[sL (k:=Jp m mark tc op j.mp) E I hlog he];refine⟨rfl,bg, ?_⟩;refine(Xd.nw cg<|ji y).but H fun e=>bm _ (.inr rfl) e;refine⟨bn w' H,j.mp,C, ?_⟩;simp only;rw[Cl (k:=Jp m mark tc op j.mp) E I hlog he];trivial
 intro ch w6 K;cases hlog:dJ (fun i=>qu d.L (i:Int)) (n+1) {j with last:=(Jl d.L n:Int)} L1 (Jl d.L n-n)with
 |some p=>obtain⟨k2,L2⟩:=p;rw[hlog]at K;cases K.1
 |none=>
  rw[hlog]at K;obtain⟨he,z⟩:=K;cases he;refine⟨ba, ?_,j.mp,C, ?_⟩;have G:xb (fun x=>x=b\/x=j.mp) w2 w6:=(o.mono fun _ h=> .inl h).trans z;refine⟨G.os.trans a.os,G.output.trans a.output,xz a.size G.size,fun i O _=>(G.block i (zn O a.size) fun h=>?_).trans<|a.block i O id⟩;rcases h with h|h<;>omega
  simp only;rw[sE (k:=Jp m mark tc op j.mp) E I hlog];trivial
 refine⟨?_,mp,by have:=l.size;omega, ?_⟩;refine⟨q.os.trans g.os,q.output.trans g.output,xz g.size q.size,fun i O _=>(q.block i (zn O g.size) fun h=>?_).trans<|g.block i O id⟩;have h:=h;have:=l.size;omega;have J:Yu (Jp m mark tc op mp) d.L=bN:=by
  unfold Yu;rw[show Wr (Jp m mark tc op mp) d.L=bN from ce mp]
 simp only;rw[J];trivial
end P
namespace P
open A.Tryq Go.RowKit A
variable [pn:A.Pn]
attribute [local go_sem] xe zv
noncomputable def jU:=Qf Tryz.f36.body
noncomputable def Ip:=Qa jU
noncomputable def pM:=Qa<|Qb jU
noncomputable def Kh:=Qb<|Qb jU
noncomputable def nI:Array aD:=match pM with
 | .region _ ops _=>ops
 |_=>#[]
def xo1:pM= .region 1 nI bL:=by kernel_rfl
def ZM:nI.size=11:=by kernel_rfl
def xuo:TG nI=bL:=by kernel_rfl
def oC:¬Mc bM 36:=xO (by decide) (by decide) Tryz.func36
structure nS(w:Zy)(B:Nat)(v2:Zv)(r:Sr)(mp b:Nat)(k:Lk)(L:KV)(l:Array Bool)(a:Act)(w':Zy):Prop where
 df:a.defers=[]
 sz:a.tmps.size=45
 nw:Nw w w'
 s0:At a 0<|zo B
 s2:At a 2 v2
 T:Tb [(0,4,zo B),(1,5,zo B),(2,6,zk B 2),(3,7,zo r.D),(4,8,zo B),(5,9,zo B),(6,10,zk B 3),(7,11,.agg<|iV r.m r.mark r.cnt r.op)] l a
 l8:Li l 8<|At a 12 (.agg<|k.cells (Xz k.m k.ep)<|Jm k.m k.ep)/\w.heap.size<=mp/\Yu (Jp r.m r.mark r.cnt r.op mp) r.d.L=bO (k,L)/\k.mp=mp/\Xd w' mp L
 l9:Li l 9<|At a 3 (zo b)/\w.heap.size<=b/\(l[10]?=bO bK->xx w' b pO 122)
 l10:Li l 10<|(l[8]?=bO bL/\l[9]?=bO bL)/\Xa w' b k
section
variable {cv tv:Value} {w:World} {B:Nat} {v2:Value} {r:Sr} {mp b:Nat} {k:Lk} {L:KV} {l:Array Bool} {a:Act} {w1:World} {Q:Exit->Act->World->Prop}
def nS.mv(J:nS w B v2 r mp b k L l a w1){i s:Nat}{v:Zv}(d:i<8)(e:s=i+4)(c:∀x∈[(0,4,zo B),(1,5,zo B),(2,6,zk B 2),(3,7,zo r.D),(4,8,zo B),(5,9,zo B),(6,10,zk B 3),(7,11,.agg<|iV r.m r.mark r.cnt r.op)],(x.2.1≠s/\x.1≠i)\/x=(i,s,v)):∃mp b k L,nS w B v2 r mp b k L (l.setIfInBounds i bL) (a.put (bO s) v) w1:=
 ⟨mp,b,k,L,J.df,AP J.sz,J.nw,J.s0.put (by omega) _,J.s2.put (by omega) _,J.T.put J.sz (by omega) c,J.l8.next (by omega) fun x=>⟨x.1.put (by omega) _,x.2⟩,J.l9.next (by omega) fun x=>⟨x.1.put (by omega) _,x.2.1,fun h=>x.2.2<|JM h<|by omega⟩,J.l10.next (by omega) fun x=>⟨⟨Vo x.1.1,Vo x.1.2⟩,x.2⟩⟩
def tQ(w:Zy)(B:Nat)(v2:Zv)(r:Sr)(l:Array Bool)(a:Act)(w1:Zy)(Q:Exit->Act->Zy->Prop)(i:Nat):Prop:=∀o:aD,l.size=nI.size->nI[i]?=bO o->l[i]?=bO bK->(∀e∈o.after,Region.binds .any e=bL->l[e.on]?=bO bL)->oX bM 36 nI Q i (fun a w1=>∃mp b k L,nS w B v2 r mp b k L (l.setIfInBounds i bL) a w1) a w1
def xux(J:nS w B v2 r mp b k L l a w1):tQ w B v2 r l a w1 Q 0:=fun o g c f hd=>by
 have d:=c;simp[nI,pM,jU,Tryz.f36,Qf,Qa,Qb]at c;subst c;have e0:a.tmps[0]?=bO _:=J.s0;refine oX.value (val:=zo B) (w':=w1) bQ oC d rfl (fun t e=>⟨t,e, ?_⟩) (J.mv (by decide) rfl<|by simp);show(bG a.eval _).run prog (re w1 t e)=_;simp[bG,go_sem,e0]
def xu1(J:nS w B v2 r mp b k L l a w1):tQ w B v2 r l a w1 Q 4:=fun o g c f hd=>by
 have d:=c;simp[nI,pM,jU,Tryz.f36,Qf,Qa,Qb]at c;subst c;have e0:a.tmps[0]?=bO _:=J.s0;refine oX.value (val:=zo B) (w':=w1) bQ oC d rfl (fun t e=>⟨t,e, ?_⟩) (J.mv (by decide) rfl<|by simp);show(bG a.eval _).run prog (re w1 t e)=_;simp[bG,go_sem,e0]
def xuy(J:nS w B v2 r mp b k L l a w1):tQ w B v2 r l a w1 Q 1:=fun o g c f hd=>by
 have d:=c;simp[nI,pM,jU,Tryz.f36,Qf,Qa,Qb]at c;subst c;have e0:a.tmps[4]?=bO _:=J.T (0,4,zo B) (by simp)<|hd ⟨0,.data⟩ (by simp) rfl;refine oX.value (val:=zo B) (w':=w1) bQ oC d rfl (fun t e=>⟨t,e, ?_⟩) (J.mv (by decide) rfl<|by simp);show(bG a.eval _).run prog (re w1 t e)=_;simp[bG,go_sem,e0]
def xu2(J:nS w B v2 r mp b k L l a w1):tQ w B v2 r l a w1 Q 5:=fun o g c f hd=>by
 have d:=c;simp[nI,pM,jU,Tryz.f36,Qf,Qa,Qb]at c;subst c;have e0:a.tmps[8]?=bO _:=J.T (4,8,zo B) (by simp)<|hd ⟨4,.data⟩ (by simp) rfl;refine oX.value (val:=zo B) (w':=w1) bQ oC d rfl (fun t e=>⟨t,e, ?_⟩) (J.mv (by decide) rfl<|by simp);show(bG a.eval _).run prog (re w1 t e)=_;simp[bG,go_sem,e0]
def xuz(J:nS w B v2 r mp b k L l a w1):tQ w B v2 r l a w1 Q 2:=fun o g c f hd=>by
 have d:=c;simp[nI,pM,jU,Tryz.f36,Qf,Qa,Qb]at c;subst c;have e0:a.tmps[5]?=bO _:=J.T (1,5,zo B) (by simp)<|hd ⟨1,.data⟩ (by simp) rfl;refine oX.value (val:=zk B 2) (w':=w1) bQ oC d rfl (fun t e=>⟨t,e, ?_⟩) (J.mv (by decide) rfl<|by simp);show(bG a.eval _).run prog (re w1 t e)=_;simp[bG,go_sem,e0]
def xu3(J:nS w B v2 r mp b k L l a w1):tQ w B v2 r l a w1 Q 6:=fun o g c f hd=>by
 have d:=c;simp[nI,pM,jU,Tryz.f36,Qf,Qa,Qb]at c;subst c;have e0:a.tmps[9]?=bO _:=J.T (5,9,zo B) (by simp)<|hd ⟨5,.data⟩ (by simp) rfl;refine oX.value (val:=zk B 3) (w':=w1) bQ oC d rfl (fun t e=>⟨t,e, ?_⟩) (J.mv (by decide) rfl<|by simp);show(bG a.eval _).run prog (re w1 t e)=_;simp[bG,go_sem,e0]
def xu0(g:xx w B r.cells 81)(J:nS w B v2 r mp b k L l a w1):tQ w B v2 r l a w1 Q 3:=fun o i d h hd=>by
 have e:=d;simp[nI,pM,jU,Tryz.f36,Qf,Qa,Qb]at d;subst d;have e0:a.tmps[6]?=bO _:=J.T (2,6,zk B 2) (by simp)<|hd ⟨2,.data⟩ (by simp) rfl;refine oX.value (val:=zo r.D) (w':=w1) bQ oC e rfl (fun t c=>⟨t,c, ?_⟩) (J.mv (by decide) rfl<|by simp);show(bG a.eval _).run prog (re w1 t c)=_;have f:(re w1 t c).cell? (zq B 2)=bO (zo r.D):=(g.nw J.nw).cell 2 rfl;simp[bG,go_sem,e0,f]
def xu4(j:xx w B r.cells 81)(J:nS w B v2 r mp b k L l a w1):tQ w B v2 r l a w1 Q 7:=fun o p e n hd=>by
 have f:=e;simp[nI,pM,jU,Tryz.f36,Qf,Qa,Qb]at e;subst e;have e0:a.tmps[10]?=bO _:=J.T (6,10,zk B 3) (by simp)<|hd ⟨6,.data⟩ (by simp) rfl;refine oX.value (val:= .agg (iV r.m r.mark r.cnt r.op)) (w':=w1) bQ oC f rfl (fun t d=>⟨t,d, ?_⟩) (J.mv (by decide) rfl<|by simp);show(bG a.eval _).run prog (re w1 t d)=_;have c:=j.nw J.nw;have g:(re w1 t d).cell? (zq B 3)=bO (zs r.m):=c.cell 3 rfl;have h:(re w1 t d).cell? (zq B 4)=bO (zi r.cnt):=c.cell 4 rfl;have c5:(re w1 t d).cell? (zq B 5)=bO (zs r.mark):=c.cell 5 rfl;have i:(re w1 t d).cell? (zq B 6)=bO (zi r.op):=c.cell 6 rfl;simp[bG,go_sem,e0,g,h,c5,i,iV]
def xu5(I:Xg w r.D r.d)(n:∀x,r.d.own r.D x->4<x)(K:Wh tv w)(M:dF w)(R:r.m.length=32)(U:r.cnt<=1000000000000)(j:∀i,(qu r.d.L i).length<=100000)
  (N:∀a' w' mp,a'.defers=[]->Nw w w'->w.heap.size<=mp->Yu (Jp r.m r.mark r.cnt r.op mp) r.d.L=bN->Q (.panic [{v:=tv,recovered:=bK}]) a' w')(J:nS w B v2 r mp b k L l a w1):tQ w B v2 r l a w1 Q 8:=fun o V y O hd=>by
 have z:=y;simp[nI,pM,jU,Tryz.f36,Qf,Qa,Qb]at y;subst y;have E:¬l[10]?=bO bL:=fun h=>by have:=(J.l10 h).1.1;rw[O]at this;cases this
 have H:a.tmps[7]?=bO _:=J.T (3,7,zo r.D) (by simp)<|hd ⟨3,.data⟩ (by simp) rfl;have s:a.tmps[11]?=bO _:=J.T (7,11,.agg<|iV r.m r.mark r.cnt r.op) (by simp)<|hd ⟨7,.data⟩ (by simp) rfl;refine oX.call bQ oC J.df z rfl (f:=67) (args:=#[zo r.D,.agg<|iV r.m r.mark r.cnt r.op]) (fun v=>?_) (bZ rfl Tryz.func67 rfl) (zps (tv:=tv) (w:=w1) (I.but J.nw fun _ _=>id) n (K.nw J.nw) (M.nw J.nw) R (by omega) (by omega) j) ?_ ?_
 ·show(bG a.eval _).run prog v=_
  simp[bG,go_sem,resolve,H,s]
 ·rintro v S ⟨q,c,g,h⟩
  cases hq:Yu (Jp r.m r.mark r.cnt r.op c) r.d.L with
  |none=>simp only[hq]at h;cases h
  |some p=>
   obtain⟨G,F⟩:=p;simp only[hq]at h;obtain⟨e,t,C⟩:=h;cases e;exact⟨c,b,G,F,⟨J.df,AP J.sz,J.nw.trans q,(J.s0.put (by decide) _),(J.s2.put (by decide) _),J.T.put J.sz (by decide)<|by simp,.now ⟨.new J.sz<|by decide,xz J.nw.size g,hq,t,C⟩,J.l9.next (by decide) fun x=>⟨(x.1.put (by decide) _),x.2.1,fun h=>(x.2.2<|JM h<|by decide).nw q⟩,fun h=>absurd ((EH h).resolve_left<|by decide) E⟩⟩
 rintro ch S ⟨q,c,g,h⟩;cases hq:Yu (Jp r.m r.mark r.cnt r.op c) r.d.L with
 |none=>
  simp only[hq]at h;cases h;exact N _ _ c J.df (J.nw.trans q) (xz J.nw.size g) hq
 |some p=>obtain⟨G,F⟩:=p;simp only[hq]at h;cases h.1
def xu6(J:nS w B v2 r mp b k L l a w1):tQ w B v2 r l a w1 Q 9:=fun o i c g hd=>by
 have d:=c;simp[nI,pM,jU,Tryz.f36,Qf,Qa,Qb]at c;subst c;have e:¬l[10]?=bO bL:=fun h=>by have:=(J.l10 h).1.2;rw[g]at this;cases this
 refine oX.value (val:=zo w1.heap.size) (w':=w1.alloc<|.cells pO 122) bQ oC d rfl (fun t f=>⟨t,f, ?_⟩) ⟨mp,w1.heap.size,k,L,⟨J.df,AP J.sz,J.nw.trans<|Nw.alloc _ _,(J.s0.put (by decide) _),(J.s2.put (by decide) _),J.T.put J.sz (by decide)<|by simp,J.l8.next (by decide) fun x=>⟨(x.1.put (by decide) _),x.2.1,x.2.2.1,x.2.2.2.1,x.2.2.2.2.nw<|Nw.alloc _ _⟩,.now ⟨.new J.sz<|by decide,J.nw.size,fun _=>xx.new _ _ _⟩,fun h=>absurd ((EH h).resolve_left<|by decide) e⟩⟩;show(bG a.eval _).run prog (re w1 t f)=_;simp[bG,go_sem];exact⟨rfl,rfl⟩
def xr6(J:nS w B v2 r mp b k L l a w1):tQ w B v2 r l a w1 Q 10:=fun o K n I hd=>by
 have p:=n;simp[nI,pM,jU,Tryz.f36,Qf,Qa,Qb]at n;subst n;have y:l[8]?=bO bL:=hd ⟨8,.data⟩ (by simp) rfl;have z:l[9]?=bO bL:=hd ⟨9,.data⟩ (by simp) rfl;have g:=(J.l8 y).1.ev;obtain⟨E,M,f⟩:=J.l9 z;have F:=E.ev;have D:=f I;obtain⟨N,R,H,d,q⟩:=D.store (cs':=k.cells (Xz k.m k.ep)<|Jm k.m k.ep) (ty:=122) rfl Gr (by simp[Lk.cells,Value.oneCell']);have j:∀{mp L},Xd w1 mp L->¬mp=b:=fun h e=>by obtain⟨O,c,G⟩:=h.blk;exact D.cZ G e.symm
 have s:Nw w N:=⟨d.os.trans J.nw.os,d.output.trans J.nw.output,xz J.nw.size d.size,fun i C _=>(d.block i (zn C J.nw.size)<|by show¬i=b;omega).trans<|J.nw.block i C id⟩;refine oX.skip bQ oC p rfl (fun t v=>⟨t,v,Lp rfl F g<|q t v⟩) ⟨mp,b,k,L,⟨J.df,J.sz,s,J.s0,J.s2,J.T.skip<|by simp,J.l8.next (by decide) fun x=>⟨x.1,x.2.1,x.2.2.1,x.2.2.2.1,x.2.2.2.2.but d<|j x.2.2.2.2⟩,J.l9.next (by decide) fun x=>⟨x.1,x.2.1,fun h=>absurd h<|by rw[cT K<|by rw[ZM];decide];simp⟩,.now ⟨⟨Vo y,Vo z⟩,H⟩⟩⟩
def xns(t:xx w B r.cells 81)(C:Xg w r.D r.d)(j:∀x,r.d.own r.D x->4<x)(E:Wh tv w)(G:dF w)(M:r.m.length=32)(K:r.cnt<=1000000000000)(h:∀i,(qu r.d.L i).length<=100000)
  (n:a.defers=[])(s:a.tmps.size=45)(s0:At a 0<|zo B)(s2:At a 2 v2)
  (H:∀a' w' mp,a'.defers=[]->Nw w w'->w.heap.size<=mp->Yu (Jp r.m r.mark r.cnt r.op mp) r.d.L=bN->Q (.panic [{v:=tv,recovered:=bK}]) a' w')
  (F:∀a' w' mp b k L,a'.defers=[]->a'.tmps.size=45->At a' 0 (zo B)->At a' 2 v2->At a' 3 (zo b)->Nw w w'->w.heap.size<=mp->w.heap.size<=b->Yu (Jp r.m r.mark r.cnt r.op mp) r.d.L=bO (k,L)->k.mp=mp->Xd w' mp L->Xa w' b k->Q .normal a' w'):Xn bM 36 pM Q a w:=by
 rw[xo1];refine Xn.inv bQ oC mixed xuo (fun l a w1=>∃mp b k L,nS w B v2 r mp b k L l a w1) ⟨0,0,Jp [] [] 0 0 0,[],n,s,xb.refl _ _,s0,s2,.none,.none,.none,.none⟩ ?_ ?_;rintro l a' w' ⟨mp,b,k,L,J⟩ g;have c:∀i,i<11->l[i]?=bO bL:=fun i y=>g i (by rw[ZM];exact y);obtain⟨z,I,_⟩:=J.l9 (c 9<|by decide);obtain⟨_,q,N,p,e⟩:=J.l8 (c 8<|by decide);exact F a' w' mp b k L J.df J.sz J.s0 J.s2 z J.nw q I N p e (J.l10<|c 10<|by decide).2;rintro l a' w' i o ⟨mp,b,k,L,J⟩ e f c hd;have y:i<11:=by have:=(za.1 f).1;rwa[ZM]at this
 have:i=0\/i=1\/i=2\/i=3\/i=4\/i=5\/i=6\/i=7\/i=8\/i=9\/i=10:=by omega
 rcases this with rfl|rfl|rfl|rfl|rfl|rfl|rfl|rfl|rfl|rfl|rfl;exact xux J o e f c hd;exact xuy J o e f c hd;exact xuz J o e f c hd;exact xu0 t J o e f c hd;exact xu1 J o e f c hd;exact xu2 J o e f c hd;exact xu3 J o e f c hd;exact xu4 t J o e f c hd;exact xu5 C j E G M K h H J o e f c hd;exact xu6 J o e f c hd;exact xr6 J o e f c hd
end
end P
end Go.Proofs.YtjnbhiamaabbgaaGreatDoor
