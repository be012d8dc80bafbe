import Derived.Test.YtjnbhiamaabbgaaGreatDoorM2
import Derived.Lib.BufferWrite
import Derived.Laws.CopyOwn
import Derived.Deep.DeepCutAuto
set_option linter.all false
set_option maxRecDepth 100000
set_option maxHeartbeats 8000000
namespace Go.Proofs.YtjnbhiamaabbgaaGreatDoor
open Bool renaming false->bK
open Go renaming Calls->bE
open Go.Ending renaming returned->aP
open Go.RowKit renaming Below->bC,intOf->aJ
open Go.World renaming setCell->aF
open Option renaming none->bN,some->bO
open _root_.List renaming replicate->aM
namespace P
open A.Tryq Go.RowKit
def sG(x:Z8):Z3:=BitVec.ofNat 32 x.toNat
def xv0(x:Z8):u (sG x)=(x.toNat:Int):=by
 have:=x.toNat_lt;simp only[u,sG,BitVec.toNat_ofNat];rw[PZ<|by omega]
def xst(x:Z3):IntKind.u32.wrap (u x)=u x:=JS _ (GZ _)<|GX _
def w16(m:Zu)(k:Nat):Z3:=sG (m<|4*k)<<<24|||sG (m<|4*k+1)<<<16|||sG (m<|4*k+2)<<<8|||sG (m<|4*k+3)
def wl(m:Zu):Nat->List Z3
 |0=>[]
 |n+1=>wl m n++[if n<16 then w16 m n else(wl m n).getD (n-16) 0+MW ((wl m n).getD (n-15) 0)+(wl m n).getD (n-7) 0+MX ((wl m n).getD (n-2) 0)]
def Wf(m:Zu)(i:Nat):Z3:=(wl m<|i+1).getD i 0
def UG(m:Zu):∀n,(wl m n).length=n
 |0=>rfl
 |n+1=>by simp[wl,UG m n]
def MN(m:Zu)(i:Nat):∀n,i<n->(wl m n).getD i 0=Wf m i
 |0,h=>by omega
 |n+1,h=>by
  by_cases e:i=n;subst e;rfl;have a:=UG m n;rw[<-MN m i n<|by omega];simp only[wl,Xo];rw[Z2<|by omega]
def xtc(m:Zu)(i:Nat)(h:i<16):Wf m i=w16 m i:=by
 have a:=UG m i;simp only[Wf,wl,Xo];rw[Zx<|by omega];simp[a,h]
def xtb(m:Zu)(i:Nat)(h:16<=i):Wf m i=Wf m (i-16)+MW (Wf m<|i-15)+Wf m (i-7)+MX (Wf m<|i-2):=by
 have a:=UG m i;have e:Wf m i=(wl m i).getD (i-16) 0+MW ((wl m i).getD (i-15) 0)+(wl m i).getD (i-7) 0+MX ((wl m i).getD (i-2) 0):=by
  simp only[Wf,wl,Xo];rw[Zx<|by omega];simp[a,show¬i<16 by omega]
 rw[e,MN m _ i<|by omega,MN m _ i<|by omega,MN m _ i<|by omega,MN m _ i<|by omega]
attribute [local go_sem] yY EW oG EU EX xst xou xot xsr
def z64:Za:=#[.int .u32 0,.int .u32 0,.int .u32 0,.int .u32 0,.int .u32 0,.int .u32 0,.int .u32 0,.int .u32 0,.int .u32 0,.int .u32 0,.int .u32 0,.int .u32 0,.int .u32 0,.int .u32 0,.int .u32 0,.int .u32 0,.int .u32 0,.int .u32 0,.int .u32 0,.int .u32 0,.int .u32 0,.int .u32 0,.int .u32 0,.int .u32 0,.int .u32 0,.int .u32 0,.int .u32 0,.int .u32 0,.int .u32 0,.int .u32 0,.int .u32 0,.int .u32 0,.int .u32 0,.int .u32 0,.int .u32 0,.int .u32 0,.int .u32 0,.int .u32 0,.int .u32 0,.int .u32 0,.int .u32 0,.int .u32 0,.int .u32 0,.int .u32 0,.int .u32 0,.int .u32 0,.int .u32 0,.int .u32 0,.int .u32 0,.int .u32 0,.int .u32 0,.int .u32 0,.int .u32 0,.int .u32 0,.int .u32 0,.int .u32 0,.int .u32 0,.int .u32 0,.int .u32 0,.int .u32 0,.int .u32 0,.int .u32 0,.int .u32 0,.int .u32 0]
structure Vk(w:Zy)(C:Za)(wr:Zy):Prop where
 dI:bC w.heap.size w wr
 sz:w.heap.size+1<wr.heap.size
 b0:wr.heap[w.heap.size]?=bO (.cells z64 336 (0,0))
 b1:wr.heap[w.heap.size+1]?=bO (.cells C 336 (0,0))
def Vk.start(w:Zy):Vk w z64<|(w.alloc<|.cells z64 336).alloc<|.cells z64 336:=by
 refine⟨((zr _ _).alloc (ze _) _).alloc (by simp) _,by simp, ?_, ?_⟩
 all_goals (show((w.heap.push _).push _)[_]?=_)
 all_goals (simp only[jh,Xe])
 rw[aB<|by omega,aA trivial];rw[aA trivial]
def Vk.set{w wr:Zy}{C:Za}(h:Vk w C wr)(k:Nat)(v:Zv):Vk w (C.setIfInBounds k v)<|wr.drew.setCell (zq (w.heap.size+1) k) v:=by
 refine⟨(h.dI.drew).setCell (by show w.heap.size<=w.heap.size+1;omega) _,by simpa[aF]using h.sz, ?_,qe _ _ _ _ _ _ h.b1⟩;rw[jq _ _ _ _<|by show w.heap.size≠w.heap.size+1;omega];exact h.b0
def cU{C:Za}{k:Nat}{W:Nat->Z3}(b:C.size=64)(hk:k<64)(h:∀i,i<k->C[i]?=bO (zw<|W i)):
  ∀i,i<k+1->(C.setIfInBounds k<|zw<|W k)[i]?=bO (zw<|W i):=by
 intro i a;rw[Z5];by_cases e:k=i;subst e;rw[aA rfl,aA<|by omega];rw[aB e,h i<|by omega]
def xp0{C:Za}{W:Nat->Z3}(b:C.size=64)(h:∀i,i<64->C[i]?=bO (zw<|W i)):C=(wv W).toArray:=by
 apply Yc;intro i;by_cases a:i<64;rw[h i a];simpa using(Gf W i a).symm;rw[ju<|by omega,ju<|by simp[VQ];omega]
def Pe:z64.size=64:=rfl
def xq9:(prog.info? 336).map (·.size)=bO 64:=by kernel_rfl
def xsv(W:Nat->Z3):(wv W).toArray.all (·.oneCell')=true:=by
 refine qi.2 fun v a=>?_;simp only[wv,List.mem_toArray,qp]at a;obtain⟨i,_,rfl⟩:=a;rfl
def zu6(m:Zu)(g off cap:Nat)(w:Zy)(y:∀j,j<64->w.cell? ⟨g,off+j,bN⟩=bO (.int .u8<|u<|sG<|m j)):
  bE prog 264 #[.slice (bO ⟨g,off,bN⟩) 64 cap] w fun en w'=>en= .returned (.agg (wv<|Wf m).toArray)/\bC w.heap.size w w':=by
 have r:g<w.heap.size:=qz (y 0<|by decide);have q:=zl y;clear y;go_enter func264.1,Tryz.ntmps264
 go_wp2
 go_loopw [7] (fun i wr=>∃(k:Nat) (C:Za),k<=16/\i= .int .i64 k/\Vk w C wr/\C.size=64/\∀i,i<k->C[i]?=bO (.int .u32<|u<|Wf m i)) (fun i _=>(16-aJ i).toNat)
 case atStart=>
  exact⟨0,z64,by omega,rfl,Vk.start w,rfl,fun i f=>by omega⟩
 case round=>
  obtain⟨k,C,hk,rfl,inv,a,b⟩:=hrel;have o:=inv.sz;by_cases e:k<16
  ·have I:wr.cell? ⟨g,off+(4*(k:Int)).toNat,bN⟩=bO (.int .u8<|u<|sG<|m<|4*k):=by
    rw[show(4*(k:Int)).toNat=4*k by omega];exact(inv.dI.cell (p:=⟨g,off+4*k,bN⟩) r).trans<|q.o _<|by omega
   have J:wr.cell? ⟨g,off+(4*(k:Int)+1).toNat,bN⟩=bO (.int .u8<|u<|sG<|m<|4*k+1):=by
    rw[show(4*(k:Int)+1).toNat=4*k+1 by omega];exact(inv.dI.cell (p:=⟨g,off+(4*k+1),bN⟩) r).trans<|q.o _<|by omega
   have K:wr.cell? ⟨g,off+(4*(k:Int)+2).toNat,bN⟩=bO (.int .u8<|u<|sG<|m<|4*k+2):=by
    rw[show(4*(k:Int)+2).toNat=4*k+2 by omega];exact(inv.dI.cell (p:=⟨g,off+(4*k+2),bN⟩) r).trans<|q.o _<|by omega
   have L:wr.cell? ⟨g,off+(4*(k:Int)+3).toNat,bN⟩=bO (.int .u8<|u<|sG<|m<|4*k+3):=by
    rw[show(4*(k:Int)+3).toNat=4*k+3 by omega];exact(inv.dI.cell (p:=⟨g,off+(4*k+3),bN⟩) r).trans<|q.o _<|by omega
   have i0:(0:Int)<=4*(k:Int):=by omega
   have O:4*(k:Int)<64:=by omega
   have i1:(0:Int)<=4*(k:Int)+1:=by omega
   have Q:4*(k:Int)+1<64:=by omega
   have i2:(0:Int)<=4*(k:Int)+2:=by omega
   have R:4*(k:Int)+2<64:=by omega
   have i3:(0:Int)<=4*(k:Int)+3:=by omega
   have S:4*(k:Int)+3<64:=by omega
   have e1:IntKind.i64.wrap (4*(k:Int)+1)=4*(k:Int)+1:=by rw[xn]<;>omega
   have F:IntKind.i64.wrap (4*(k:Int)+2)=4*(k:Int)+2:=by rw[xn]<;>omega
   have e3:IntKind.i64.wrap (4*(k:Int)+3)=4*(k:Int)+3:=by rw[xn]<;>omega
   have T:(k:Int)<64:=by omega
   obtain⟨c,G⟩:∃c,wr.cell? ⟨w.heap.size+1,k,bN⟩=bO c:=⟨C[k]'(by omega),by rw[je _ _ k _ _ _ inv.b1];simp⟩;have H:wr.frozen? ⟨w.heap.size+1,k,bN⟩=bK:=jx _ _ _ _ _ inv.b1;have h:=zl<|cU a (by omega) b;have f:=inv.set k<|.int .u32<|u<|Wf m k;rw[xtc m k e]at f h;clear b;unfold w16 at f h
   go_wp2
   go_still_tail 31,(by kernel_rfl)
   go_wp2
   go_roundw
   case rel=>exact⟨k+1,_,by omega,by go_num,f,by simpa using a,h.o⟩
   case measure=>simp[aJ];omega
  obtain rfl:k=16:=by omega
  clear hk e
  go_wp2
  go_loopw [6] (fun i w2=>∃(k:Nat) (C:Za),16<=k/\k<=64/\i= .int .i64 k/\Vk w C w2/\C.size=64/\∀i,i<k->C[i]?=bO (.int .u32<|u<|Wf m i)) (fun i _=>(64-aJ i).toNat)
  case atStart=>
   exact⟨16,C,by omega,by omega,rfl,inv,a,b⟩
  case round=>
   clear inv a b o;obtain⟨k,C,l,hk,rfl,inv,a,b⟩:=hrel;have o:=inv.sz;by_cases e:k<64
   ·have T:(k:Int)<64:=by omega
    have E:IntKind.i64.wrap ((k:Int)-16)=(k:Int)-16:=by rw[xn]<;>omega
    have V:(16:Int)<=(k:Int):=by omega
    have Z:(k:Int)<80:=by omega
    have X:(k:Int)-16<64:=by omega
    have B:wr.cell? ⟨w.heap.size+1,((k:Int)-16).toNat,bN⟩=bO (.int .u32<|u<|Wf m<|k-16):=by
     rw[show((k:Int)-16).toNat=k-16 by omega,je _ _ _ _ _ _ inv.b1,b _<|by omega]
    have D:IntKind.i64.wrap ((k:Int)-15)=(k:Int)-15:=by rw[xn]<;>omega
    have U:(15:Int)<=(k:Int):=by omega
    have Y:(k:Int)<79:=by omega
    have W:(k:Int)-15<64:=by omega
    have z:wr.cell? ⟨w.heap.size+1,((k:Int)-15).toNat,bN⟩=bO (.int .u32<|u<|Wf m<|k-15):=by
     rw[show((k:Int)-15).toNat=k-15 by omega,je _ _ _ _ _ _ inv.b1,b _<|by omega]
    have e7:IntKind.i64.wrap ((k:Int)-7)=(k:Int)-7:=by rw[xn]<;>omega
    have p7:(7:Int)<=(k:Int):=by omega
    have r7:(k:Int)<71:=by omega
    have q7:(k:Int)-7<64:=by omega
    have c7:wr.cell? ⟨w.heap.size+1,((k:Int)-7).toNat,bN⟩=bO (.int .u32<|u<|Wf m<|k-7):=by
     rw[show((k:Int)-7).toNat=k-7 by omega,je _ _ _ _ _ _ inv.b1,b _<|by omega]
    have F:IntKind.i64.wrap ((k:Int)-2)=(k:Int)-2:=by rw[xn]<;>omega
    have p2:(2:Int)<=(k:Int):=by omega
    have r2:(k:Int)<66:=by omega
    have q2:(k:Int)-2<64:=by omega
    have c2:wr.cell? ⟨w.heap.size+1,((k:Int)-2).toNat,bN⟩=bO (.int .u32<|u<|Wf m<|k-2):=by
     rw[show((k:Int)-2).toNat=k-2 by omega,je _ _ _ _ _ _ inv.b1,b _<|by omega]
    obtain⟨c,G⟩:∃c,wr.cell? ⟨w.heap.size+1,k,bN⟩=bO c:=⟨C[k]'(by omega),by rw[je _ _ k _ _ _ inv.b1];simp⟩;have H:wr.frozen? ⟨w.heap.size+1,k,bN⟩=bK:=jx _ _ _ _ _ inv.b1;have h:=zl<|cU a (by omega) b;have f:=inv.set k<|.int .u32<|u<|Wf m k;rw[xtb m k l]at f h;clear b
    go_wp2
    go_still_tail 23,(by kernel_rfl)
    still_call (xn6 _ _)
    repeat still_step
    still_call (xn7 _ _)
    repeat still_step
    refine wpStill_nil ?_
    go_wp2
    go_roundw
    case rel=>(repeat apply Exists.intro);exact⟨⟨k+1,_,by omega,by omega,by go_num,f,by simpa using a,h.o⟩,rfl⟩
    case measure=>simp[aJ];omega
   obtain rfl:k=64:=by omega
   have t:=xp0 a b;subst t;clear b hk l e;have d:(prog.info? 336).map (·.size)=bO (wv<|Wf m).toArray.size:=by rw[jg,VQ];exact xq9
   have s:=xsv<|Wf m;have M:z64.size=(wv<|Wf m).toArray.size:=by rw[Pe,jg,VQ]
   have n:(wr.setRow w.heap.size (wv<|Wf m).toArray).heap[w.heap.size]?=bO (.cells (wv<|Wf m).toArray 336 (0,0)):=Yv _ _ _ _ _ _ inv.b0;have x:bC w.heap.size w<|wr.setRow w.heap.size (wv<|Wf m).toArray:=inv.dI.trans ⟨rfl,rfl,rfl,by simp,fun j hj=>setRow_other _ _ _ _<|by omega⟩
   go_wp2_with (first|refine Vh rfl 336 _ rfl (w.heap.size+1) rfl 336 _ (0,0) _ inv.b1 underlying336 rfl d ?_|refine Jj rfl 336 _ _ rfl w.heap.size _ rfl rfl 336 _ inv.b0 d M s ?_)
   exact jz (v:= .agg (wv<|Wf m).toArray) (Yf rfl _ _ w.heap.size 336 _ (0,0) _ rfl n underlying336 rfl d) rfl ⟨rfl,x⟩
end P
namespace P
open A.Tryq Go.RowKit
def CV(x:Z3):Z8:=UInt8.ofNat x.toNat
def xv1(x:Z3):IntKind.u8.wrap (u x)=((CV x).toNat:Int):=by
 simp[IntKind.wrap,IntKind.bits,IntKind.signed,u,CV]
def wb(x:Z3):Zl:=[CV<|x>>>24,CV<|x>>>16,CV<|x>>>8,CV x]
def sb(s:St):Nat->Zl
 |0=>[]
 |n+1=>sb s n++wb (at8 s n)
def VG(s:St):∀n,(sb s n).length=4*n
 |0=>rfl
 |n+1=>by simp[sb,VG s n,wb];omega
def bv(l:Zl):Ze:=l.map fun b=> .int .u8 (b.toNat:Int)
def Wn(l:Zl):(bv l).length=l.length:=by simp[bv]
def g_(a b:Zl):bv (a++b)=bv a++bv b:=by simp[bv]
def VX:∃i,prog.info? 5=bO i/\i.zero=bO (zb 0)/\i.size=1/\i.bytes=1:=by
 have h:(prog.info? 5).map (fun i=>(i.zero,i.size,i.bytes))=bO (bO<|zb 0,1,1):=by kernel_rfl
 cases hq:prog.info? 5 with
 |none=>rw[hq]at h;simp at h
 |some i=>rw[hq]at h;simp at h;exact⟨i,rfl,h.1,h.2.1,h.2.2⟩
def xq7(s:St)(k:Nat)(hk:k<8)(w:Zy):(Instr.index 323 (.agg #[zw s.a,zw s.b,zw s.c,zw s.d,zw s.e,zw s.f,zw s.g,zw s.h])<|zi k).run prog w= .ok (zw<|at8 s k) w:=by
 obtain rfl|rfl|rfl|rfl|rfl|rfl|rfl|rfl:k=0\/k=1\/k=2\/k=3\/k=4\/k=5\/k=6\/k=7:=by omega
 all_goals kernel_rfl
def Dy(l:Zl):∀v∈bv l,v.oneCell'=true:=by
 intro v a;simp only[bv,qp]at a;obtain⟨b,_,rfl⟩:=a;rfl
def Ol{w:Zy}{base g n cap:Nat}{l:Zl}(h:w.ownsRow base 5 1 (.slice (bO ⟨g,0,bN⟩) n cap) n<|bv l):n=l.length/\∀j (hj:j<l.length),w.cell? (((zq g 0):Addr).add j)=bO (zb<|l[j].toNat):=by
 obtain⟨d,b⟩:=h;simp only[Wn,Nat.mul_one]at d;refine⟨d.symm,fun j hj=>?_⟩;rcases b with⟨b,_⟩|⟨k,c,a,i,m,e,o,_,p,f⟩
 cases b;cases i;rw[Addr.add_mid,jy,je _ _ j _ _ _ e];have:(a.toList.take<|n*1)[j]?=(bv l)[j]?:=by rw[f]
 rw[Jf]at this;rw[aA<|by omega]at this;simpa[bv,hj]using this
attribute [local go_sem] xow xov xss xv1
def zrp(s:St)(w:Zy):bE prog 265 #[.agg #[zw s.a,zw s.b,zw s.c,zw s.d,zw s.e,zw s.f,zw s.g,zw s.h]] w fun en w'=>en= .returned (.string ⟨(sb s 8).toArray⟩)/\bC w.heap.size w w':=by
 obtain⟨S,Q,M,y,r⟩:=VX;go_enter func265.1,Tryz.ntmps265
 go_wp2_with (refine wpList_make_own _ rfl _ _ 163 rfl (w.heap.size+1) 5 S (zb 0) 1 underlying163 Q M y .i64 .i64 32 32 rfl rfl rfl ?b1 ?b2 ?b3 ?_)
 case b1=>rw[r];decide
 case b2=>decide
 case b3=>simp
 intro w1 m q;have l:w1.heap[w.heap.size]?=bO (.cells #[zw s.a,zw s.b,zw s.c,zw s.d,zw s.e,zw s.f,zw s.g,zw s.h] 323 (0,0)):=(q.block _ (by simp)<|by simp).trans<|jw _ _;have C:w1.cell? (zq w.heap.size 0)=bO (zw s.a):=by rw[je _ _ 0 _ _ _ l];rfl
 have D:w1.cell? (zq w.heap.size 1)=bO (zw s.b):=by rw[je _ _ 1 _ _ _ l];rfl
 have E:w1.cell? (zq w.heap.size 2)=bO (zw s.c):=by rw[je _ _ 2 _ _ _ l];rfl
 have F:w1.cell? (zq w.heap.size 3)=bO (zw s.d):=by rw[je _ _ 3 _ _ _ l];rfl
 have G:w1.cell? (zq w.heap.size 4)=bO (zw s.e):=by rw[je _ _ 4 _ _ _ l];rfl
 have H:w1.cell? (zq w.heap.size 5)=bO (zw s.f):=by rw[je _ _ 5 _ _ _ l];rfl
 have I:w1.cell? (zq w.heap.size 6)=bO (zw s.g):=by rw[je _ _ 6 _ _ _ l];rfl
 have J:w1.cell? (zq w.heap.size 7)=bO (zw s.h):=by rw[je _ _ 7 _ _ _ l];rfl
 have t:bC w.heap.size w w1:=((zr _ _).alloc (ze _) _).grown q (by simp) (fun _ h=>by cases h);have R:w.heap.size+1<w1.heap.size:=by
  rcases m.2 with⟨h,_⟩|⟨Y,O,U,L,_,W,_⟩;cases h;cases L;simpa using(za.1 W).1
 clear q l
 go_wp2
 go_loopw [3,8] (fun v i wr=>∃k:Nat,k<=8/\i=zi k/\v= .slice (bO ⟨w.heap.size+1,0,bN⟩) (4*k) 32/\bC w.heap.size w wr/\wr.ownsRow (w.heap.size+1) 5 1 (.slice (bO ⟨w.heap.size+1,0,bN⟩) (4*k) 32) (4*k) (bv<|sb s k)/\w.heap.size+1<wr.heap.size) (fun _ i _=>(8-aJ i).toNat)
 case atStart=>exact⟨0,by omega,rfl,rfl,t,by simpa[bv,sb]using m,R⟩
 case round=>
  clear m t R C D E F G H I J;obtain⟨k,hk,rfl,rfl,o,m,K⟩:=hrel;by_cases B:k<8
  ·have X:=xq7 s k B
   go_wp2_with (at_builtin;refine wpList_append_fits _ rfl _ _ 163 rfl (w.heap.size+1) 5 S 1 underlying163 Q y (w.heap.size+1) (4*k) 32 (bv<|sb s k) rfl ?own (zq wr.heap.size 0) 4 4 (bv<|wb<|at8 s k) rfl rfl ?c1 ?c2 ?c3 ?_)
   case own=>exact m.alloc _
   case c1=>
    intro j v L;rw[Addr.add_mid,jy,je _ _ j _ _ _<|jw _ _,<-L];simp[bv,wb]
   case c2=>exact Dy _
   case c3=>omega
   intro T n p;rw[<-g_]at n;have z:bC w.heap.size w T:=(o.alloc o.size _).grown p (by simp;omega) (fun _ h=>by cases h;omega);have r:w.heap.size+1<T.heap.size:=zn K<|xz (by simp) p.size;have x:4*k+4=4*(k+1):=by omega
   rw[x]at n;clear p m
   go_wp2
   go_roundw
   case rel=>exact⟨k+1,by omega,by go_num,by rw[<-x],z,n,r⟩
   case measure=>simp[aJ];omega
  obtain rfl:k=8:=by omega
  have V:(convert 163 9<|.slice (bO ⟨w.heap.size+1,0,bN⟩) 32 32).run prog wr= .ok (.string ⟨(sb s 8).toArray⟩) wr:=by
   have h:=run_convert_bytes_back (P:=prog) wr 163 9 5 (zq (w.heap.size+1) 0) 32 (sb s 8) underlying163 underlying5 underlying9 (Ol m).2;rw[VG]at h;exact h
  clear m
  go_wp2
  go_ret
  exact⟨rfl,o⟩
end P
namespace P
open A.Tryq Go.RowKit
section
variable {w:Zy}
def bq(q:Nat):Z8:=UInt8.ofNat q
def nb(n:Nat):Nat->Zl
 |0=>[]
 |k+1=>bq (n/256^k)::nb n k
def qt(n:Nat):∀k,(nb n k).length=k
 |0=>rfl
 |k+1=>by simp[nb,qt n k]
def gB(n:Nat):Nat:=64*((n+72)/64)
def uV(x:Zl)(k:Nat):Zl:=x++128::(aM (gB x.length-x.length-1-k) 0++nb (x.length*8) k)
def xN(x:Zl):Zl:=uV x 8
def TH(n:Nat):n+9<=gB n/\gB n<=n+72:=by unfold gB;omega
def Um(x:Zl)(k:Nat)(hk:k<=8):(uV x k).length=gB x.length:=by
 have:=TH x.length;simp[uV,qt];omega
def Hb(x:Zl)(k:Nat)(hk:k<8):(uV x k).set (gB x.length-(k+1)) (bq<|x.length*8/256^k)=uV x (k+1):=by
 have h:=TH x.length;unfold uV;have e:gB x.length-x.length-1-k=(gB x.length-x.length-1-(k+1))+1:=by omega
 rw[e,List.replicate_succ'];generalize hm:gB x.length-x.length-1-(k+1)=m at*;have a:gB x.length-(k+1)=x.length+(1+m):=by omega
 rw[a,Wl _ _<|by omega]
 congr 1
 rw[show x.length+(1+m)-x.length=m+1 by omega,Zz]
 congr 1
 rw[Zq,Wl _ _<|by simp];simp[nb]
def LH(l:Zl)(i:Nat)(b:Z8):(bv l).set i (zb b.toNat)=bv (l.set i b):=by
 simp[bv,List.map_set]
def PN{P:Zp}{ops:Array Oper}{rest:List Oper}{o:Oper}{a:Act}{Q:Exit->Act->Zy->Prop}(n:o.guard=bN)(d s:Operand)(l v:Zt)
  (ho:o.op= .call {callee:= .builtin .copy,args:=#[d,s],argTypes:=#[l,v]})(e:Zt)(D:P.underlying l=bO (.slice e))(q:(P.info? e).map (·.size)=bO 1)
  (g off c f:Nat)(x:ByteArray)(hd:a.eval d= .slice (bO ⟨g,off,bN⟩) c f)(C:a.eval s= .string x)
  (b:Za)(t:Zt)(r:w.heap[g]?=bO (.cells b t (0,0)))(p:x.size<=c)(k:off+x.size<=b.size)(B:Nat)(w0:Zy)(z:bC B w0 w)(m:B<=g)
  (h:∀w',w'.heap[g]?=bO (.cells (b.toList.take off++Lib.byteCells x.data.toList++b.toList.drop (off+x.size)).toArray t (0,0))->bC B w0 w'->wpList P ops Q rest (a.put o.dst<|goInt x.size) w'):wpList P ops Q (o::rest) a w:=by
 refine wpList_plain n fun K y=>?_;have j:=Lib.run_copy_row_string (P:=P) w l v o.type e g off c f x b t D q r p k;have i:=y _ _<|h _ (Yv w g b _ t _ r)<|below_setRow z m _;unfold Oper.wp;simp only[Zq]at j i;simp[execOp,ho,resolve,invoke,builtin,hd,C,j,Result.andThen];exact i
def sR{base g n:Nat}(h:w.ownsRow base 5 1 (.slice (bO ⟨g,0,bN⟩) n n) n (madeCells #[zb 0] n).toList):w.heap[g]?=bO (.cells (bv<|aM n 0).toArray 5 (0,0)):=by
 rcases h.2 with⟨d,_⟩|⟨l,b,a,k,m,f,o,_,p,c⟩;cases d;cases k;rw[f];have e:a.toList=bv (aM n 0):=by
  rw[qj<|by simp;omega]at c;rw[c];apply Jt;intro i;by_cases j:i<n;simp[madeCells,bv,j,Nat.mod_one];rw[qo<|by simp[madeCells];omega,qo<|by simp[bv];omega]
 rw[<-e]
def UA:(prog.info? 5).map (·.size)=bO 1:=by kernel_rfl
def xnu(x:ByteArray)(hx:x.size<=60000)(w:Zy):bE prog 262 #[.string x] w fun en w'=>en= .returned (.slice (bO ⟨w.heap.size,0,bN⟩) (gB x.size)<|gB x.size)/\w'.heap[w.heap.size]?=bO (.cells (bv<|xN x.data.toList).toArray 5 (0,0))/\bC w.heap.size w w':=by
 obtain⟨T,Q,F,G,H⟩:=VX;go_enter func262.1,Tryz.ntmps262;have W:=TH x.size;have J:((x.size:Int)+1+8+64-1)/64*64=((gB x.size:Nat):Int):=by unfold gB;omega
 have I:Hid<|((x.size:Int)+1+8+64-1)/64*64=((gB x.size:Nat):Int):=J;clear J;have L:x.data.toList.length=x.size:=rfl;have s:Hid<|x.data.toList.length=x.size:=L;clear L
 go_wp2_with (refine wpList_make_full _ rfl _ _ 163 rfl w.heap.size 5 T (zb 0) 1 underlying163 Q F G .i64 .i64 _ _ (gB x.size) rfl rfl ?l1 ?l2 ?b1 ?b2 ?b3 ?_)
 case l1=>exact I.o
 case l2=>exact I.o
 case b1=>rw[H];omega
 case b2=>unfold maxLen;omega
 case b3=>simp
 intro w1 b p;have l:w1.heap[w.heap.size]?=bO (.cells (bv<|aM (gB x.size) 0).toArray 5 (0,0)):=sR b;have d:bC w.heap.size w w1:=(zr _ _).grown p (ze _) (fun _ h=>by cases h);clear p b
 go_wp2_with (refine PN rfl _ _ 163 9 rfl 5 underlying163 UA w.heap.size 0 _ _ x rfl rfl _ 5 l ?c1 ?c2 w.heap.size w d (ze _) ?_)
 case c1=>omega
 case c2=>simp[Wn];omega
 intro r n f;have a:r.heap[w.heap.size]?=bO (.cells (bv<|x.data.toList++aM (gB x.size-x.size) 0).toArray 5 (0,0)):=by
  rw[n]
  congr 2
  simp[bv,Lib.byteCells]
 have z:r.cell? (zq w.heap.size x.size)=bO (zb 0):=by
  rw[je _ _ _ _ _ _ a];simp only[q8,bv,Jd];rw[Zx<|by simp,Zb,s.o,V9,List.map_replicate,List.getElem?_replicate,aA<|by omega];rfl
 have B:r.frozen? (zq w.heap.size x.size)=bK:=jx _ _ _ _ _ a;have o:(r.setCell (zq w.heap.size x.size)<|zb 128).heap[w.heap.size]?=bO (.cells (bv<|uV x.data.toList 0).toArray 5 (0,0)):=by
  rw[qe _ _ _ _ _ _ a]
  congr 2
  rw[xv]
  congr 1
  rw[show(zb 128)=zb ((128:Z8).toNat)from rfl,LH]
  congr 1
  rw[Wl _ _<|by simp];obtain⟨m,R⟩:∃m,gB x.size-x.size=m+1:=⟨gB x.size-x.size-1,by omega⟩;unfold uV;rw[s.o,R];simp[nb,List.replicate_succ]
 have g:bC w.heap.size w<|r.setCell (zq w.heap.size x.size)<|zb 128:=f.setCell (ze _) _;clear l n a f d;have K:(x.size:Int)<(gB x.size:Nat):=by omega
 have t:((x.size:Nat):Int)*8<18446744073709551616:=by omega
 go_wp2
 go_loopw [5,6] (fun q i wr=>∃k:Nat,k<=8/\i=zi (k+1)/\q= .int .u64 ((x.size*8/256^k:Nat):Int)/\wr.heap[w.heap.size]?=bO (.cells (bv<|uV x.data.toList k).toArray 5 (0,0))/\bC w.heap.size w wr) (fun _ i _=>(9-aJ i).toNat)
 case atStart=>
  exact⟨0,by omega,rfl,by go_num,o,g⟩
 case round=>
  clear z B o g;obtain⟨k,hk,rfl,rfl,j,v⟩:=hrel;have S:x.size*8/256^k<=x.size*8:=Nat.div_le_self _ _;have M:Hid<|x.size*8/256^k/256=x.size*8/256^(k+1):=by show _=_;rw[XY,DR]
  by_cases E:k<8
  ·have D:=Um x.data.toList k hk
   rw[s.o]at D;have C:(wr.setCell (zq w.heap.size<|gB x.size-(k+1))<|zb<|(bq<|x.size*8/256^k).toNat).heap[w.heap.size]?=bO (.cells (bv<|uV x.data.toList<|k+1).toArray 5 (0,0)):=by
    rw[qe _ _ _ _ _ _ j,xv,LH];have e:=Hb x.data.toList k E;rw[s.o]at e;rw[e]
   have y:bC w.heap.size w<|wr.setCell (zq w.heap.size<|gB x.size-(k+1))<|zb<|(bq<|x.size*8/256^k).toNat:=v.setCell (ze _) _;obtain⟨c,U⟩:∃c,wr.cell? (zq w.heap.size<|gB x.size-(k+1))=bO c:=by
    refine⟨(bv<|uV x.data.toList k)[gB x.size-(k+1)]'(by rw[Wn,D];omega), ?_⟩;rw[je _ _ _ _ _ _ j];simp
   have V:wr.frozen? (zq w.heap.size<|gB x.size-(k+1))=bK:=jx _ _ _ _ _ j;clear j v D;have j0:(0:Int)<=((gB x.size:Nat):Int)-((k:Int)+1):=by omega
   have j1:((gB x.size:Nat):Int)-((k:Int)+1)<((gB x.size:Nat):Int):=by omega
   generalize x.size*8/256^k=q at*;have O:IntKind.u8.wrap (q:Int)=((bq q).toNat:Int):=by simp[IntKind.wrap,IntKind.bits,IntKind.signed,bq]
   clear t
   go_wp2
   go_roundw
   case rel=>exact⟨k+1,by omega,by go_num,by rw[<-M.o];go_num,C,y⟩
   case measure=>simp[aJ];omega
  obtain rfl:k=8:=by omega
  go_wp2
  go_ret
  exact⟨rfl,j,v⟩
def iv:St:=⟨1779033703,3144134277,1013904242,2773480762,1359893119,2600822924,528734635,1541459225⟩
def blk(l:Zl)(k j:Nat):Z8:=l.getD (64*k+j) 0
def vY(m:Zl):Nat->St
 |0=>iv
 |k+1=>Vt (vY m k)<|Wf<|blk m k
def jF(x:Zl):Zl:=sb (vY (xN x)<|gB x.length/64) 8
def yM(x:Zl):(jF x).length=32:=VG _ 8
def dF(w:Zy):Prop:=∀i,i<64->w.cell? (zq 4 i)=bO (zw<|Kc i)
def dF.below{w w':Zy}{B:Nat}(h:dF w)(a:4<B)(b:bC B w w'):dF w':=fun i c=>(b.cell (p:=zq 4 i) a).trans<|h i c
def dF.pos(h:dF w):4<w.heap.size:=qz<|h 0<|by decide
def AF{g:Nat}{l:Zl}(a:w.heap[g]?=bO (.cells (bv l).toArray 5 (0,0)))(k:Nat)(hk:64*k+64<=l.length):∀j,j<64->w.cell? (zq g<|64*k+j)=bO (zb<|u<|sG<|blk l k j):=by
 intro j b;rw[je _ _ _ _ _ _ a,xv0];have h:64*k+j<l.length:=by omega
 simp[bv,h,blk]
def F4{g:Nat}{s:St}(h:w.heap[g]?=bO (.cells #[zw s.a,zw s.b,zw s.c,zw s.d,zw s.e,zw s.f,zw s.g,zw s.h] 323 (0,0))):w.cell? (zq g 0)=bO (zw s.a)/\w.frozen? (zq g 0)=bK/\w.cell? (zq g 1)=bO (zw s.b)/\w.frozen? (zq g 1)=bK/\w.cell? (zq g 2)=bO (zw s.c)/\w.frozen? (zq g 2)=bK/\w.cell? (zq g 3)=bO (zw s.d)/\w.frozen? (zq g 3)=bK/\w.cell? (zq g 4)=bO (zw s.e)/\w.frozen? (zq g 4)=bK/\w.cell? (zq g 5)=bO (zw s.f)/\w.frozen? (zq g 5)=bK/\w.cell? (zq g 6)=bO (zw s.g)/\w.frozen? (zq g 6)=bK/\w.cell? (zq g 7)=bO (zw s.h)/\w.frozen? (zq g 7)=bK:=by
 refine⟨?_,jx _ _ _ _ _ h, ?_,jx _ _ _ _ _ h, ?_,jx _ _ _ _ _ h, ?_,jx _ _ _ _ _ h, ?_,jx _ _ _ _ _ h, ?_,jx _ _ _ _ _ h, ?_,jx _ _ _ _ _ h, ?_,jx _ _ _ _ _ h⟩
 all_goals (rw[je _ _ _ _ _ _ h];rfl)
structure yR(w:Zy)(l:Zl)(s:St)(wr:Zy):Prop where
 dI:bC w.heap.size w wr
 sz:w.heap.size+1<wr.heap.size
 b0:wr.heap[w.heap.size]?=bO (.cells #[zw s.a,zw s.b,zw s.c,zw s.d,zw s.e,zw s.f,zw s.g,zw s.h] 323 (0,0))
 b1:wr.heap[w.heap.size+1]?=bO (.cells (bv l).toArray 5 (0,0))
def yR.next{w w1 w2 w3:Zy}{l:Zl}{s:St}(h:yR w l s w1)(i:bC w1.drew.heap.size w1.drew w2)(j:bC w2.heap.size w2 w3)(t:St):yR w l t<|(((((((w3.setCell (zq w.heap.size 0)<|zw t.a).setCell (zq w.heap.size 1)<|zw t.b).setCell (zq w.heap.size 2)<|zw t.c).setCell (zq w.heap.size 3)<|zw t.d).setCell (zq w.heap.size 4)<|zw t.e).setCell (zq w.heap.size 5)<|zw t.f).setCell (zq w.heap.size 6)<|zw t.g).setCell (zq w.heap.size 7)<|zw t.h:=by
 have m:=zn h.sz i.size;have k:=h.dI.drew.trans<|i.mono h.dI.size;have n:=k.trans<|j.mono k.size;refine⟨QG _ _ _ _ _ _ _ _ _ _ _ _ (ze _) n,by rw[o7];exact zn m j.size, ?_, ?_⟩;exact XJ _ _ _ _ _ _ _ _ _ _ _ _ _ _ _ _ _ _ _<|(j.block _<|by omega).trans<|(i.block _<|by have:=h.sz;show w.heap.size<w1.heap.size;omega).trans h.b0;rw[QH _ _ _ _ _ _ _ _ _ _ _<|by omega];exact(j.block _ m).trans<|(i.block _<|by exact h.sz).trans h.b1
def xon(x:ByteArray)(hx:x.size<=60000)(w:Zy)(D:dF w):bE prog 234 #[.string x] w fun en w'=>en= .returned (.string ⟨(jF x.data.toList).toArray⟩)/\bC w.heap.size w w':=by
 have HT:=zl D;have B:=D.pos;clear D;have hp:=TH x.size;have o:64*(gB x.size/64)=gB x.size:=by unfold gB;omega
 obtain⟨c,E⟩:∃c,gB x.size/64=c:=⟨_,rfl⟩;rw[E]at o;have Y:(xN x.data.toList).length=64*c:=(Um x.data.toList 8<|by omega).trans o.symm;have HL:=zl Y;have Z:=zl E;have ba:64*c<=60072:=by omega
 go_enter func234.1,Tryz.ntmps234
 go_wp2_with fail
 refine(xnu x hx _).mono ?_;rintro en w1 ⟨rfl,r,m⟩;rw[<-o];clear o E Y hp
 go_wp2_with fail
 have q:yR w (xN x.data.toList) iv w1:=by
  have hz:w.heap.size<w1.heap.size:=zn (by simp) m.size;refine⟨((zr _ _).alloc (ze _) _).trans<|m.mono<|by simp, ?_,(m.block _<|by simp).trans ?_, ?_⟩;have:=(za.1 r).1;simpa using this;rw[jw];rfl;simpa using r
 clear r m
 go_loopw [5] (fun i wr=>∃k:Nat,k<=c/\i=zi (64*(k:Int))/\yR w (xN x.data.toList) (vY (xN x.data.toList) k) wr) (fun i _=>(64*(c:Int)-aJ i).toNat)
 case atStart=>exact⟨0,by omega,by go_num,q⟩
 case round=>
  clear q;obtain⟨k,hk,rfl,inv⟩:=hrel;have bt:=inv.sz;by_cases bk:k<c
  ·have i0:(0:Int)<=64*(k:Int):=by omega
   have i1:64*(k:Int)<64*(c:Int):=by omega
   have i2:64*(k:Int)+64<=64*(c:Int):=by omega
   have i3:(64*(k:Int)).toNat=64*k:=by omega
   have iw:IntKind.i64.wrap (64*(k:Int)+64)=64*(k:Int)+64:=by rw[xn];omega
   have p:w.heap.size<wr.heap.size:=by omega
   generalize hm:xN x.data.toList=l at*;have z:=AF inv.b1 k (by rw[HL.o];omega);have HM:=zl z;clear z;have C:=zl<|HT.o.below B inv.dI.drew;obtain⟨s,t⟩:∃s,vY l k=s:=⟨_,rfl⟩;rw[t]at inv;have v:=zl t;clear t;have bl:wr.cell? (zq w.heap.size 0)=bO (zw s.a):=by rw[je _ _ 0 _ _ _ inv.b0];rfl
   have bb:wr.frozen? (zq w.heap.size 0)=bK:=jx _ _ _ _ _ inv.b0;have bm:wr.cell? (zq w.heap.size 1)=bO (zw s.b):=by rw[je _ _ 1 _ _ _ inv.b0];rfl
   have bc:wr.frozen? (zq w.heap.size 1)=bK:=jx _ _ _ _ _ inv.b0;have bn:wr.cell? (zq w.heap.size 2)=bO (zw s.c):=by rw[je _ _ 2 _ _ _ inv.b0];rfl
   have bd:wr.frozen? (zq w.heap.size 2)=bK:=jx _ _ _ _ _ inv.b0;have bo:wr.cell? (zq w.heap.size 3)=bO (zw s.d):=by rw[je _ _ 3 _ _ _ inv.b0];rfl
   have be:wr.frozen? (zq w.heap.size 3)=bK:=jx _ _ _ _ _ inv.b0;have bp:wr.cell? (zq w.heap.size 4)=bO (zw s.e):=by rw[je _ _ 4 _ _ _ inv.b0];rfl
   have bf:wr.frozen? (zq w.heap.size 4)=bK:=jx _ _ _ _ _ inv.b0;have bq:wr.cell? (zq w.heap.size 5)=bO (zw s.f):=by rw[je _ _ 5 _ _ _ inv.b0];rfl
   have bg:wr.frozen? (zq w.heap.size 5)=bK:=jx _ _ _ _ _ inv.b0;have br:wr.cell? (zq w.heap.size 6)=bO (zw s.g):=by rw[je _ _ 6 _ _ _ inv.b0];rfl
   have bh:wr.frozen? (zq w.heap.size 6)=bK:=jx _ _ _ _ _ inv.b0;have bs:wr.cell? (zq w.heap.size 7)=bO (zw s.h):=by rw[je _ _ 7 _ _ _ inv.b0];rfl
   have bi:wr.frozen? (zq w.heap.size 7)=bK:=jx _ _ _ _ _ inv.b0
   go_wp2
   go_region_with (first
    |(go_at_call 264;refine(zu6 (blk l k) (w.heap.size+1) (64*k) _ _ ?_).mono ?_;exact HM.o;rintro en w2 ⟨rfl,j⟩;obtain⟨bu,b5,bv,b6,bw,b7,bx,b8,bz,b9,b2,ca,b3,cb,b4,cc⟩:=F4<|(j.block _ p).trans inv.b0;have F:=zn p j.size)
    |(go_at_call 263;refine(AD s (Wf<|blk l k) _ ?_).mono ?_;exact C.o.below (Nat.lt_trans B p) j;rintro en w3 ⟨rfl,n⟩;obtain⟨G,Q,H,R,I,S,J,T,K,U,L,V,M,W,O,X⟩:=F4<|(n.block _ F).trans<|(j.block _ p).trans inv.b0))
   all_goals go_wp2
   all_goals go_roundw
   case rel=>
    refine⟨k+1,by omega,by go_num, ?_⟩;show yR w l (Vt (vY l k) _) _;rw[v.o];exact inv.next j n _
   case measure=>simp[aJ];omega
   case rel=>
    refine⟨k+1,by omega,by go_num, ?_⟩;show yR w l (Vt (vY l k) _) _;rw[v.o];exact inv.next j n _
   case measure=>simp[aJ];omega
   case rel=>
    refine⟨k+1,by omega,by go_num, ?_⟩;show yR w l (Vt (vY l k) _) _;rw[v.o];exact inv.next j n _
   case measure=>simp[aJ];omega
  obtain rfl:k=c:=by omega
  obtain⟨s,t⟩:∃s,vY (xN x.data.toList) k=s:=⟨_,rfl⟩;rw[t]at inv;have v:Hid<|jF x.data.toList=sb s 8:=by show sb (vY (xN x.data.toList)<|gB x.size/64) 8=_;rw[Z.o,t]
  clear t;obtain⟨G,Q,H,R,I,S,J,T,K,U,L,V,M,W,O,X⟩:=F4 inv.b0;have y:=inv.dI;have bj:¬64*(k:Int)<64*(k:Int):=by omega
  go_wp2_with fail
  refine(zrp s _).mono ?_;rintro en w2 ⟨rfl,j⟩
  go_wp2_with fail
  go_ret
  exact⟨by rw[v.o];rfl,y.trans<|j.mono y.size⟩
def Yg{a b c:Zy}(h:bC a.heap.size a b)(k:bC b.heap.size b c):bC a.heap.size a c:=h.trans<|k.mono h.size
def st(l:Zl):ByteArray:=⟨l.toArray⟩
@[go_sem] abbrev zs(x:List UInt8):Value:= .string (st x)
def xe(l:Zl):(st l).size=l.length:=rfl
def xvp(x:ByteArray):st x.data.toList=x:=rfl
def zv(a b:Zl):st a++st b=st (a++b):=by
 apply IP;simp[st]
def yX(l:Zl)(b:l.length<=60000)(w:Zy)(a:dF w):bE prog 234 #[.string<|st l] w fun en w'=>en= .returned (.string<|st<|jF l)/\bC w.heap.size w w':=
 xon (st l) b w a
attribute [local go_sem] xe zv
def kc(l:Zl)(c:Z8):Zl:=(l++aM (64-l.length) 0).map (·^^^c)
def LK(l:Zl)(c:Z8)(h:l.length<=64):(kc l c).length=64:=by simp[kc];omega
def hm1(k x:Zl):Zl:=jF<|kc k 0x5c++jF (kc k 0x36++x)
def hk(k:Zl):Zl:=if 64<k.length then jF k else k
def V1(k x:Zl):Zl:=hm1 (hk k) x
def wP(k x:Zl):(V1 k x).length=32:=yM _
def LW(a c:Z8):bits .xor .u8 (a.toNat:Int) (c.toNat:Int)=((a^^^c).toNat:Int):=by
 show IntKind.u8.wrap ((BitVec.ofInt 8 (a.toNat:Int)^^^BitVec.ofInt 8 (c.toNat:Int)).toNat:Int)=_;have b:BitVec.ofInt 8 (a.toNat:Int)=a.toBitVec:=by simp
 have d:BitVec.ofInt 8 (c.toNat:Int)=c.toBitVec:=by simp
 rw[b,d];have h:=(a^^^c).toNat_lt;have e:(a.toBitVec^^^c.toBitVec).toNat=(a^^^c).toNat:=by simp
 rw[e];simp only[IntKind.wrap,IntKind.bits,IntKind.signed];generalize(a^^^c).toNat=q at*;simp;omega
def xk(L:Zl)(c:Z8)(k:Nat):Zl:=(L.take k).map (·^^^c)++L.drop k
def xwi(L:Zl)(c:Z8)(k:Nat)(h:k<L.length):(xk L c k)[k]?=bO L[k]:=by
 unfold xk;rw[Zx<|by simp;omega];simp[Vg<|Nat.le_of_lt h,h]
def xs0(L:Zl)(c:Z8)(k:Nat)(h:k<L.length):(xk L c k).set k (L[k]^^^c)=xk L c (k+1):=by
 unfold xk;rw[Wl _ _<|by simp;omega,xy h];simp only[Zb,xt,Vg<|Nat.le_of_lt h,V9,Jd,xq,DN,Zq]
 congr 1
 rw[Vd h,Z9,Wm]
def xsz(L:Zl)(c:Z8)(k:Nat)(h:L.length<=k):xk L c k=L.map (·^^^c):=by
 simp[xk,qj h,Yp h]
def E2(n:Nat):bv (aM n 0)=aM n (zb 0):=by simp[bv]
def QB(l:Zl)(v:l.length<=64)(c:Z8)(n:Int)(D:n=(c.toNat:Int))(w:Zy):bE prog 253 #[.string<|st l,zb n] w fun en w'=>en= .returned (.string<|st<|kc l c)/\bC w.heap.size w w':=by
 subst D;go_enter func253.1,Tryz.ntmps253
 go_wp2_with (refine PN rfl _ _ 163 9 rfl 5 underlying163 UA w.heap.size 0 _ _ (st l) rfl rfl _ 362 (jw _ _) ?c1 ?c2 w.heap.size w ?c3 (ze _) ?_)
 case c1=>rw[xe];exact v
 case c2=>simpa[xe]using v
 case c3=>exact(zr _ _).alloc (ze _) _
 intro w1 g f;obtain⟨L,p⟩:∃L,l++aM (64-l.length) 0=L:=⟨_,rfl⟩;have y:L.length=64:=by rw[<-p];simp;omega
 have m:w1.heap[w.heap.size]?=bO (.cells (bv<|xk L c 0).toArray 362 (0,0)):=by
  rw[g]
  congr 2
  rw[<-p];show _=(bv<|l++aM (64-l.length) 0).toArray;rw[g_];have e:([zb 0,zb 0,zb 0,zb 0,zb 0,zb 0,zb 0,zb 0,zb 0,zb 0,zb 0,zb 0,zb 0,zb 0,zb 0,zb 0,zb 0,zb 0,zb 0,zb 0,zb 0,zb 0,zb 0,zb 0,zb 0,zb 0,zb 0,zb 0,zb 0,zb 0,zb 0,zb 0,zb 0,zb 0,zb 0,zb 0,zb 0,zb 0,zb 0,zb 0,zb 0,zb 0,zb 0,zb 0,zb 0,zb 0,zb 0,zb 0,zb 0,zb 0,zb 0,zb 0,zb 0,zb 0,zb 0,zb 0,zb 0,zb 0,zb 0,zb 0,zb 0,zb 0,zb 0,zb 0]:Ze)=aM 64 (zb 0):=rfl;rw[e,List.drop_replicate,show Lib.byteCells (st l).data.toList=bv l from rfl,E2]
 have x:Hid (kc l c=L.map (·^^^c)):=by show(l++aM (64-l.length) 0).map _=_;rw[p]
 clear g p
 go_wp2
 go_loopw [10] (fun i wr=>∃k:Nat,k<=64/\i=zi k/\wr.heap[w.heap.size]?=bO (.cells (bv<|xk L c k).toArray 362 (0,0))/\bC w.heap.size w wr) (fun i _=>(64-aJ i).toNat)
 case atStart=>exact⟨0,by omega,rfl,m,f⟩
 case round=>
  clear m f;obtain⟨k,hk,rfl,d,r⟩:=hrel;by_cases C:k<64
  ·have o:k<L.length:=by omega
   obtain⟨a,q⟩:∃a,L[k]=a:=⟨_,rfl⟩;have E:wr.cell? (zq w.heap.size k)=bO (zb a.toNat):=by
    rw[je _ _ _ _ _ _ d];have:=xwi L c k o;simp only[bv,q8,List.getElem?_map,this,q];rfl
   have F:wr.frozen? (zq w.heap.size k)=bK:=jx _ _ _ _ _ d;have t:(wr.setCell (zq w.heap.size k)<|zb<|(a^^^c).toNat).heap[w.heap.size]?=bO (.cells (bv<|xk L c<|k+1).toArray 362 (0,0)):=by
    rw[qe _ _ _ _ _ _ d,xv,LH,<-q,xs0 L c k o]
   have s:bC w.heap.size w<|wr.setCell (zq w.heap.size k)<|zb<|(a^^^c).toNat:=r.setCell (ze _) _;have G:=LW a c;clear d r q;generalize a^^^c=b at*
   go_wp2
   go_roundw
   case rel=>exact⟨k+1,by omega,by go_num,t,s⟩
   case measure=>simp[aJ];omega
  obtain rfl:k=64:=by omega
  rw[xsz L c 64<|by omega,<-x.o]at d;have z:(convert 163 9<|.slice (bO ⟨w.heap.size,0,bN⟩) 64 64).run prog wr= .ok (.string<|st<|kc l c) wr:=by
   have h:=run_convert_bytes_back (P:=prog) wr 163 9 5 (zq w.heap.size 0) 64 (kc l c) underlying163 underlying5 underlying9 (fun j B=>by
    rw[Addr.add_mid,jy,je _ _ _ _ _ _ d];simp[bv,B])
   rw[LK l c v]at h;exact h
  clear d
  go_wp2
  go_ret
  exact⟨rfl,r⟩
def L8(k x:Zl)(q:k.length<=5000)(hx:x.length<=5000)(w:Zy)(i:dF w):bE prog 211 #[.string<|st k,.string<|st x] w fun en w'=>en= .returned (.string<|st<|V1 k x)/\bC w.heap.size w w':=by
 have g:=zl i;have b:=i.pos;clear i;by_cases n:64<k.length
 ·have p:(64:Int)<(k.length:Nat):=by omega
  have o:=yM k;have h:Hid<|V1 k x=hm1 (jF k) x:=by show hm1 (hk k) x=_;unfold hk;rw[aA n]
  go_enter func211.1,Tryz.ntmps211
  go_wp2_with fail
  refine(yX k (by omega) _ g.o).mono ?_;rintro en w1 ⟨rfl,c⟩
  go_wp2_with fail
  refine(QB (jF k) (by omega) 0x36 54 rfl _).mono ?_;rintro en r ⟨rfl,a⟩;have j:=LK (jF k) 0x36<|by omega
  go_wp2_with fail
  refine(yX (kc (jF k) 0x36++x) (by rw[zj];omega) _<|(g.o.below b c).below (zn b c.size) a).mono ?_;rintro en s ⟨rfl,d⟩
  go_wp2_with fail
  refine(QB (jF k) (by omega) 0x5c 92 rfl _).mono ?_;rintro en t ⟨rfl,e⟩;have l:=LK (jF k) 0x5c (by omega);have m:=yM<|kc (jF k) 0x36++x
  go_wp2_with fail
  refine(yX (kc (jF k) 0x5c++jF (kc (jF k) 0x36++x)) (by rw[zj];omega) _<|(((g.o.below b c).below (zn b c.size) a).below (zn b<|xz c.size a.size) d).below (zn b<|xz c.size<|xz a.size d.size) e).mono ?_;rintro en v ⟨rfl,f⟩
  go_wp2_with fail
  go_ret
  exact⟨by rw[h.o];rfl,Yg c<|Yg a<|Yg d<|Yg e f⟩
 have p:¬(64:Int)<(k.length:Nat):=by omega
 have h:Hid<|V1 k x=hm1 k x:=by show hm1 (hk k) x=_;unfold hk;rw[aB n]
 go_enter func211.1,Tryz.ntmps211
 go_wp2_with fail
 refine(QB k (by omega) 0x36 54 rfl _).mono ?_;rintro en r ⟨rfl,a⟩;have j:=LK k 0x36<|by omega
 go_wp2_with fail
 refine(yX (kc k 0x36++x) (by rw[zj];omega) _<|g.o.below b a).mono ?_;rintro en s ⟨rfl,d⟩
 go_wp2_with fail
 refine(QB k (by omega) 0x5c 92 rfl _).mono ?_;rintro en t ⟨rfl,e⟩;have l:=LK k 0x5c (by omega);have m:=yM<|kc k 0x36++x
 go_wp2_with fail
 refine(yX (kc k 0x5c++jF (kc k 0x36++x)) (by rw[zj];omega) _<|((g.o.below b a).below (zn b a.size) d).below (zn b<|xz a.size d.size) e).mono ?_;rintro en v ⟨rfl,f⟩
 go_wp2_with fail
 go_ret
 exact⟨by rw[h.o];rfl,Yg a<|Yg d<|Yg e f⟩
def xpv(k x:Zl)(d:k.length<=4096)(hx:x.length<=4096)(w:Zy)(a:dF w):bE prog 207 #[.string<|st k,.string<|st x] w fun en w'=>en= .returned (.tuple #[.string<|st<|V1 k x,zi 0])/\bC w.heap.size w w':=by
 have b:=zl a;clear a;have e:¬(4096:Int)<(k.length:Nat):=by omega
 have f:¬(4096:Int)<(x.length:Nat):=by omega
 go_enter func207.1,Tryz.ntmps207
 go_wp2_with fail
 refine(L8 k x (by omega) (by omega) _ b.o).mono ?_;rintro en w1 ⟨rfl,c⟩
 go_wp2_with fail
 go_ret2
 exact⟨rfl,c⟩
end
end P
namespace P
open A.Tryq Go.RowKit
attribute [local go_sem] xe zv
def hd(n:Nat):Z8:=UInt8.ofNat (if n<10 then 48+n else 87+n)
def Ge(v:Z8)(w:Zy):(convert 163 9<|.slice (bO ⟨w.heap.size,0,bN⟩) 1 1).run prog (w.alloc<|.cells #[zb v.toNat] 5)= .ok (.string<|st [v]) (w.alloc<|.cells #[zb v.toNat] 5):=by
 have h:=run_convert_bytes_back (P:=prog) (w.alloc<|.cells #[zb v.toNat] 5) 163 9 5 (zq w.heap.size 0) 1 [v] underlying163 underlying5 underlying9 (fun j a=>by
  rw[Addr.add_mid,jy,je _ _ _ _ _ _<|jw _ _];obtain rfl:j=0:=by simpa using a
  rfl)
 exact h
end P
namespace P
open A.Tryq Go.RowKit
section
variable {base e size:Nat}
def xsn(l:Zl)(n:Nat):(st l).extract 0 n=st (l.take n):=by
 apply IP;simp[st]
attribute [local go_sem] xe zv xsn
def bk(key info:Zl):Nat->Zl
 |0=>[]
 |k+1=>V1 key<|bk key info k++(info++[bq<|k+1])
def pW(key info:Zl):Nat->Zl
 |0=>[]
 |k+1=>pW key info k++bk key info (k+1)
def xqh(key a:Zl):∀k,(bk key a k).length<=32
 |0=>by simp[bk]
 |k+1=>by rw[bk,wP];decide
def M8(key a:Zl):∀k,(pW key a k).length=32*k
 |0=>rfl
 |k+1=>by rw[pW,zj,M8 key a k,bk,wP];omega
def vZ(key info:Zl)(n:Nat):Zl:=(pW key info 8).take n
def cA(key a:Zl)(n k:Nat)(b:n<=32*k):∀j,(pW key a<|k+j).take n=(pW key a k).take n
 |0=>rfl
 |j+1=>by
  rw[<-Ja,pW,X8<|by rw[M8];omega];exact cA key a n k b j
def xq0(key a:Zl)(n k:Nat)(hk:k<=8)(b:n<=32*k):(pW key a k).take n=vZ key a n:=by
 have:=cA key a n k b<|8-k;rw[show k+(8-k)=8 by omega]at this;exact this.symm
def SQ(key a:Zl)(n:Nat)(h:n<=255):(vZ key a n).length=n:=by
 rw[vZ,xt,M8];omega
def Rx(n:Int)(v:Z8)(a:n=(v.toNat:Int))(w:Zy):(convert 163 9<|.slice (bO ⟨w.heap.size,0,bN⟩) 1 1).run prog (w.alloc<|.cells #[zb n] 5)= .ok (.string<|st [v]) (w.alloc<|.cells #[zb n] 5):=by
 subst a;exact Ge v w
def Jh{w:Zy}{v:Zv}{n:Nat}{xs:Ze}(h:w.ownsRow base e size v n xs):∃a cap,v= .slice a n cap/\n<=cap:=by
 rcases h.2 with⟨c,d⟩|⟨g,cap,b,i,_,_,f,_⟩;exact⟨bN,0,by rw[c,d],by omega⟩;exact⟨_,_,i,f⟩
def ZO{w w2:Zy}{v:Zv}{n:Nat}{xs:Ze}(h:w.ownsRow base e size v n xs)(f:bC w.heap.size w w2):w2.ownsRow base e size v n xs:=by
 refine⟨h.1, ?_⟩;rcases h.2 with d|⟨g,a,b,j,i,c,r⟩
 exact .inl d;exact .inr ⟨g,a,b,j,i,(f.block g (za.1 c).1).trans c,r⟩
def Vs{w:Zy}{v:Zv}{n:Nat}{xs:Ze}(h:w.ownsRow base e size v n xs):∀q,v.ownBlock=bO q->base<=q:=by
 intro q a;rcases h.2 with⟨d,_⟩|⟨g,b,c,i,f,_⟩
 rw[d]at a;cases a;rw[i]at a;cases a;exact f
def RM{w:Zy}{base:Nat}{a:Option Addr}{n cap m:Nat}{l:Zl}(h:w.ownsRow base 5 1 (.slice a n cap) n<|bv l)(r:m<=n):(convert 163 9<|.slice a m cap).run prog w= .ok (zs<|l.take m) w:=by
 have q:l.length=n:=by have:=h.1;simpa[Wn]using this
 cases a with
 |none=>
  rcases h.2 with⟨f,k⟩|⟨g,b,c,d,_⟩;obtain rfl:m=0:=by omega
  rw[run_convert_bytes_string w 163 9 5 bN 0 cap underlying163 underlying5 underlying9];rfl;cases d
 |some ad=>
  rcases h.2 with⟨f,k⟩|⟨g,b,c,d,_⟩;cases f;have e:ad=(zq g 0):=by cases d;rfl
  subst e;have p:=(Ol h).2;have i:=run_convert_bytes_back (P:=prog) w 163 9 5 (zq g 0) cap (l.take m) underlying163 underlying5 underlying9 (fun j o=>by
   rw[xt]at o;rw[p j<|by omega];simp)
  rw[xt,Vg<|by omega]at i;exact i
def zz5(key c:Zl)(G:key.length<=64)(t:c.length<=4063)(n:Nat)(V:n<=255)(w:Zy)(r:dF w):bE prog 210 #[.string<|st key,.string<|st c,.int .i64 n] w fun en w'=>en= .returned (.string<|st<|vZ key c n)/\bC w.heap.size w w':=by
 have I:=zl r;have y:=r.pos;clear r;obtain⟨S,O,z,C,D⟩:=VX;go_enter func210.1,Tryz.ntmps210
 go_wp2
 go_loopw [7,8,9] (fun v b q wr=>∃k:Nat,k<=8/\q= .int .u8 ((k:Int)+1)/\b= .string (st<|bk key c k)/\wr.ownsRow w.heap.size 5 1 v (32*k) (bv<|pW key c k)/\bC w.heap.size w wr) (fun _ _ q _=>(9-aJ q).toNat)
 case atStart=>exact⟨0,by omega,rfl,rfl,Vl _ _ _ _,zr _ _⟩
 case round=>
  obtain⟨k,hk,rfl,rfl,d,m⟩:=hrel;obtain⟨a,h,rfl,F⟩:=Jh d;by_cases Q:32*k<n
  ·have R:(32*(k:Int))<(n:Nat):=by omega
   have L:=xqh key c k;have p:=Rx ((k:Int)+1) (bq<|k+1) (by simp[bq];omega);have H:=zl d;have E:Hid<|bk key c (k+1)=V1 key (bk key c k++(c++[bq<|k+1])):=rfl;clear d;generalize bk key c k=B at*;have g:=wP key<|B++(c++[bq<|k+1])
   go_wp2_with fail
   refine(L8 key (B++(c++[bq<|k+1])) (by omega) (by simp;omega) _ ?tab).mono ?_
   case tab=>exact I.o.below y<|m.alloc m.size _
   rintro en Y ⟨rfl,i⟩;have e:=(m.alloc m.size<|.cells #[.int .u8<|(k:Int)+1] 5).trans (i.mono<|xz m.size<|by simp);have j:=ZO (H.o.alloc _) i;rw[<-E.o];have o:(bk key c<|k+1).length=32:=by rw[E.o];exact g
   clear g p i
   go_wp2_with (refine Lib.wpList_append_own_string _ rfl _ _ 163 9 rfl w.heap.size 5 S underlying163 underlying9 O z C D _ (32*k) (bv<|pW key c k) rfl j (st<|bk key c<|k+1) rfl ?c1 ?c2 ?c3 ?_)
   case c1=>rw[xe,o];unfold maxLen;omega
   case c2=>rw[xe,o];omega
   case c3=>exact e.size
   intro T U l f _;have s:=e.grown f e.size<|Vs j;have x:U.ownsRow w.heap.size 5 1 T (32*(k+1))<|bv<|pW key c<|k+1:=by
    have J:32*k+32=32*(k+1):=by omega
    have K:bv (pW key c k)++Lib.strCells (st<|bk key c<|k+1)=bv (pW key c<|k+1):=by rw[pW,g_];rfl
    rw[J,K]at l;exact l
   clear l j f e
   go_wp2
   go_roundw
   case rel=>exact⟨k+1,by omega,by go_num,rfl,x,s⟩
   case measure=>simp[aJ];omega
  have R:¬(32*(k:Int))<(n:Nat):=by omega
  have W:n<=h:=by omega
  have X:(n:Int)<=(h:Nat):=by omega
  have M:(convert 163 9<|.slice a n h).run prog wr= .ok (.string<|st<|vZ key c n) wr:=by
   rw[RM d<|by omega,xq0 key c n k hk<|by omega]
  go_wp2
  go_ret
  exact⟨rfl,m⟩
def CD(a b c:Zl)(k:a.length<=4096)(l:b.length<=4096)(i:c.length<=4063)(n:Nat)(j:n<=255)(w:Zy)(e:dF w):
  bE prog 161 #[.string<|st a,.string<|st b,.string<|st c,.int .i64 n] w fun en w'=>en= .returned (.tuple #[.string<|st<|vZ (V1 b a) c n,.int .i64 0])/\bC w.heap.size w w':=by
 have h:=zl e;have g:=e.pos;clear e;have j1:¬(4096:Int)<(a.length:Nat):=by omega
 have j2:¬(4096:Int)<(b.length:Nat):=by omega
 have j3:¬(4063:Int)<(c.length:Nat):=by omega
 have j4:¬(n:Int)<0:=by omega
 have j5:¬(255:Int)<(n:Nat):=by omega
 go_enter func161.1,Tryz.ntmps161
 go_wp2_with fail
 refine(L8 b a (by omega) (by omega) _ h.o).mono ?_;rintro en w1 ⟨rfl,d⟩;have m:=wP b a
 go_wp2_with fail
 refine(zz5 (V1 b a) c (by omega) i n j _<|h.o.below g d).mono ?_;rintro en o ⟨rfl,f⟩
 go_wp2_with fail
 go_ret2
 exact⟨rfl,Yg d f⟩
def VZ(c:Int)(n:Nat)(d:0<n)(f:n<=100000)(g:-9223372036854775808<=c)(h:c<=9223372036854775807)(w:Zy):
  bE prog 22 #[zi c,zi n] w fun en w'=>(∃p:Nat,p<n/\en= .returned (zi p))/\w'=w:=by
 by_cases i:c<0
 ·have e:-((c+1).tmod (n:Int))=(((-(c+1)).toNat%n:Nat):Int):=by
   obtain⟨m,b⟩:∃m:Nat,-(c+1)=m:=⟨(-(c+1)).toNat,by omega⟩;rw[b,Wt,show c+1= -(m:Int) by omega,Int.neg_tmod,Int.neg_neg,Js<|by omega];rfl
  have a:=zl e;clear e;go_enter func22.1,Tryz.ntmps22
  go_wp2
  go_ret
  exact⟨⟨(-(c+1)).toNat%n,Nat.mod_lt _ d,congrArg (fun z:Int=>aP<|zi z) a.o⟩,rfl⟩
 have e:c%(n:Int)=((c.toNat%n:Nat):Int):=by
  obtain⟨m,b⟩:∃m:Nat,c=m:=⟨c.toNat,by omega⟩;rw[b,Wt];rfl
 have a:=zl e;clear e;go_enter func22.1,Tryz.ntmps22
 go_wp2
 go_ret
 exact⟨⟨c.toNat%n,Nat.mod_lt _ d,congrArg (fun z:Int=>aP<|zi z) a.o⟩,rfl⟩
end
end P
namespace P
open Go.RowKit
attribute [local go_sem] yY EW oG EU EX xe zv
attribute [local go_sem] Cz Ez Cv Dc Cq Di Cy Fb Cw Db Ey Dj Cx Ep Cs Df Cu De Cr Dh
def Zk(l:Zl):Nat:=l.foldl (fun n b=>n*256+b.toNat) 0
def a9(l:Zl)(b:Z8):Zk (l++[b])=Zk l*256+b.toNat:=by simp[Zk]
def Uj:∀(l:Zl) (n:Nat),l.foldl (fun n b=>n*256+b.toNat) n<(n+1)*256^l.length
 |[],n=>by simp
 |b::r,n=>by
  have a:=b.toNat_lt;have h:=Uj r<|n*256+b.toNat;rw[J4,zh,DR];refine zn h ?_;rw[Nat.mul_comm (256^r.length) 256,<-Nat.mul_assoc];exact Nat.mul_le_mul_right _<|by omega
def LF(l:Zl):Zk l<256^l.length:=by
 have:=Uj l 0;simpa[Zk]using this
def xnt(q:Nat)(b:Z8)(e:q<281474976710656):bits .or .i64 ((q:Int)*256) (b.toNat:Int)=((q*256+b.toNat:Nat):Int):=by
 have d:=b.toNat_lt;show IntKind.i64.wrap ((BitVec.ofInt 64 ((q:Int)*256)|||BitVec.ofInt 64 (b.toNat:Int)).toNat:Int)=_;have a:(BitVec.ofInt 64<|(q:Int)*256).toNat=2^8*q:=by
  rw[show((q:Int)*256)=((2^8*q:Nat):Int) by omega,BitVec.ofInt_natCast,BitVec.toNat_ofNat,PZ<|by omega]
 have c:(BitVec.ofInt 64 (b.toNat:Int)).toNat=b.toNat:=by
  rw[BitVec.ofInt_natCast,BitVec.toNat_ofNat,PZ<|by omega]
 rw[BitVec.toNat_or,a,c,<-Nat.two_pow_add_eq_or_of_lt<|by omega];rw[xn];omega
end P
namespace P
open A.Tryq Go.RowKit
attribute [local go_sem] xe zv
section
variable {tv:Zv}
structure xb(S:ZP)(w w':Zy):Prop where
 os:w'.os=w.os
 output:w'.output=w.output
 size:w.heap.size<=w'.heap.size
 block:∀k,k<w.heap.size->¬S k->w'.heap[k]?=w.heap[k]?
theorem xb.refl(S:ZP)(w:Zy):xb S w w:=⟨rfl,rfl,ze _,fun _ _ _=>rfl⟩
def xb.trans{S:ZP}{a b c:Zy}(h:xb S a b)(k:xb S b c):xb S a c:=⟨k.os.trans h.os,k.output.trans h.output,xz h.size k.size,fun i d e=>(k.block i (zn d h.size) e).trans<|h.block i d e⟩
def xb.mono{S S':ZP}{a b:Zy}(h:xb S a b)(k:∀x,S x->S' x):xb S' a b:=⟨h.os,h.output,h.size,fun i c d=>h.block i c fun x=>d<|k i x⟩
def xb.of_below{S:ZP}{w w':Zy}(h:bC w.heap.size w w'):xb S w w':=⟨h.os,h.output,h.size,fun k hk _=>h.block k hk⟩
def xb.cell{S:ZP}{w w':Zy}(h:xb S w w'){p:Addr}{v:Zv}(b:¬S p.block)(a:w.cell? p=bO v):w'.cell? p=bO v:=
 (Zm (w:=w)<|h.block p.block (qz a) b).trans a
def xb.re{S:ZP}{w w':Zy}{t:Nat->Question->Nat}{d:Nat}(h:xb S w<|A.re w' t d):xb S w w':=⟨h.os,h.output,h.size,h.block⟩
def yN(l:Zl)(n:Nat):(st l).extract 0 n=st (l.take n):=by
 apply IP;simp[st]
def J_(l:Zl)(n:Nat):(st l).extract n l.length=st (l.drop n):=by
 apply IP;simp only[st,ByteArray.data_extract,List.extract_toArray,XQ];rw[qj<|by simp]
def YN(w:Zy):bE prog 164 #[.bool true] w fun e w'=>e= .returned (.tuple #[])/\w'=w:=by
 go_enter func164.1,Tryz.ntmps164
 go_wp2
 go_end0
 exact⟨rfl,rfl⟩
def Wh(tv:Zv)(w:Zy):Prop:=∃t x,tv= .iface t x/\w.cell? (zq 1 0)=bO tv
abbrev eF(tv:Zv):Ending:= .panicked [{v:=tv,recovered:=bK}]
def Ll(w:Zy)(a:Wh tv w):bE prog 164 #[.bool bK] w fun e w'=>e=eF tv/\w'=w:=by
 obtain⟨t,x,rfl,a⟩:=a;go_enter func164.1,Tryz.ntmps164
 go_wp2
 exact⟨rfl,rfl,rfl⟩
def LV(n:Nat)(w:Zy):bE prog 153 #[zi n] w fun e w'=>e= .returned (zs<|nb n 1)/\bC w.heap.size w w':=by
 have c:IntKind.u8.wrap (n:Int)=((bq n).toNat:Int):=by simp[IntKind.wrap,IntKind.bits,IntKind.signed,bq]
 have a:=Rx ((bq n).toNat:Int) (bq n) rfl;have b:Hid<|nb n 1=[bq n]:=by show _=_;simp[nb]
 go_enter func153.1,Tryz.ntmps153
 go_wp2
 go_ret
 exact⟨by rw[b.o];rfl,(zr _ _).alloc (ze _) _⟩
def NG(m:Int)(n:Nat)(h:m=(n:Int))(w:Zy):bE prog 153 #[zi m] w fun e w'=>e= .returned (zs<|nb n 1)/\bC w.heap.size w w':=by subst h;exact LV n w
def xrp(n:Nat):nb n 1=[bq n]:=by simp[nb]
def xrq(n:Nat):nb n 2=nb (n/256) 1++nb n 1:=by simp[nb]
def xnh(n:Nat):nb n 4=nb (n/65536) 2++nb n 2:=by
 simp only[nb,Nat.pow_zero,Nat.pow_one,XY,Nat.div_one,jc,jk]
def RV(n:Nat)(w:Zy):bE prog 154 #[zi n] w fun e w'=>e= .returned (zs<|nb n 2)/\bC w.heap.size w w':=by
 have c:=zl<|xrq n;go_enter func154.1,Tryz.ntmps154
 go_wp2_with fail
 refine(NG _ (n/256) (by omega) _).mono ?_;rintro e w1 ⟨rfl,a⟩
 go_wp2_with fail
 refine(NG _ n rfl _).mono ?_;rintro e d ⟨rfl,b⟩
 go_wp2_with fail
 go_ret
 exact⟨by rw[c.o];rfl,Yg a b⟩
def Ii(m:Int)(n:Nat)(h:m=(n:Int))(w:Zy):bE prog 154 #[zi m] w fun e w'=>e= .returned (zs<|nb n 2)/\bC w.heap.size w w':=by subst h;exact RV n w
def Cn(n:Nat)(w:Zy):bE prog 155 #[zi n] w fun e w'=>e= .returned (zs<|nb n 4)/\bC w.heap.size w w':=by
 have c:=zl<|xnh n;go_enter func155.1,Tryz.ntmps155
 go_wp2_with fail
 refine(Ii _ (n/65536) (by omega) _).mono ?_;rintro e w1 ⟨rfl,a⟩
 go_wp2_with fail
 refine(Ii _ n rfl _).mono ?_;rintro e d ⟨rfl,b⟩
 go_wp2_with fail
 go_ret
 exact⟨by rw[c.o];rfl,Yg a b⟩
def XK(m:Int)(n:Nat)(h:m=(n:Int))(w:Zy):bE prog 155 #[zi m] w fun e w'=>e= .returned (zs<|nb n 4)/\bC w.heap.size w w':=by subst h;exact Cn n w
def Yb(h:Bool)(a:h=true)(w:Zy):bE prog 164 #[.bool h] w fun e w'=>e= .returned (.tuple #[])/\w'=w:=by subst a;exact YN w
def Xu(h:Bool)(b:h=bK)(w:Zy)(a:Wh tv w):bE prog 164 #[.bool h] w fun e w'=>e=eF tv/\w'=w:=by subst b;exact Ll w a
def xos(b:Nat)(l:Zl)(n:Nat)(f:n<=l.length)(w:Zy)(c:w.cell? ⟨b,0,bN⟩=bO (.string<|st l))(d:w.frozen? ⟨b,0,bN⟩=bK):bE prog 165 #[.pointer<|bO ⟨b,0,bN⟩,.int .i64 n] w fun e w'=>e= .returned (.string<|st<|l.take n)/\w'=w.setCell ⟨b,0,bN⟩ (.string<|st<|l.drop n):=by
 have a:(n:Int)<=(l.length:Nat):=by omega
 go_enter func165.1,Tryz.ntmps165
 go_wp2_with fail
 refine(Yb _ (by simp) _).mono ?_;rintro e w1 ⟨rfl,rfl⟩
 go_wp2_with fail
 go_ret
 exact⟨by rw[<-yN];rfl,by rw[<-J_]⟩
def Lw(b:Nat)(l:Zl)(n:Nat)(f:l.length<n)(w:Zy)(d:w.cell? (zq b 0)=bO (zs l))(a:Wh tv w):bE prog 165 #[zo b,zi n] w fun e w'=>e=eF tv/\w'=w:=by
 have c:¬(n:Int)<=(l.length:Nat):=by omega
 go_enter func165.1,Tryz.ntmps165
 go_wp2_with fail
 refine(Xu _ (by simp) _ a).mono ?_;rintro e w1 ⟨rfl,rfl⟩;exact⟨rfl,rfl,rfl⟩
def Gb(b:Nat)(l:Zl)(m:Int)(n:Nat)(d:m=(n:Int))(f:n<=l.length)(w:Zy)(a:w.cell? (zq b 0)=bO (zs l))(c:w.frozen? (zq b 0)=bK):bE prog 165 #[zo b,zi m] w fun e w'=>e= .returned (zs<|l.take n)/\w'=w.setCell (zq b 0) (zs<|l.drop n):=by subst d;exact xos b l n f w a c
def Ga(b:Nat)(l:Zl)(m:Int)(n:Nat)(d:m=(n:Int))(f:l.length<n)(w:Zy)(c:w.cell? (zq b 0)=bO (zs l))(a:Wh tv w):bE prog 165 #[zo b,zi m] w fun e w'=>e=eF tv/\w'=w:=by subst d;exact Lw b l n f w c a
end
end P
namespace P
open Go.RowKit
attribute [local go_sem] yY EW oG EU EX xe zv Fa Da
def Vk.drewN{w wr:Zy}{C:Za}(h:Vk w C wr)(n:Nat):Vk w C<|wr.drewN n:=⟨below_drewN h.dI n,h.sz,h.b0,h.b1⟩
def Vk.put{w wr:Zy}{C:Za}(h:Vk w C wr)(k:Nat)(v:Zv):Vk w (C.setIfInBounds k v)<|wr.setCell (zq (w.heap.size+1) k) v:=by
 refine⟨(h.dI).setCell (by show w.heap.size<=w.heap.size+1;omega) _,by simpa[aF]using h.sz, ?_,qe _ _ _ _ _ _ h.b1⟩;rw[jq _ _ _ _<|by show w.heap.size≠w.heap.size+1;omega];exact h.b0
end P
namespace P
open Go.RowKit
attribute [local go_sem] yY EW oG EU EX xe zv
section
variable {W:Nat→Z3}
def zD(w:Zy):Prop:=∀i,i<64->w.cell? (zq 2 i)=bO (zw<|Kc i)
def zD.below{w w':Zy}{B:Nat}(h:zD w)(a:2<B)(b:bC B w w'):zD w':=fun i c=>(b.cell (p:=zq 2 i) a).trans<|h i c
def zD.pos{w:Zy}(h:zD w):2<w.heap.size:=qz<|h 0<|by decide
structure yK(w:Zy)(b2 b3:Nat)(W:Nat->Z3)(C D:Za)(wr:Zy):Prop where
 dI:bC w.heap.size w wr
 sz:b3<wr.heap.size
 UR:w.heap.size+1<b2
 UT:b2<b3
 h0:wr.heap[w.heap.size]?=bO (.cells D 323 (0,0))
 h1:wr.heap[w.heap.size+1]?=bO (.cells #[zu 0,zu 0,zu 0,zu 0,zu 0,zu 0,zu 0,zu 0] 323 (0,0))
 h2:wr.heap[b2]?=bO (.cells (wv W).toArray 336 (0,0))
 h3:wr.heap[b3]?=bO (.cells C 323 (0,0))
def yK.start{w w1:Zy}{s:St}(i:bC w.heap.size w w1)(j:w.heap.size+1<w1.heap.size)(k:w1.heap[w.heap.size]?=bO (.cells #[zw s.a,zw s.b,zw s.c,zw s.d,zw s.e,zw s.f,zw s.g,zw s.h] 323 (0,0)))(l:w1.heap[w.heap.size+1]?=bO (.cells #[zu 0,zu 0,zu 0,zu 0,zu 0,zu 0,zu 0,zu 0] 323 (0,0))):
  yK w w1.heap.size (w1.heap.size+1) W #[zw s.a,zw s.b,zw s.c,zw s.d,zw s.e,zw s.f,zw s.g,zw s.h] #[zw s.a,zw s.b,zw s.c,zw s.d,zw s.e,zw s.f,zw s.g,zw s.h] ((w1.alloc<|.cells (wv W).toArray 336).alloc<|.cells #[zw s.a,zw s.b,zw s.c,zw s.d,zw s.e,zw s.f,zw s.g,zw s.h] 323):=by
 refine⟨(i.alloc i.size _).alloc (by have:=i.size;simp;omega) _,by simp,j,by omega, ?_, ?_,heap_alloc2_old _ _ _,heap_alloc2_new _ _ _⟩;rw[qy _ _ _<|by simp;omega,qy _ _ _<|by omega];exact k;rw[qy _ _ _<|by simp;omega,qy _ _ _<|by omega];exact l
def yK.put{w wr:Zy}{b2 b3:Nat}{C D:Za}(h:yK w b2 b3 W C D wr)(k:Nat)(v:Zv):yK w b2 b3 W C (D.setIfInBounds k v)<|wr.drew.setCell (zq w.heap.size k) v:=by
 have l1:=h.UR;have a:=h.UT;refine⟨(h.dI.drew).setCell (ze _) _,by simpa[aF]using h.sz,h.UR,h.UT,qe _ _ _ _ _ _ h.h0, ?_, ?_, ?_⟩;rw[jq _ _ _ _<|by show w.heap.size+1≠w.heap.size;omega];exact h.h1;rw[jq _ _ _ _<|by show b2≠w.heap.size;omega];exact h.h2;rw[jq _ _ _ _<|by show b3≠w.heap.size;omega];exact h.h3
def yK.drewN{w wr:Zy}{b2 b3:Nat}{C D:Za}(h:yK w b2 b3 W C D wr)(n:Nat):yK w b2 b3 W C D<|wr.drewN n:=
 ⟨below_drewN h.dI n,h.sz,h.UR,h.UT,h.h0,h.h1,h.h2,h.h3⟩
structure DJ(w wc:Zy)(s:St)(wr:Zy):Prop where
 dI:bC w.heap.size w wr
 sz:wc.heap.size<wr.heap.size
 VD:w.heap.size<=wc.heap.size
 b0:wr.heap[wc.heap.size]?=bO (.cells #[zw s.a,zw s.b,zw s.c,zw s.d,zw s.e,zw s.f,zw s.g,zw s.h] 323 (0,0))
def DJ.next{w wc w1 w3:Zy}{s:St}(h:DJ w wc s w1)(i:bC w1.drew.heap.size w1.drew w3)(t:St):DJ w wc t<|(((((((w3.setCell (zq wc.heap.size 0)<|zw t.a).setCell (zq wc.heap.size 1)<|zw t.b).setCell (zq wc.heap.size 2)<|zw t.c).setCell (zq wc.heap.size 3)<|zw t.d).setCell (zq wc.heap.size 4)<|zw t.e).setCell (zq wc.heap.size 5)<|zw t.f).setCell (zq wc.heap.size 6)<|zw t.g).setCell (zq wc.heap.size 7)<|zw t.h:=by
 have k:wc.heap.size<w3.heap.size:=zn h.sz i.size;have j:bC w.heap.size w w3:=h.dI.drew.trans<|i.mono h.dI.size;refine⟨QG _ _ _ _ _ _ _ _ _ _ _ _ h.VD j,by rw[o7];exact k,h.VD, ?_⟩;exact XJ _ _ _ _ _ _ _ _ _ _ _ _ _ _ _ _ _ _ _<|(i.block _<|by exact h.sz).trans h.b0
def DJ.more{w wc w1 w3:Zy}{s:St}(h:DJ w wc s w1)(a:bC w1.heap.size w1 w3):DJ w wc s w3:=
 ⟨h.dI.trans<|a.mono h.dI.size,zn h.sz a.size,h.VD,(a.block _ h.sz).trans h.b0⟩
end
end P
namespace P
open A.Tryq Go.RowKit
attribute [local go_sem] xe zv
section
variable {wr:Zy}
def zD.then{w w':Zy}(h:zD w)(a:bC w.heap.size w w'):zD w':=h.below h.pos a
structure vM(w:Zy)(L:Zl)(Z:Ze)(wr:Zy):Prop where
 dI:bC w.heap.size w wr
 b0:wr.heap[w.heap.size]?=bO (.cells (bv L++Z).toArray 5 ((bv L++Z).length,(bv L++Z).length+1))
def vM.sz{w:Zy}{L:Zl}{Z:Ze}(h:vM w L Z wr):w.heap.size<wr.heap.size:=(za.1 h.b0).1
def vM.cell{w:Zy}{L:Zl}{Z:Ze}(h:vM w L Z wr)(k:Nat)(a:Z8)(b:L[k]?=bO a):wr.cell? (zq w.heap.size k)=bO (zb a.toNat):=by
 rw[je _ _ _ _ _ _ h.b0];have hk:k<L.length:=(XR.1 b).1;rw[q8,Z2<|by rw[Wn];exact hk];simp[bv,b]
def vM.frozen{w:Zy}{L:Zl}{Z:Ze}(h:vM w L Z wr)(k:Nat)(hk:k<L.length):wr.frozen? (zq w.heap.size k)=bK:=by
 unfold World.frozen?;rw[h.b0];have:¬(bv L++Z).length<=k:=by rw[zj,Wn];omega
 simp only[this,decide_false,W7]
def vM.set{w:Zy}{L:Zl}{Z:Ze}(h:vM w L Z wr)(k:Nat)(hk:k<L.length)(a:Z8):vM w (L.set k a) Z<|wr.setCell (zq w.heap.size k)<|zb a.toNat:=by
 refine⟨h.dI.setCell (ze _) _, ?_⟩;rw[setCell_eq_setRow _ _ _ _ _ _ _ h.b0,Yv _ _ _ _ _ _ h.b0];rw[xv,List.set_append_left _ _<|by rw[Wn];exact hk,LH]
 congr 2
 simp[Wn]
def AS(k x:Zl)(a:k.length<=4096)(hx:4096<x.length)(w:Zy):bE prog 207 #[zs k,zs x] w fun en w'=>en= .returned (.tuple #[.string<|st [],zi 1])/\w'=w:=by
 have b:¬(4096:Int)<(k.length:Nat):=by omega
 have c:(4096:Int)<(x.length:Nat):=by omega
 go_enter func207.1,Tryz.ntmps207
 go_wp2_with fail
 go_ret2
 exact⟨rfl,rfl⟩
def QP(b:Nat)(l:Zl)(n:Nat)(S:n<=6)(D:n<=l.length)(w:Zy)(B:w.cell? (zq b 0)=bO (zs l))(C:w.frozen? (zq b 0)=bK):bE prog 166 #[zo b,zi n] w fun e w'=>e= .returned (zi (Zk (l.take n):Nat))/\bC w.heap.size (w.setCell (zq b 0)<|zs<|l.drop n) w':=by
 obtain⟨W,f⟩:∃W,w.setCell (zq b 0) (zs<|l.drop n)=W:=⟨_,rfl⟩;have o:W.heap.size=w.heap.size:=by rw[<-f];simp
 obtain⟨m,r⟩:∃m,l.take n=m:=⟨_,rfl⟩;have M:m.length=n:=by rw[<-r,xt];omega
 have h:=run_bytes_of_string (P:=prog) W 9 163 5 (st m) underlying9 underlying163 underlying5;obtain⟨a,d⟩:∃a,grownCap W (st m).size 0 5=a:=⟨_,rfl⟩;rw[d,xe]at h;have L:m.length<=a:=by rw[<-d];exact grownCap_ge W _ _ _
 obtain⟨Z,z⟩:∃Z:Ze,bytesRow (st m) a=(bv m++Z).toArray:=⟨aM (a-m.length)<|zb 0,by
  unfold bytesRow;rw[xe];apply Array.toList_inj.1;simp[bv,st]⟩
 rw[z]at h;have inv:vM W m Z<|W.drew.alloc<|.cells (bv m++Z).toArray 5 ((bv m++Z).toArray.size,(bv m++Z).toArray.size+1):=
  ⟨((zr _ _).drew).alloc (ze _) _,jw W.drew _⟩
 clear d z;generalize(W.drew.alloc<|.cells (bv m++Z).toArray 5 ((bv m++Z).toArray.size,(bv m++Z).toArray.size+1))=w1 at*;have F:Hid<|bC w.heap.size W w1:=by show bC _ _ _;rw[<-o];exact inv.dI
 have x:=Gb b l (n:Int) n rfl D w B C;rw[f,r]at x;have G:=zl inv;have J:=zl f;have H:=zl r;clear inv o B C f r D;go_enter func166.1,Tryz.ntmps166
 go_wp2_with fail
 refine x.mono ?_;clear x;rintro e U ⟨rfl,rfl⟩
 go_wp2_with fail
 clear h
 go_loopw [5,13] (fun v i wr=>∃k:Nat,k<=m.length/\i=zi k/\v=zi (Zk (m.take k):Nat)/\wr=w1) (fun _ i _=>(m.length-aJ i).toNat)
 case atStart=>exact⟨0,by omega,rfl,rfl,rfl⟩
 case round=>
  obtain⟨k,hk,rfl,rfl,rfl⟩:=hrel;by_cases j:k<m.length
  ·obtain⟨c,p⟩:∃c,m[k]'j=c:=⟨_,rfl⟩
   have s:=G.o.cell k c (by rw[Yh j,p]);have t:=a9 (m.take k) c;have E:m.take (k+1)=m.take k++[c]:=by rw[xy j,p]
   rw[<-E]at t;have g:=LF<|m.take k;have y:256^(m.take k).length<=256^5:=PM (by decide) (by simp;omega);have I:=zl t;clear t E;generalize hq:Zk (m.take k)=q at*;have Q:q<1099511627776:=zn g y;clear g y hq;have O:=xnt q c (by omega);have K:=c.toNat_lt;have R:(k:Int)<(m.length:Nat):=by omega
   have T:(0:Int)<=(k:Int):=by omega
   go_wp2
   go_roundw
   case rel=>exact⟨k+1,by omega,by go_num,by rw[I.o];go_num,trivial⟩
   case measure=>simp[aJ];omega
  obtain rfl:k=m.length:=by omega
  have R:¬(m.length:Int)<(m.length:Nat):=by omega
  rw[Yw]
  go_wp2
  go_ret
  exact⟨by rw[H.o];rfl,by rw[J.o];exact F.o⟩
def sY{tv:Zv}(b:Nat)(l:Zl)(n:Nat)(d:l.length<n)(w:Zy)(c:w.cell? (zq b 0)=bO (zs l))(a:Wh tv w):bE prog 166 #[zo b,zi n] w fun e w'=>e=eF tv/\w'=w:=by
 have f:=Ga (tv:=tv) b l (n:Int) n rfl d w c a;go_enter func166.1,Tryz.ntmps166
 go_wp2_with fail
 refine f.mono ?_;rintro e g ⟨rfl,rfl⟩;exact⟨rfl,rfl,rfl⟩
end
end P
namespace P
open Go.RowKit
def e8(x:Z8):Int:=(x.toNat:Int)
@[go_sem] abbrev zc(x:UInt8):Value:= .int .u8 (e8 x)
def FC(x:Z8):0<=e8 x:=by simp[e8]
def FB(x:Z8):e8 x<256:=by have:=x.toNat_lt;simp only[e8];omega
def Q_(x:Z8):(e8 x).toNat=x.toNat:=by simp[e8]
def Ex{p:Z8->Prop}(h:∀i:Fin 256,p<|UInt8.ofNat i.val)(x:Z8):p x:=by
 have:=h ⟨x.toNat,x.toNat_lt⟩;simpa using this
def KP(a b:Z8):bits .xor .u8 (e8 a) (e8 b)=e8 (a^^^b):=LW a b
def m9(a:Z8):bits .xor .u8 (e8 a) 27=e8 (a^^^27):=LW a 27
def xmj(a:Z8):bits .xor .u8 (e8 a) 9=e8 (a^^^9):=LW a 9
def n8(a:Z8):bits .xor .u8 (e8 a) 99=e8 (a^^^99):=LW a 99
def NQ(a b:Z8):bits .or .u8 (e8 a) (e8 b)=e8 (a|||b):=by
 show IntKind.u8.wrap ((BitVec.ofInt 8 (a.toNat:Int)|||BitVec.ofInt 8 (b.toNat:Int)).toNat:Int)=_;have c:BitVec.ofInt 8 (a.toNat:Int)=a.toBitVec:=by simp
 have d:BitVec.ofInt 8 (b.toNat:Int)=b.toBitVec:=by simp
 rw[c,d];have h:=(a|||b).toNat_lt;have e:(a.toBitVec|||b.toBitVec).toNat=(a|||b).toNat:=by simp
 rw[e];show _=(((a|||b).toNat:Nat):Int);simp only[IntKind.wrap,IntKind.bits,IntKind.signed];generalize(a|||b).toNat=q at*;simp;omega
def TK(n:Nat)(b:n<8)(k:Int)(hk:k=((2^n:Nat):Int))(a:Z8):IntKind.u8.wrap (e8 a*k)=e8 (a<<<UInt8.ofNat n):=by
 subst hk;obtain rfl|rfl|rfl|rfl|rfl|rfl|rfl|rfl:n=0\/n=1\/n=2\/n=3\/n=4\/n=5\/n=6\/n=7:=by omega
 all_goals (revert a;exact Ex<|by decide+kernel)
def xmb(a:Z8):IntKind.u8.wrap (e8 a*(2:Int))=e8 (a<<<1):=TK 1 (by decide) _ rfl a
def xmc(a:Z8):IntKind.u8.wrap (e8 a*(4:Int))=e8 (a<<<2):=TK 2 (by decide) _ rfl a
def xmd(a:Z8):IntKind.u8.wrap (e8 a*(8:Int))=e8 (a<<<3):=TK 3 (by decide) _ rfl a
def xme(a:Z8):IntKind.u8.wrap (e8 a*(16:Int))=e8 (a<<<4):=TK 4 (by decide) _ rfl a
def TL(n:Nat)(b:n<8)(k:Int)(hk:k=((2^n:Nat):Int))(a:Z8):e8 a/k=e8 (a>>>UInt8.ofNat n):=by
 subst hk;obtain rfl|rfl|rfl|rfl|rfl|rfl|rfl|rfl:n=0\/n=1\/n=2\/n=3\/n=4\/n=5\/n=6\/n=7:=by omega
 all_goals (revert a;exact Ex<|by decide+kernel)
def xmf(a:Z8):e8 a/(16:Int)=e8 (a>>>4):=TL 4 (by decide) _ rfl a
def xmg(a:Z8):e8 a/(32:Int)=e8 (a>>>5):=TL 5 (by decide) _ rfl a
def xmh(a:Z8):e8 a/(64:Int)=e8 (a>>>6):=TL 6 (by decide) _ rfl a
def xmi(a:Z8):e8 a/(128:Int)=e8 (a>>>7):=TL 7 (by decide) _ rfl a
def pQ(x:Z8):Z8:=if 128<=x.toNat then(x<<<1)^^^27 else x<<<1
def xqu(x:Z8)(h:(128:Int)<=e8 x):pQ x=(x<<<1)^^^27:=by unfold pQ;rw[aA<|by simp only[e8]at h;omega]
def xqv(x:Z8)(h:¬(128:Int)<=e8 x):pQ x=x<<<1:=by unfold pQ;rw[aB<|by simp only[e8]at h;omega]
def ND(x:Z8):Z8:=x^^^x<<<1
def NE(x:Z8):Z8:=ND x^^^ND x<<<2
def yC(x:Z8):Z8:=NE x^^^NE x<<<4
def yD(x:Z8):Z8:=if 128<=(yC x).toNat then yC x^^^9 else yC x
def yB(x:Z8)(n:Z8):Z8:=x<<<n|||x>>>(8-n)
def UL(q:Z8):Z8:=q^^^yB q 1^^^yB q 2^^^yB q 3^^^yB q 4^^^99
def Pt:Zl:=[1,3,5,15,17,51,85,255,26,46,114,150,161,248,19,53,95,225,56,72,216,115,149,164,247,2,6,10,30,34,102,170,229,52,92,228,55,89,235,38,106,190,217,112,144,171,230,49,83,245,4,12,20,60,68,204,79,209,104,184,211,110,178,205,76,212,103,169,224,59,77,215,98,166,241,8,24,40,120,136,131,158,185,208,107,189,220,127,129,152,179,206,73,219,118,154,181,196,87,249,16,48,80,240,11,29,39,105,187,214,97,163,254,25,43,125,135,146,173,236,47,113,147,174,233,32,96,160,251,22,58,78,210,109,183,194,93,231,50,86,250,21,63,65,195,94,226,61,71,201,64,192,91,237,44,116,156,191,218,117,159,186,213,100,172,239,42,126,130,157,188,223,122,142,137,128,155,182,193,88,232,35,101,175,234,37,111,177,200,67,197,84,252,31,33,99,165,244,7,9,27,45,119,153,176,203,70,202,69,207,74,222,121,139,134,145,168,227,62,66,198,81,243,14,18,54,90,238,41,123,141,140,143,138,133,148,167,242,13,23,57,75,221,124,132,151,162,253,28,36,108,180,199,82,246,1]
def Qt:Zl:=[1,246,82,199,180,108,36,28,253,162,151,132,124,221,75,57,23,13,242,167,148,133,138,143,140,141,123,41,238,90,54,18,14,243,81,198,66,62,227,168,145,134,139,121,222,74,207,69,202,70,203,176,153,119,45,27,9,7,244,165,99,33,31,252,84,197,67,200,177,111,37,234,175,101,35,232,88,193,182,155,128,137,142,122,223,188,157,130,126,42,239,172,100,213,186,159,117,218,191,156,116,44,237,91,192,64,201,71,61,226,94,195,65,63,21,250,86,50,231,93,194,183,109,210,78,58,22,251,160,96,32,233,174,147,113,47,236,173,146,135,125,43,25,254,163,97,214,187,105,39,29,11,240,80,48,16,249,87,196,181,154,118,219,73,206,179,152,129,127,220,189,107,208,185,158,131,136,120,40,24,8,241,166,98,215,77,59,224,169,103,212,76,205,178,110,211,184,104,209,79,204,68,60,20,12,4,245,83,49,230,171,144,112,217,190,106,38,235,89,55,228,92,52,229,170,102,34,30,10,6,2,247,164,149,115,216,72,56,225,95,53,19,248,161,150,114,46,26,255,85,51,17,15,5,3,1]
def Pw(n:Nat):Z8:=Pt.getD n 0
def Qw(n:Nat):Z8:=Qt.getD n 0
def Rg(n:Nat)(h:n<255):Pw (n+1)=Pw n^^^pQ (Pw n):=
 (by decide+kernel:∀n:Fin 255,Pw (n.val+1)=Pw n.val^^^pQ (Pw n.val)) ⟨n,h⟩
def Rr(n:Nat)(h:n<255):Qw (n+1)=yD (Qw n):=
 (by decide+kernel:∀n:Fin 255,Qw (n.val+1)=yD (Qw n.val)) ⟨n,h⟩
def Bt:Zl:=[99,124,119,123,242,107,111,197,48,1,103,43,254,215,171,118,202,130,201,125,250,89,71,240,173,212,162,175,156,164,114,192,183,253,147,38,54,63,247,204,52,165,229,241,113,216,49,21,4,199,35,195,24,150,5,154,7,18,128,226,235,39,178,117,9,131,44,26,27,110,90,160,82,59,214,179,41,227,47,132,83,209,0,237,32,252,177,91,106,203,190,57,74,76,88,207,208,239,170,251,67,77,51,133,69,249,2,127,80,60,159,168,81,163,64,143,146,157,56,245,188,182,218,33,16,255,243,210,205,12,19,236,95,151,68,23,196,167,126,61,100,93,25,115,96,129,79,220,34,42,144,136,70,238,184,20,222,94,11,219,224,50,58,10,73,6,36,92,194,211,172,98,145,149,228,121,231,200,55,109,141,213,78,169,108,86,244,234,101,122,174,8,186,120,37,46,28,166,180,198,232,221,116,31,75,189,139,138,112,62,181,102,72,3,246,14,97,53,87,185,134,193,29,158,225,248,152,17,105,217,142,148,155,30,135,233,206,85,40,223,140,161,137,13,191,230,66,104,65,153,45,15,176,84,187,22]
def Sx(x:Z8):Z8:=Bt.getD x.toNat 0
def Sn(n:Nat):Z8:=Bt.getD n 0
def xlo(x:Z8):Sn x.toNat=Sx x:=rfl
def qY:Nat->Zl
 |0=>99::aM 255 0
 |n+1=>(qY n).set (Pw n).toNat<|UL<|Qw n
def SH:∀n,(qY n).length=256
 |0=>by rw[qY,zh,List.length_replicate]
 |n+1=>by rw[qY,List.length_set,SH n]
def Nm:qY 255=Bt:=by decide+kernel
def kb(f:Zu)(n:Nat):Ze:=(List.range n).map fun i=> .int .u8 (e8<|f i)
def Vr(f:Zu)(n:Nat):(kb f n).length=n:=by simp[kb]
def wV(f:Zu)(n:Nat):(kb f n).toArray.size=n:=by simp[kb]
def pG(f:Zu)(n i:Nat)(h:i<n):(kb f n)[i]?=bO (zb<|e8<|f i):=by simp[kb,h]
def xrg(f:Zu)(n i:Nat)(h:i<n):(kb f n).toArray[i]?=bO (zb<|e8<|f i):=by simp[kb,h]
def yT(f:Zu)(n:Nat):(kb f n).toArray.all (·.oneCell')=true:=by
 rw[qi];intro v a;simp only[kb,List.mem_toArray,qp]at a;obtain⟨i,_,rfl⟩:=a;rfl
def Uo{f g:Zu}{n:Nat}(h:∀i,i<n->f i=g i):kb f n=kb g n:=by
 unfold kb;apply List.map_congr_left;intro i a;rw[h i<|by simpa using a]
def xii(f:Zu)(n k:Nat)(v:Z8):(kb f n).set k (zb<|e8 v)=kb (fun i=>if i=k then v else f i) n:=by
 apply Jt;intro i;rw[List.getElem?_set];by_cases a:i<n;rw[pG _ _ _ a,pG _ _ _ a,Vr];by_cases e:k=i;subst e;simp[a];rw[aB e,aB fun q=>e q.symm];have b:(kb f n)[i]?=bN:=by rw[qo];rw[Vr];omega
 have c:(kb (fun i=>if i=k then v else f i) n)[i]?=bN:=by rw[qo];rw[Vr];omega
 rw[b,c,Vr];by_cases e:k=i;rw[aA e,aB<|by omega];rw[aB e]
def xm2(f:Zu)(n k:Nat)(v:Z8):(kb f n).toArray.setIfInBounds k (zb<|e8 v)=(kb (fun i=>if i=k then v else f i) n).toArray:=by
 rw[xv,xii]
def NJ(l:Zl):bv l=kb (fun i=>l.getD i 0) l.length:=by
 apply Jt;intro i;by_cases a:i<l.length;rw[pG _ _ _ a];simp[bv,a,e8];rw[qo<|by rw[Wn];omega,qo<|by rw[Vr];omega]
def kl(f:Zu)(n:Nat):Zl:=(List.range n).map f
def UC(f:Zu)(n:Nat):(kl f n).length=n:=by simp[kl]
def xm3(f:Zu)(n i:Nat)(h:i<n):(kl f n).getD i 0=f i:=by simp[kl,h]
def xt4(l:Zl)(n:Nat)(h:l.length=n):kl (fun i=>l.getD i 0) n=l:=by
 subst h;apply Jt;intro i;by_cases a:i<l.length;simp[kl,a];rw[qo<|by rw[UC];omega,qo<|by omega]
def iX(f g:Zu)(i:Nat):Z8:=f i^^^g i
def iO(f:Zu)(i:Nat):Z8:=Sx<|f<|(i+i%4*4)%16
def lZ(f:Zu)(i:Nat):Z8:=f (i/4*4)^^^f (i/4*4+1)^^^f (i/4*4+2)^^^f (i/4*4+3)^^^f i^^^pQ (f i^^^f (i/4*4+(i%4+1)%4))
def hdF(f:Zu)(c:Z8)(j:Nat):Z8:=if j=0 then Sx (f 13)^^^c else if j=1 then Sx (f 14)else if j=2 then Sx (f 15)else Sx (f 12)
def fJ(f:Zu)(c:Z8):Nat->Z8
 |i+4=>fJ f c i^^^f (i+4)
 |i=>hdF f c i^^^f i
def Ea(f:Zu)(c:Z8):∀i,fJ f c i=if _h:4<=i then fJ f c (i-4)^^^f i else hdF f c i^^^f i
 |0=>rfl
 |1=>rfl
 |2=>rfl
 |3=>rfl
 |i+4=>by rw[dif_pos<|by omega];rfl
def CO:Nat->Z8
 |0=>1
 |n+1=>pQ<|CO n
def gK(f:Zu):Nat->Nat->Z8
 |0=>f
 |n+1=>fJ (gK f n)<|CO n
def CW(k x:Zu):Nat->Nat->Z8
 |0=>iX x<|gK k 0
 |n+1=>iX (lZ<|iO<|CW k x n)<|gK k<|n+1
def jI(k x:Zu):Nat->Z8:=iX (iO<|CW k x 9)<|gK k 10
end P
namespace P
open A.Tryq Go.RowKit
attribute [local go_sem] KP m9 xmj xmb xmc xmd xme
def ZE(x:Z8)(w:Zy):bE prog 295 #[zc x] w fun en w'=>en= .returned (zc<|pQ x)/\w'=w:=by
 by_cases h:(128:Int)<=e8 x
 ·rw[xqu x h]
  go_enter func295.1,Tryz.ntmps295
  go_wp2
  go_ret
  exact⟨rfl,rfl⟩
 rw[xqv x h];go_enter func295.1,Tryz.ntmps295
 go_wp2
 go_ret
 exact⟨rfl,rfl⟩
def ZD(x:Z8)(w:Zy):bE prog 306 #[zc x] w fun en w'=>en= .returned (zc<|yD x)/\w'=w:=by
 by_cases h:(128:Int)<=e8 (yC x)
 ·have e:yD x=yC x^^^9:=by unfold yD;rw[aA<|by simp only[e8]at h;omega]
  rw[e];unfold yC NE ND at*;go_enter func306.1,Tryz.ntmps306
  go_wp2
  go_ret
  exact⟨rfl,rfl⟩
 have e:yD x=yC x:=by unfold yD;rw[aB<|by simp only[e8]at h;omega]
 rw[e];unfold yC NE ND at*;go_enter func306.1,Tryz.ntmps306
 go_wp2
 go_ret
 exact⟨rfl,rfl⟩
def xp1:bits .and .u64 1 7=1:=by decide+kernel
def xr7(x:Z8)(w:Zy):bE prog 305 #[zc x,zi 1] w fun en w'=>en= .returned (zc<|yB x 1)/\w'=w:=by
 have a:=xp1;go_enter func305.1,Tryz.ntmps305
 go_wp2
 go_ret
 exact⟨by show aP (zb<|bits .or .u8 (e8<|x<<<1)<|e8 x/128)=_;rw[xmi,NQ];rfl,rfl⟩
def xp2:bits .and .u64 2 7=2:=by decide+kernel
def xr8(x:Z8)(w:Zy):bE prog 305 #[zc x,zi 2] w fun en w'=>en= .returned (zc<|yB x 2)/\w'=w:=by
 have a:=xp2;go_enter func305.1,Tryz.ntmps305
 go_wp2
 go_ret
 exact⟨by show aP (zb<|bits .or .u8 (e8<|x<<<2)<|e8 x/64)=_;rw[xmh,NQ];rfl,rfl⟩
def xp3:bits .and .u64 3 7=3:=by decide+kernel
def xr9(x:Z8)(w:Zy):bE prog 305 #[zc x,zi 3] w fun en w'=>en= .returned (zc<|yB x 3)/\w'=w:=by
 have a:=xp3;go_enter func305.1,Tryz.ntmps305
 go_wp2
 go_ret
 exact⟨by show aP (zb<|bits .or .u8 (e8<|x<<<3)<|e8 x/32)=_;rw[xmg,NQ];rfl,rfl⟩
def xp4:bits .and .u64 4 7=4:=by decide+kernel
def xsa(x:Z8)(w:Zy):bE prog 305 #[zc x,zi 4] w fun en w'=>en= .returned (zc<|yB x 4)/\w'=w:=by
 have a:=xp4;go_enter func305.1,Tryz.ntmps305
 go_wp2
 go_ret
 exact⟨by show aP (zb<|bits .or .u8 (e8<|x<<<4)<|e8 x/16)=_;rw[xmf,NQ];rfl,rfl⟩
end P
namespace P
open A.Tryq Go.RowKit
attribute [local go_sem] KP n8
def xP:Za:=Array.replicate 256<|.int .u8 0
def Tc:xP.size=256:=by simp[xP]
def xm0:((prog.info? 368).map fun i=>(i.zero,i.size))=bO (bO<|.agg xP,256):=by kernel_rfl
def Bh:(prog.info? 368).map (·.size)=bO 256:=by kernel_rfl
def E0:prog.built 368 [(0,zb 99)]=bO (bv<|qY 0).toArray:=by kernel_rfl
def Mo{P:Zp}{ops:Array Oper}{rest:List Oper}{o:Oper}{a:Act}{w:Zy}{Q:Exit->Act->Zy->Prop}(d:o.guard=bN)(t:Zt)(parts:Array<|Nat×Operand)(ho:o.op= .build t parts)(b:Za)
  (c:P.built t (parts.toList.map fun(i,x)=>(i,a.eval x))=bO b)(h:wpList P ops Q rest (a.put o.dst<|.agg b) w):wpList P ops Q (o::rest) a w:=
 wpList_build d t parts ho (by rw[Array.toList_map,c];rfl) (by rw[Array.toList_map,c];exact h)
def zw9(w:Zy)(A:Obj)(c:Za)(t:Zt):((w.alloc A).alloc<|.cells c t).heap[w.heap.size+1]?=bO (.cells c t (0,0)):=by
 have h:=jw (w.alloc A)<|.cells c t;rwa[show(w.alloc A).heap.size=w.heap.size+1 by simp]at h
def zrk(w:Zy)(A:Obj)(c a:Za)(t:Zt):((w.alloc A).alloc<|.cells c t).setRow (w.heap.size+1) a=(w.alloc A).alloc (.cells a t):=by
 have h:=World.setRow_alloc_new (w.alloc A) c a t;rwa[show(w.alloc A).heap.size=w.heap.size+1 by simp]at h
structure wX(w:Zy)(l:Zl)(wr:Zy):Prop where
 dI:bC w.heap.size w wr
 sz:w.heap.size+1<wr.heap.size
 b0:wr.heap[w.heap.size]?=bO (.cells xP 368 (0,0))
 b1:wr.heap[w.heap.size+1]?=bO (.cells (bv l).toArray 368 (0,0))
def wX.start(w:Zy)(l:Zl):wX w l<|(w.alloc<|.cells xP 368).alloc<|.cells (bv l).toArray 368:=by
 refine⟨((zr _ _).alloc (ze _) _).alloc (by simp) _,by simp, ?_, ?_⟩
 all_goals (show((w.heap.push _).push _)[_]?=_)
 all_goals (simp only[jh,Xe])
 rw[aB<|by omega,aA trivial];rw[aA trivial]
def wX.set{w wr:Zy}{l:Zl}(h:wX w l wr)(k:Nat)(v:Z8):wX w (l.set k v)<|wr.setCell (zq (w.heap.size+1) k)<|zc v:=by
 refine⟨h.dI.setCell (by show w.heap.size<=w.heap.size+1;omega) _,by simpa[aF]using h.sz, ?_, ?_⟩;rw[jq _ _ _ _<|by show w.heap.size≠w.heap.size+1;omega];exact h.b0;rw[qe _ _ _ _ _ _ h.b1,xv];congr 3;exact LH l k v
def zni(w:Zy):bE prog 293 #[] w fun en w'=>en= .returned (.agg (kb Sn 256).toArray)/\bC w.heap.size w w':=by
 have B:=(zero_of_info xm0).1;have d:xP.size=(bv<|qY 0).toArray.size:=by rw[Tc,jg,Wn,SH]
 have f:(prog.info? 368).map (·.size)=bO (bv<|qY 0).toArray.size:=by rw[jg,Wn,SH];exact Bh
 have b:(bv<|qY 0).toArray.all (·.oneCell')=true:=all_oneCell_toArray<|Dy _;generalize hzz:xP=zz at*;go_enter func293.1,Tryz.ntmps293
 go_wp2_with (first|refine Mo rfl 368 _ rfl (bv<|qY 0).toArray E0 ?_|(refine Jj rfl 368 _ _ rfl (w.heap.size+1) _ rfl rfl 368 zz (zw9 _ _ _ _) f d b ?_;rw[zrk]))
 subst hzz;clear d f b B
 go_loopw [2,3,5] (fun p q i wr=>∃k:Nat,k<=255/\i=zi k/\p=zc (Pw k)/\q=zc (Qw k)/\wX w (qY k) wr) (fun _ _ i _=>(255-aJ i).toNat)
 case atStart=>exact⟨0,by omega,rfl,rfl,rfl,wX.start w _⟩
 case round=>
  obtain⟨k,hk,rfl,rfl,rfl,inv⟩:=hrel;by_cases a:k<255
  ·have F:(k:Int)<255:=by omega
   have t:Hid<|Pw (k+1)=Pw k^^^pQ (Pw k):=Rg k a;have x:Hid<|Qw (k+1)=yD (Qw k):=Rr k a;have o:Hid<|wX w (qY<|k+1)<|wr.setCell (zq (w.heap.size+1)<|(e8<|Pw k).toNat)<|zc<|UL<|Qw k:=by
    show wX _ _ _;rw[Q_];exact inv.set _ _
   have D:wr.frozen? (zq (w.heap.size+1)<|(e8<|Pw k).toNat)=bK:=jx _ _ _ _ _ inv.b1;obtain⟨c,C⟩:∃c,wr.cell? (zq (w.heap.size+1)<|(e8<|Pw k).toNat)=bO c:=by
    have z:(Pw k).toNat<(bv<|qY k).toArray.size:=by rw[jg,Wn,SH];exact(Pw k).toNat_lt
    exact⟨_,by rw[je _ _ _ _ _ _ inv.b1,Q_];exact xg z⟩
   have G:=FC<|Pw k;have H:=FB<|Pw k;clear inv;generalize Pw k=p at*;generalize Qw k=q at*;unfold UL at o
   go_wp2_with fail
   refine(xr7 q _).mono ?_;rintro en h ⟨rfl,rfl⟩
   go_wp2_with fail
   refine(xr8 q _).mono ?_;rintro en h ⟨rfl,rfl⟩
   go_wp2_with fail
   refine(xr9 q _).mono ?_;rintro en h ⟨rfl,rfl⟩
   go_wp2_with fail
   refine(xsa q _).mono ?_;rintro en h ⟨rfl,rfl⟩
   go_wp2_with fail
   refine(ZE p _).mono ?_;rintro en h ⟨rfl,rfl⟩
   go_wp2_with fail
   refine(ZD q _).mono ?_;rintro en h ⟨rfl,rfl⟩
   go_wp2_with fail
   go_roundw
   case rel=>exact⟨k+1,by omega,by go_num,by rw[t.o],by rw[x.o],o.o⟩
   case measure=>simp[aJ];omega
  obtain rfl:k=255:=by omega
  have r:=inv.b1;rw[Nm,NJ,show(fun i=>Bt.getD i 0)=Sn from rfl,show Bt.length=256 from rfl]at r;have b0:=inv.b0;have e:=inv.dI;have m:(prog.info? 368).map (·.size)=bO (kb Sn 256).toArray.size:=by rw[wV];exact Bh
  have y:(kb Sn 256).toArray.all (·.oneCell')=true:=yT _ _;have n:xP.size=(kb Sn 256).toArray.size:=by rw[Tc,wV]
  have g:(wr.setRow w.heap.size (kb Sn 256).toArray).heap[w.heap.size]?=bO (.cells (kb Sn 256).toArray 368 (0,0)):=Yv _ _ _ _ _ _ b0;have l:bC w.heap.size w<|wr.setRow w.heap.size (kb Sn 256).toArray:=e.trans ⟨rfl,rfl,rfl,by simp,fun j E=>setRow_other _ _ _ _<|by omega⟩;clear inv hk a;generalize hKK:(kb Sn 256).toArray=K at*;have s:Hid<|(kb Sn 256).toArray=K:=hKK;clear hKK;generalize xP=zz at*
  go_wp2_with (first|refine Vh rfl 368 _ rfl (w.heap.size+1) rfl 368 _ (0,0) _ r underlying368 rfl m ?_|refine Jj rfl 368 _ _ rfl w.heap.size _ rfl rfl 368 _ b0 m n y ?_)
  exact jz (v:= .agg K) (Yf rfl _ _ w.heap.size 368 _ (0,0) _ rfl g underlying368 rfl m) rfl ⟨by rw[s.o],l⟩
end P
namespace P
open A.Tryq Go.RowKit
attribute [local go_sem] KP
section
variable {w wr:Zy} {f0 f1 f2:Zu} {n2:Nat} {t2:Zt} {t:Zt} {f:Zu}
def Wz(w:Zy)(b:Nat)(f:Zu)(n:Nat)(t:Zt):Prop:=w.heap[b]?=bO (.cells (kb f n).toArray t (0,0))
def Wz.cell{w:Zy}{b n k:Nat}(h:Wz w b f n t)(hk:k<n):w.cell? (zq b k)=bO (zc<|f k):=by
 rw[je _ _ _ _ _ _ h,xrg _ _ _ hk]
def Wz.frozen{w:Zy}{b n k:Nat}(h:Wz w b f n t):w.frozen? (zq b k)=bK:=jx _ _ _ _ _ h
def Wz.congr{w:Zy}{b n:Nat}{f g:Zu}(h:Wz w b f n t)(e:∀i,i<n->f i=g i):Wz w b g n t:=by
 unfold Wz at*;rw[h,Uo e]
def Wz.set{w:Zy}{b n:Nat}(h:Wz w b f n t)(k:Nat)(v:Z8):Wz (w.setCell (zq b k)<|zc v) b (fun i=>if i=k then v else f i) n t:=by
 unfold Wz at*;rw[qe _ _ _ _ _ _ h,xm2]
def Wz.other{w:Zy}{b b' n k:Nat}{v:Zv}(h:Wz w b f n t)(a:b≠b'):Wz (w.setCell (zq b' k) v) b f n t:=by
 unfold Wz at*;rw[jq _ _ _ _ a];exact h
def Wz.below{w w':Zy}{B b n:Nat}(h:Wz w b f n t)(c:bC B w w')(a:b<B):Wz w' b f n t:=(c.block _ a).trans h
structure R3(w:Zy)(f0 f1 f2:Zu)(n2:Nat)(t2:Zt)(wr:Zy):Prop where
 dI:bC w.heap.size w wr
 sz:w.heap.size+1+1<wr.heap.size
 b0:Wz wr w.heap.size f0 16 359
 b1:Wz wr (w.heap.size+1) f1 16 359
 b2:Wz wr (w.heap.size+1+1) f2 n2 t2
def R3.start(w:Zy)(a b f2:Zu)(c:Nat)(d:Zt):R3 w a b f2 c d<|((w.alloc<|.cells (kb a 16).toArray 359).alloc<|.cells (kb b 16).toArray 359).alloc<|.cells (kb f2 c).toArray d:=by
 refine⟨(((zr _ _).alloc (ze _) _).alloc (by simp) _).alloc (by simp;omega) _,by simp, ?_, ?_, ?_⟩
 all_goals (show(((w.heap.push _).push _).push _)[_]?=_)
 all_goals (simp only[jh,Xe])
 rw[aB<|by omega,aB<|by omega,aA trivial];rw[aB<|by omega,aA trivial];rw[aA trivial]
def R3.drew(h:R3 w f0 f1 f2 n2 t2 wr):R3 w f0 f1 f2 n2 t2 wr.drew:=⟨h.dI.drew,h.sz,h.b0,h.b1,h.b2⟩
def R3.drewN(h:R3 w f0 f1 f2 n2 t2 wr)(n:Nat):R3 w f0 f1 f2 n2 t2<|wr.drewN n:=⟨below_drewN h.dI _,h.sz,h.b0,h.b1,h.b2⟩
def R3.then{w wr w':Zy}(h:R3 w f0 f1 f2 n2 t2 wr)(a:bC wr.heap.size wr w'):R3 w f0 f1 f2 n2 t2 w':=
 have b:=h.sz
 ⟨h.dI.trans<|a.mono h.dI.size,zn h.sz a.size,h.b0.below a<|by omega,h.b1.below a<|by omega,h.b2.below a<|by omega⟩
def R3.set0(h:R3 w f0 f1 f2 n2 t2 wr)(k:Nat)(v:Z8):R3 w (fun i=>if i=k then v else f0 i) f1 f2 n2 t2<|wr.setCell (zq w.heap.size k)<|zc v:=
 ⟨h.dI.setCell (ze _) _,by simpa[aF]using h.sz,h.b0.set k v,h.b1.other<|by omega,h.b2.other<|by omega⟩
def R3.set2(h:R3 w f0 f1 f2 n2 t2 wr)(k:Nat)(v:Z8):R3 w f0 f1 (fun i=>if i=k then v else f2 i) n2 t2<|wr.setCell (zq (w.heap.size+1+1) k)<|zc v:=
 ⟨h.dI.setCell (by show w.heap.size<=w.heap.size+1+1;omega) _,by simpa[aF]using h.sz,h.b0.other<|by omega,h.b1.other<|by omega,h.b2.set k v⟩
def R3.congr0{f0 f0' f1 f2:Zu}(h:R3 w f0 f1 f2 n2 t2 wr)(e:∀i,i<16->f0 i=f0' i):R3 w f0' f1 f2 n2 t2 wr:=⟨h.dI,h.sz,h.b0.congr e,h.b1,h.b2⟩
def R3.congr2{f0 f1 f2 f2':Zu}(h:R3 w f0 f1 f2 n2 t2 wr)(e:∀i,i<n2->f2 i=f2' i):R3 w f0 f1 f2' n2 t2 wr:=⟨h.dI,h.sz,h.b0,h.b1,h.b2.congr e⟩
def zF(_:Nat):Z8:=0
def VR:(#[zb 0,zb 0,zb 0,zb 0,zb 0,zb 0,zb 0,zb 0,zb 0,zb 0,zb 0,zb 0,zb 0,zb 0,zb 0,zb 0]:Za)=(kb zF 16).toArray:=rfl
def RN:(prog.info? 359).map (·.size)=bO 16:=by kernel_rfl
def yV(f:Zu):(prog.info? 359).map (·.size)=bO (kb f 16).toArray.size:=by rw[wV];exact RN
def II{b:Nat}(c:Za)(h:bC w.heap.size w wr)(a:w.heap.size<=b):bC w.heap.size w<|wr.setRow b c:=h.trans ⟨rfl,rfl,rfl,by simp,fun j d=>setRow_other _ _ _ _<|by omega⟩
def FX(f g:Zu):(kb f 16).toArray.size=(kb g 16).toArray.size:=by rw[wV,wV]
def xK(f g:Zu)(k i:Nat):Z8:=if i<k then f i^^^g i else f i
def P8(f g:Zu)(w:Zy):bE prog 296 #[.agg (kb f 16).toArray,.agg (kb g 16).toArray] w fun en w'=>en= .returned (.agg (kb (iX f g) 16).toArray)/\bC w.heap.size w w':=by
 go_enter func296.1,Tryz.ntmps296
 go_wp2
 go_loopw [6] (fun i wr=>∃k:Nat,k<=16/\i=zi k/\R3 w (xK f g k) g zF 16 359 wr) (fun i _=>(16-aJ i).toNat)
 case atStart=>exact⟨0,by omega,rfl,R3.start w f g zF 16 359⟩
 case round=>
  obtain⟨k,hk,rfl,inv⟩:=hrel;have o:=inv.sz;by_cases d:k<16
  ·have r:wr.cell? (zq w.heap.size k)=bO (zc<|f k):=by rw[inv.b0.cell d];simp[xK]
   have x:wr.cell? (zq (w.heap.size+1) k)=bO (zc<|g k):=inv.b1.cell d;have y:wr.frozen? (zq w.heap.size k)=bK:=inv.b0.frozen;have s:Hid<|R3 w (xK f g<|k+1) g zF 16 359<|wr.drew.setCell (zq w.heap.size k)<|zc<|f k^^^g k:=by
    refine(inv.drew.set0 k<|f k^^^g k).congr0 fun i _=>?_;unfold xK;by_cases e:i=k;subst e;simp;rw[aB e];by_cases q:i<k;rw[aA q,aA<|by omega];rw[aB q,aB<|by omega]
   clear inv;generalize f k=a at*;generalize g k=b at*
   go_wp2
   go_still_tail 8,(by kernel_rfl)
   go_wp2
   go_roundw
   case rel=>exact⟨k+1,by omega,by go_num,s.o⟩
   case measure=>simp[aJ];omega
  obtain rfl:k=16:=by omega
  have inv:=inv.congr0 (f0':=iX f g) (fun i l=>by simp[xK,l,iX]);clear hk d o;have j:=inv.b0;have c:=inv.b2;have h:=inv.dI;unfold Wz at j c;have l:=yV<|iX f g;have r:=yT (iX f g) 16;have p:=FX zF<|iX f g;have m:(wr.setRow (w.heap.size+1+1) (kb (iX f g) 16).toArray).heap[(w.heap.size+1+1)]?=bO (.cells (kb (iX f g) 16).toArray 359 (0,0)):=Yv _ _ _ _ _ _ c;have n:=II (b:=(w.heap.size+1+1)) (kb (iX f g) 16).toArray h (by omega);clear inv;generalize hKK:(kb (iX f g) 16).toArray=K at*;have t:Hid<|(kb (iX f g) 16).toArray=K:=hKK;clear hKK
  go_wp2_with (first|refine Vh rfl 359 _ rfl w.heap.size rfl 359 _ (0,0) _ j underlying359 rfl l ?_|refine Jj rfl 359 _ _ rfl (w.heap.size+1+1) _ rfl rfl 359 _ c l p r ?_)
  exact jz (v:= .agg K) (Yf rfl _ _ (w.heap.size+1+1) 359 _ (0,0) _ rfl m underlying359 rfl l) rfl ⟨by rw[<-t.o],n⟩
def sQ(w:Zy)(g:Nat):Prop:=∀i,i<256->w.cell? (zq g i)=bO (zc<|Sn i)
def sQ.below{w w':Zy}{B g:Nat}(h:sQ w g)(b:bC B w w')(a:g<B):sQ w' g:=fun i c=>(b.cell (p:=zq g i) a).trans<|h i c
def sQ.byte{w:Zy}{g:Nat}(h:sQ w g)(x:Z8):w.cell? (zq g<|(e8 x).toNat)=bO (zc<|Sx x):=by
 rw[Q_,h _ x.toNat_lt,xlo]
def sQ.lt{w:Zy}{g:Nat}(h:sQ w g):g<w.heap.size:=qz<|h 0<|by decide
def GG(f:Zu)(k i:Nat):Z8:=if i<k then iO f i else 0
def Qv(f:Zu)(g:Nat)(w:Zy)(q:sQ w g):bE prog 298 #[.pointer<|bO ⟨g,0,bN⟩,.agg (kb f 16).toArray] w fun en w'=>en= .returned (.agg (kb (iO f) 16).toArray)/\bC w.heap.size w w':=by
 have C:=zl q;have F:=q.lt;clear q;go_enter func298.1,Tryz.ntmps298
 go_wp2
 go_loopw [8] (fun i wr=>∃k:Nat,k<=16/\i= .int .i64 k/\R3 w f zF (GG f k) 16 359 wr) (fun i _=>(16-aJ i).toNat)
 case atStart=>exact⟨0,by omega,rfl,R3.start w f zF zF 16 359⟩
 case round=>
  obtain⟨k,hk,rfl,inv⟩:=hrel;have t:=inv.sz;by_cases n:k<16
  ·obtain⟨r,B⟩:∃r,k%4=r:=⟨_,rfl⟩
   obtain⟨m,z⟩:∃m,(k+r*4)%16=m:=⟨_,rfl⟩;have H:(k:Int).tmod 4=(r:Nat):=by rw[Js<|by omega];omega
   have I:((k:Int)+(r:Int)*4).tmod 16=(m:Nat):=by rw[Js<|by omega];omega
   have T:r<4:=by omega
   have p:IntKind.i64.wrap ((r:Int)*4)=(r:Int)*4:=by rw[xn]<;>omega
   have J:IntKind.i64.wrap ((k:Int)+(r:Int)*4)=(k:Int)+(r:Int)*4:=by rw[xn]<;>omega
   have G:m<16:=by omega
   have Q:(m:Int)<16:=by omega
   have y:=inv.b0.cell G;have L:=(C.o.below inv.dI F).byte<|f m;have M:wr.frozen? ⟨w.heap.size+1+1,k,bN⟩=bK:=inv.b2.frozen;have O:=inv.b2.cell n;have R:=FC<|f m;have S:=FB<|f m;have D:Hid<|R3 w f zF (GG f<|k+1) 16 359<|wr.drew.setCell ⟨w.heap.size+1+1,k,bN⟩<|.int .u8<|e8<|Sx<|f m:=by
    refine(inv.drew.set2 k<|Sx<|f m).congr2 fun i _=>?_;unfold GG;by_cases e:i=k;subst e;rw[aA rfl,aA<|by omega];unfold iO;rw[B,z];rw[aB e];by_cases p:i<k;rw[aA p,aA<|by omega];rw[aB p,aB<|by omega]
   clear inv B z;generalize f m=a at*;generalize GG f k k=c at*
   go_wp2
   go_still_tail 14,(by kernel_rfl)
   go_wp2
   go_roundw
   case rel=>exact⟨k+1,by omega,by go_num,D.o⟩
   case measure=>simp[aJ];omega
  obtain rfl:k=16:=by omega
  have inv:=inv.congr2 (f2':=iO f) (fun i l=>by simp[GG,l]);clear hk n t;have j:=inv.b2;have d:=inv.b1;have h:=inv.dI;unfold Wz at j d;have l:=yV<|iO f;have y:=yT (iO f) 16;have x:=FX zF<|iO f;have o:(wr.setRow (w.heap.size+1) (kb (iO f) 16).toArray).heap[(w.heap.size+1)]?=bO (.cells (kb (iO f) 16).toArray 359 (0,0)):=Yv _ _ _ _ _ _ d;have s:=II (b:=(w.heap.size+1)) (kb (iO f) 16).toArray h (by omega);clear inv;generalize hKK:(kb (iO f) 16).toArray=K at*;have E:=zl hKK;clear hKK
  go_wp2_with (first|refine Vh rfl 359 _ rfl (w.heap.size+1+1) rfl 359 _ (0,0) _ j underlying359 rfl l ?_|refine Jj rfl 359 _ _ rfl (w.heap.size+1) _ rfl rfl 359 _ d l x y ?_)
  exact jz (v:= .agg K) (Yf rfl _ _ (w.heap.size+1) 359 _ (0,0) _ rfl o underlying359 rfl l) rfl ⟨by rw[<-E.o],s⟩
def mK(f:Zu)(k i:Nat):Z8:=if i<k then lZ f i else 0
def xng(f:Zu)(w:Zy):bE prog 297 #[.agg (kb f 16).toArray] w fun en w'=>en= .returned (.agg (kb (lZ f) 16).toArray)/\bC w.heap.size w w':=by
 go_enter func297.1,Tryz.ntmps297
 go_wp2
 go_loopw [4] (fun i wr=>∃p:Nat,p<=16/\p%4=0/\i= .int .i64 p/\R3 w f zF (mK f p) 16 359 wr) (fun i _=>(16-aJ i).toNat)
 case atStart=>exact⟨0,by omega,by omega,rfl,R3.start w f zF zF 16 359⟩
 case round=>
  obtain⟨p,T,y,rfl,inv⟩:=hrel;have g:=inv.sz;by_cases x:p<16
  ·have Z:p+3<16:=by omega
   have hd:decide ((p:Int)<16)=true:=decide_eq_true (by omega);have O:wr.cell? ⟨w.heap.size,p,bN⟩=bO (.int .u8<|e8<|f p):=inv.b0.cell (by omega);have D:wr.cell? ⟨w.heap.size,p+1,bN⟩=bO (.int .u8<|e8<|f<|p+1):=inv.b0.cell (by omega);have E:wr.cell? ⟨w.heap.size,p+2,bN⟩=bO (.int .u8<|e8<|f<|p+2):=inv.b0.cell (by omega);have Q:=inv.b0.cell (by omega);have r:Hid<|∀j,j<4->lZ f (p+j)=f p^^^f (p+1)^^^f (p+2)^^^f (p+3)^^^f (p+j)^^^pQ (f (p+j)^^^f (p+(j+1)%4)):=fun j S=>by
    unfold lZ;rw[show(p+j)/4*4=p by omega,show(p+j)%4=j by omega]
   have k:=zl inv;clear inv
   go_wp2
   go_quiet (fail)
   go_wp2
   clear O D E Q;obtain⟨a,G⟩:∃a,f p^^^f (p+1)^^^f (p+2)^^^f (p+3)=a:=⟨_,rfl⟩;rw[G]at r⊢
   try rw[hd]
   clear G;clear g;obtain⟨J,B⟩:∃J:Zy,J=wr:=⟨_,rfl⟩
   go_loopw [31] (fun i wq=>∃j:Nat,j<=4/\i= .int .i64 j/\R3 w f zF (mK f<|p+j) 16 359 wq) (fun i _=>(4-aJ i).toNat)
   case atStart=>exact⟨0,by omega,rfl,by exact k.o.drewN _⟩
   case round=>
    clear k B;obtain⟨j,S,rfl,inv⟩:=hrel;have g:=inv.sz;by_cases t:j<4
    ·obtain⟨q,H⟩:∃q,(j+1)%4=q:=⟨_,rfl⟩
     have W:((j:Int)+1).tmod 4=(q:Nat):=by rw[Js<|by omega];omega
     have q4:q<4:=by omega
     have I:p+j<16:=by omega
     have U:p+q<16:=by omega
     have w1:IntKind.i64.wrap ((p:Int)+(j:Int))=(p:Int)+(j:Int):=by rw[xn]<;>omega
     have V:IntKind.i64.wrap ((p:Int)+(q:Int))=(p:Int)+(q:Int):=by rw[xn]<;>omega
     have x1:(p:Int)+(j:Int)<16:=by omega
     have x2:(p:Int)+(q:Int)<16:=by omega
     have x3:(0:Int)<=(p:Int)+(j:Int):=by omega
     have x4:(0:Int)<=(p:Int)+(q:Int):=by omega
     have n1:((p:Int)+(j:Int)).toNat=p+j:=by omega
     have n2:((p:Int)+(q:Int)).toNat=p+q:=by omega
     have D:=inv.b0.cell I;have E:=inv.b0.cell U;have X:wr.frozen? ⟨w.heap.size+1+1,p+j,bN⟩=bK:=inv.b2.frozen;have Y:=inv.b2.cell I;have L:Hid<|∀wq,R3 w f zF (mK f<|p+j) 16 359 wq->R3 w f zF (mK f<|p+(j+1)) 16 359 (wq.setCell ⟨w.heap.size+1+1,p+j,bN⟩<|.int .u8<|e8<|a^^^f (p+j)^^^pQ (f (p+j)^^^f (p+q))):=fun wq h=>by
      refine(h.set2 (p+j) _).congr2 fun i _=>?_;unfold mK;by_cases e:i=p+j;subst e;rw[aA rfl,aA<|by omega,r.o j t,H];rw[aB e];by_cases F:i<p+j;rw[aA F,aA<|by omega];rw[aB F,aB<|by omega]
     have k:=zl inv;clear inv H;generalize f (p+j)=b at*;generalize f (p+q)=c at*;generalize mK f (p+j) (p+j)=z at*
     go_wp2
     go_quiet (fail)
     go_wp2_with fail
     refine(ZE (b^^^c) _).mono ?_;rintro en V ⟨rfl,rfl⟩
     go_wp2_with fail
     go_roundw
     case rel=>exact⟨j+1,by omega,by go_num,L.o _<|k.o.drewN _⟩
     case measure=>simp[aJ];omega
    obtain rfl:j=4:=by omega
    have k:=zl inv;clear inv r
    go_wp2
    go_roundw
    case rel=>exact⟨p+4,by omega,by omega,by go_num,k.o⟩
    case measure=>simp[aJ];omega
  obtain rfl:p=16:=by omega
  have inv:=inv.congr2 (f2':=lZ f) (fun i n=>by simp[mK,n]);clear T y x g;have m:=inv.b2;have d:=inv.b1;have l:=inv.dI;unfold Wz at m d;have n:=yV<|lZ f;have R:=yT (lZ f) 16;have C:=FX zF<|lZ f;have o:(wr.setRow (w.heap.size+1) (kb (lZ f) 16).toArray).heap[(w.heap.size+1)]?=bO (.cells (kb (lZ f) 16).toArray 359 (0,0)):=Yv _ _ _ _ _ _ d;have s:=II (b:=(w.heap.size+1)) (kb (lZ f) 16).toArray l (by omega);clear inv;generalize hKK:(kb (lZ f) 16).toArray=K at*;have M:=zl hKK;clear hKK
  go_wp2_with (first|refine Vh rfl 359 _ rfl (w.heap.size+1+1) rfl 359 _ (0,0) _ m underlying359 rfl n ?_|refine Jj rfl 359 _ _ rfl (w.heap.size+1) _ rfl rfl 359 _ d n C R ?_)
  exact jz (v:= .agg K) (Yf rfl _ _ (w.heap.size+1) 359 _ (0,0) _ rfl o underlying359 rfl n) rfl ⟨by rw[<-M.o],s⟩
def wd(f:Zu)(c:Z8)(k j:Nat):Z8:=if j<k then fJ f c (j+4*((k-1-j)/4))else hdF f c j
def xox(f:Zu)(c:Z8)(k:Nat):wd f c k (k%4)^^^f k=fJ f c k:=by
 unfold wd;by_cases h:4<=k;rw[aA<|by omega,show k%4+4*((k-1-k%4)/4)=k-4 by omega]
 conv=>rhs;rw[Ea]
 rw[dif_pos h];rw[aB<|by omega,show k%4=k by omega]
 conv=>rhs;rw[Ea]
 rw[dif_neg h]
def Dp(f:Zu)(c:Z8)(k j:Nat)(a:j<4):(if j=k%4 then fJ f c k else wd f c k j)=wd f c (k+1) j:=by
 unfold wd;by_cases e:j=k%4;rw[aA e,aA<|by omega,show j+4*((k+1-1-j)/4)=k by omega];rw[aB e];by_cases h:j<k;rw[aA h,aA<|by omega,show(k+1-1-j)/4=(k-1-j)/4 by omega];rw[aB h,aB<|by omega]
def nK(f:Zu)(c:Z8)(k i:Nat):Z8:=if i<k then fJ f c i else f i
def SN(w':Zy)(b g:Nat)(a12 a13 a14 a15:Z8):Prop:=w'.cell? (zq b 12)=bO (zc a12)/\w'.cell? (zq b 13)=bO (zc a13)/\w'.cell? (zq b 14)=bO (zc a14)/\w'.cell? (zq b 15)=bO (zc a15)/\w'.cell? (zq g<|(e8 a12).toNat)=bO (zc<|Sx a12)/\w'.cell? (zq g<|(e8 a13).toNat)=bO (zc<|Sx a13)/\w'.cell? (zq g<|(e8 a14).toNat)=bO (zc<|Sx a14)/\w'.cell? (zq g<|(e8 a15).toNat)=bO (zc<|Sx a15)
def SN.below{w w':Zy}{B b g:Nat}{a12 a13 a14 a15:Z8}(h:SN w b g a12 a13 a14 a15)(a:bC B w w')(c:b<B)(d:g<B):SN w' b g a12 a13 a14 a15:=
 ⟨(a.cell (p:=zq b 12) c).trans h.1,(a.cell (p:=zq b 13) c).trans h.2.1,(a.cell (p:=zq b 14) c).trans h.2.2.1,(a.cell (p:=zq b 15) c).trans h.2.2.2.1,(a.cell (p:=zq g _) d).trans h.2.2.2.2.1,(a.cell (p:=zq g _) d).trans h.2.2.2.2.2.1,(a.cell (p:=zq g _) d).trans h.2.2.2.2.2.2.1,(a.cell (p:=zq g _) d).trans h.2.2.2.2.2.2.2⟩
def zxt(f:Zu)(c:Z8)(g:Nat)(w:Zy)(Q:sQ w g):bE prog 294 #[zo g,.agg (kb f 16).toArray,zc c] w fun en w'=>en= .returned (.agg (kb (fJ f c) 16).toArray)/\bC w.heap.size w w':=by
 have hg:=Q.lt;go_enter func294.1,Tryz.ntmps294
 go_upto_region 1 with fail
 obtain⟨a,l⟩:∃a,(w.alloc<|.cells (kb f 16).toArray 359).alloc (.cells (kb zF 16).toArray 359)=a:=⟨_,rfl⟩;have D:bC w.heap.size w a:=by rw[<-l];exact((zr _ _).alloc (ze _) _).alloc (by simp) _
 have T:a.heap.size=w.heap.size+1+1:=by rw[<-l];simp
 have I:Wz a w.heap.size f 16 359:=by
  rw[<-l];show((w.heap.push _).push _)[_]?=_;simp only[jh,Xe];rw[aB<|by omega,aA trivial]
 have HS:Hid<|R3 w f zF (hdF f c) 4 379 (a.alloc<|.cells #[zc<|Sx (f 13)^^^c,zc<|Sx<|f 14,zc<|Sx<|f 15,zc<|Sx<|f 12] 379).drew:=by
  rw[<-l];exact(R3.start w f zF (hdF f c) 4 379).drew
 have d:=Q.below D hg;have t:a.cell? (zq w.heap.size 12)=bO (zc<|f 12):=I.cell (by decide);have c13:a.cell? (zq w.heap.size 13)=bO (zc<|f 13):=I.cell (by decide);have B:a.cell? (zq w.heap.size 14)=bO (zc<|f 14):=I.cell (by decide);have C:a.cell? (zq w.heap.size 15)=bO (zc<|f 15):=I.cell (by decide);have n:g<a.heap.size:=by omega
 have R:∀X,sQ (a.alloc X) g:=fun X=>d.below ((zr a.heap.size a).alloc (ze _) X) n;have J:SN a w.heap.size g (f 12) (f 13) (f 14)<|f 15:=⟨t,c13,B,C,d.byte _,d.byte _,d.byte _,d.byte _⟩;have q:∀O,bC a.heap.size a O->SN O w.heap.size g (f 12) (f 13) (f 14) (f 15):=fun O hb=>J.below hb (by omega) n;clear t c13 B C;have V:=FC<|f 12;have W:=FC<|f 13;have Y:=FC<|f 14;have Z:=FC<|f 15;have ba:=FB<|f 12;have bc:=FB<|f 13;have bd:=FB<|f 14;have be:=FB<|f 15;clear I d Q R;unfold SN at J q;generalize f 12=a12 at*;generalize f 13=a13 at*;generalize f 14=a14 at*;generalize f 15=a15 at*
 try rw[VR]
 try rw[l]
 clear l;have s:∀X,bC a.heap.size a<|a.alloc X:=fun X=>(zr _ _).alloc (ze _) X
 go_region_held3 (fun w'=>w'.cell? (zq w.heap.size 12)=bO (zc a12)/\w'.cell? (zq w.heap.size 13)=bO (zc a13)/\w'.cell? (zq w.heap.size 14)=bO (zc a14)/\w'.cell? (zq w.heap.size 15)=bO (zc a15)/\w'.cell? (zq g<|(e8 a12).toNat)=bO (zc<|Sx a12)/\w'.cell? (zq g<|(e8 a13).toNat)=bO (zc<|Sx a13)/\w'.cell? (zq g<|(e8 a14).toNat)=bO (zc<|Sx a14)/\w'.cell? (zq g<|(e8 a15).toNat)=bO (zc<|Sx a15)) (first|exact J|exact q _ (s _).drew|exact q _ (s _)|(refine q _ ?_;(iterate 4 refine Below.setCell ?_ (by show a.heap.size<=_;omega) _);first|exact(s _).drew|exact s _)) (fail)
 clear J q s V W Y Z ba bc bd be n T D;generalize hw3:(a.alloc<|.cells #[zc<|Sx a13^^^c,zc<|Sx a14,zc<|Sx a15,zc<|Sx a12] 379).drew=O at*;clear hw3
 go_wp2
 go_loopw [40] (fun i wr=>∃k:Nat,k<=16/\i=zi k/\R3 w (nK f c k) zF (wd f c k) 4 379 wr) (fun i _=>(16-aJ i).toNat)
 case atStart=>exact⟨0,by omega,rfl,HS.o⟩
 case round=>
  clear HS;obtain⟨k,hk,rfl,inv⟩:=hrel;have p:=inv.sz;by_cases o:k<16
  ·obtain⟨r,M⟩:∃r,k%4=r:=⟨_,rfl⟩
   have e1:(k:Int).tmod 4=(r:Nat):=by rw[Js<|by omega];omega
   have r4:r<4:=by omega
   have r5:(r:Int)<4:=by omega
   have L:wr.cell? (zq w.heap.size k)=bO (zc<|f k):=by rw[inv.b0.cell o];simp[nK]
   have h2:wr.cell? (zq (w.heap.size+1+1) r)=bO (zc<|wd f c k r):=inv.b2.cell r4;have h3:wr.frozen? (zq (w.heap.size+1+1) r)=bK:=inv.b2.frozen;have hv:wd f c k r^^^f k=fJ f c k:=by rw[<-M];exact xox f c k
   have H1:Hid<|R3 w (nK f c k) zF (wd f c<|k+1) 4 379 (wr.setCell (zq (w.heap.size+1+1) r)<|zc<|fJ f c k).drew:=by
    refine((inv.set2 r<|fJ f c k).congr2 fun j hj=>?_).drew;rw[<-M];exact Dp f c k j hj
   have H2:Hid<|∀wq,R3 w (nK f c k) zF (wd f c<|k+1) 4 379 wq->R3 w (nK f c<|k+1) zF (wd f c<|k+1) 4 379 (wq.setCell (zq w.heap.size k)<|zc<|fJ f c k):=fun wq h=>by
    refine(h.set0 k<|fJ f c k).congr0 fun i _=>?_;unfold nK;by_cases e:i=k;subst e;rw[aA rfl,aA<|by omega];rw[aB e];by_cases e2:i<k;rw[aA e2,aA<|by omega];rw[aB e2,aB<|by omega]
   have HW:Hid<|wd f c (k+1) r=fJ f c k:=by
    show _=_;rw[<-Dp f c k r r4,aA M.symm]
   clear inv M;generalize wd f c k r=x at*;generalize hfk:f k=y at*;clear hfk;generalize fJ f c k=v at*
   go_wp2
   go_still_tail 9,(by kernel_rfl)
   go_upto_region 6 with fail
   have inv:=H1.o;generalize(wr.setCell (zq (w.heap.size+1+1) r)<|zc v).drew=w4 at*;clear H1 L h2 h3 p;have p:=inv.sz;have L:w4.cell? (zq (w.heap.size+1+1) r)=bO (zc v):=by rw[inv.b2.cell r4,HW.o]
   have h2:w4.cell? (zq w.heap.size k)=bO (zc<|nK f c k k):=inv.b0.cell o;have h3:w4.frozen? (zq w.heap.size k)=bK:=inv.b0.frozen;have HI:=H2.o w4 inv;clear H2 inv;generalize nK f c k k=z at*
   go_wp2
   go_roundw
   case rel=>first|exact⟨k+1,by omega,by go_num,HI⟩|((repeat apply Exists.intro);exact⟨⟨k+1,by omega,by go_num,HI⟩,rfl⟩)
   case measure=>simp[aJ];omega
  obtain rfl:k=16:=by omega
  have inv:=inv.congr0 (f0':=fJ f c) (fun i G=>by simp[nK,G]);clear hk o p;have F:=inv.b0;have m:=inv.b1;have E:=inv.dI;unfold Wz at F m;have G:=yV<|fJ f c;have L:=yT (fJ f c) 16;have U:=FX zF<|fJ f c;have H:(wr.setRow (w.heap.size+1) (kb (fJ f c) 16).toArray).heap[(w.heap.size+1)]?=bO (.cells (kb (fJ f c) 16).toArray 359 (0,0)):=Yv _ _ _ _ _ _ m;have S:=II (b:=(w.heap.size+1)) (kb (fJ f c) 16).toArray E (by omega);clear inv;generalize hKK:(kb (fJ f c) 16).toArray=K at*;have HK:Hid<|(kb (fJ f c) 16).toArray=K:=hKK;clear hKK
  go_wp2_with (first|refine Vh rfl 359 _ rfl w.heap.size rfl 359 _ (0,0) _ F underlying359 rfl G ?_|refine Jj rfl 359 _ _ rfl (w.heap.size+1) _ rfl rfl 359 _ m G U L ?_)
  exact jz (v:= .agg K) (Yf rfl _ _ (w.heap.size+1) 359 _ (0,0) _ rfl H underlying359 rfl G) rfl ⟨by rw[<-HK.o],S⟩
end
end P
end Go.Proofs.YtjnbhiamaabbgaaGreatDoor
