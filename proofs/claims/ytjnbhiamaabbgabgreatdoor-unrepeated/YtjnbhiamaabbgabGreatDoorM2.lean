import Derived.Test.YtjnbhiamaabbgabGreatDoorM0
import Derived.Lib.BufferWrite
import Derived.Laws.CopyOwn
import Derived.Deep.DeepCutAuto
import Derived.Deep.AppendLies
set_option linter.all false
set_option maxRecDepth 100000
set_option maxHeartbeats 8000000
namespace Go.Proofs.YtjnbhiamaabbgabGreatDoor
open Bool renaming false->bK,true->bL
open Go renaming Calls->bE,MapEntry->aK
open Go.Ending renaming returned->aP
open Go.Instr renaming findKey->aT
open Go.Result renaming andThen->aY
open Go.RowKit renaming Below->bC,intOf->aJ
open Go.World renaming cell?->aQ,setCell->aF
open Option renaming none->bN,some->bO
open _root_.List renaming replicate->aM
namespace P
open A.Tryq Go.RowKit
section
def sG(x:Z8):Z3:=BitVec.ofNat 32 x.toNat
def xv0(x:Z8):u (sG x)=(x.toNat:Int):=by
 have:=x.toNat_lt;simp only[u,sG,BitVec.toNat_ofNat];rw[PZ<|by omega]
def xst(x:Z3):IntKind.u32.wrap (u x)=u x:=JS _ (GZ _)<|GX _
def w16(m:Zu)(k:Nat):Z3:=sG (m<|4*k)<<<24|||sG (m<|4*k+1)<<<16|||sG (m<|4*k+2)<<<8|||sG (m<|4*k+3)
def wl(m:Zu):Nat->List Z3
 |0=>[]
 |n+1=>wl m n++[if n<16 then w16 m n else(wl m n).getD (n-16) 0+MW ((wl m n).getD (n-15) 0)+(wl m n).getD (n-7) 0+MX ((wl m n).getD (n-2) 0)]
def Wf(m:Zu)(i:Nat):Z3:=(wl m<|i+1).getD i 0
def UG(m:Zu):∀n,(wl m n).length=n
 |0=>rfl
 |n+1=>by simp[wl,UG m n]
def MN(m:Zu)(i:Nat):∀n,i<n->(wl m n).getD i 0=Wf m i
 |0,h=>by omega
 |n+1,h=>by
  by_cases e:i=n;subst e;rfl;have a:=UG m n;rw[<-MN m i n<|by omega];simp only[wl,Xo];rw[Z2<|by omega]
def xtc(m:Zu)(i:Nat)(h:i<16):Wf m i=w16 m i:=by
 have a:=UG m i;simp only[Wf,wl,Xo];rw[Zx<|by omega];simp[a,h]
def xtb(m:Zu)(i:Nat)(h:16<=i):Wf m i=Wf m (i-16)+MW (Wf m<|i-15)+Wf m (i-7)+MX (Wf m<|i-2):=by
 have a:=UG m i;have e:Wf m i=(wl m i).getD (i-16) 0+MW ((wl m i).getD (i-15) 0)+(wl m i).getD (i-7) 0+MX ((wl m i).getD (i-2) 0):=by
  simp only[Wf,wl,Xo];rw[Zx<|by omega];simp[a,show¬i<16 by omega]
 rw[e,MN m _ i<|by omega,MN m _ i<|by omega,MN m _ i<|by omega,MN m _ i<|by omega]
attribute [local go_sem] yY EW oG EU EX xst xou xot xsr
def z64:Za:=#[.int .u32 0,.int .u32 0,.int .u32 0,.int .u32 0,.int .u32 0,.int .u32 0,.int .u32 0,.int .u32 0,.int .u32 0,.int .u32 0,.int .u32 0,.int .u32 0,.int .u32 0,.int .u32 0,.int .u32 0,.int .u32 0,.int .u32 0,.int .u32 0,.int .u32 0,.int .u32 0,.int .u32 0,.int .u32 0,.int .u32 0,.int .u32 0,.int .u32 0,.int .u32 0,.int .u32 0,.int .u32 0,.int .u32 0,.int .u32 0,.int .u32 0,.int .u32 0,.int .u32 0,.int .u32 0,.int .u32 0,.int .u32 0,.int .u32 0,.int .u32 0,.int .u32 0,.int .u32 0,.int .u32 0,.int .u32 0,.int .u32 0,.int .u32 0,.int .u32 0,.int .u32 0,.int .u32 0,.int .u32 0,.int .u32 0,.int .u32 0,.int .u32 0,.int .u32 0,.int .u32 0,.int .u32 0,.int .u32 0,.int .u32 0,.int .u32 0,.int .u32 0,.int .u32 0,.int .u32 0,.int .u32 0,.int .u32 0,.int .u32 0,.int .u32 0]
structure Vk(w:Zy)(C:Za)(wr:Zy):Prop where
 dI:bC w.heap.size w wr
 sz:w.heap.size+1<wr.heap.size
 b0:wr.heap[w.heap.size]?=bO (.cells z64 236 (0,0))
 b1:wr.heap[w.heap.size+1]?=bO (.cells C 236 (0,0))
def Vk.start(w:Zy):Vk w z64<|(w.alloc<|.cells z64 236).alloc<|.cells z64 236:=by
 refine⟨((zr _ _).alloc (ze _) _).alloc (by simp) _,by simp,?_,?_⟩
 all_goals (show((w.heap.push _).push _)[_]?=_)
 all_goals (simp only[jh,Xe])
 rw[aB<|by omega,aA trivial];rw[aA trivial]
def Vk.set{w a:Zy}{C:Za}(h:Vk w C a)(k:Nat)(v:Zv):Vk w (C.setIfInBounds k v)<|a.drew.setCell (zq (w.heap.size+1) k) v:=by
 refine⟨(h.dI.drew).setCell (by show w.heap.size<=w.heap.size+1;omega) _,by simpa[aF]using h.sz,?_,qe _ _ _ _ _ _ h.b1⟩;rw[jq _ _ _ _<|by show w.heap.size≠w.heap.size+1;omega];exact h.b0
def cU{C:Za}{k:Nat}{W:Nat->Z3}(b:C.size=64)(hk:k<64)(h:∀i,i<k->C[i]?=bO (zw<|W i)):
  ∀i,i<k+1->(C.setIfInBounds k<|zw<|W k)[i]?=bO (zw<|W i):=by
 intro i a;rw[Z5];by_cases e:k=i;subst e;rw[aA rfl,aA<|by omega];rw[aB e,h i<|by omega]
def xp0{C:Za}{W:Nat->Z3}(b:C.size=64)(h:∀i,i<64->C[i]?=bO (zw<|W i)):C=(wv W).toArray:=by
 apply Yc;intro i;by_cases a:i<64;rw[h i a];simpa using(Gf W i a).symm;rw[ju<|by omega,ju<|by simp[VQ];omega]
def Pe:z64.size=64:=rfl
def xq9:(prog.info? 236).map (·.size)=bO 64:=by kernel_rfl
def xsv(W:Nat->Z3):(wv W).toArray.all (·.oneCell')=bL:=by
 refine qi.2 fun v a=>?_;simp only[wv,List.mem_toArray,qp]at a;obtain⟨i,_,rfl⟩:=a;rfl
def zu6(m:Zu)(g off cap:Nat)(w:Zy)(y:∀j,j<64->w.cell? ⟨g,off+j,bN⟩=bO (.int .u8<|u<|sG<|m j)):
  bE prog 164 #[.slice (bO ⟨g,off,bN⟩) 64 cap] w fun en w'=>en= .returned (.agg (wv<|Wf m).toArray)/\bC w.heap.size w w':=by
 have r:g<w.heap.size:=qz (y 0<|by decide);have q:=zl y;clear y;go_enter func164.1,Tryz.ntmps164
 go_wp2
 go_loopw [7] (fun i wr=>∃(k:Nat) (C:Za),k<=16/\i= .int .i64 k/\Vk w C wr/\C.size=64/\∀i,i<k->C[i]?=bO (.int .u32<|u<|Wf m i)) (fun i _=>(16-aJ i).toNat)
 case atStart=>
  exact⟨0,z64,by omega,rfl,Vk.start w,rfl,fun i f=>by omega⟩
 case round=>
  obtain⟨k,C,hk,rfl,inv,a,b⟩:=hrel;have o:=inv.sz;by_cases e:k<16
  ·have I:wr.cell? ⟨g,off+(4*(k:Int)).toNat,bN⟩=bO (.int .u8<|u<|sG<|m<|4*k):=by
    rw[show(4*(k:Int)).toNat=4*k by omega];exact(inv.dI.cell (p:=⟨g,off+4*k,bN⟩) r).trans<|q.o _<|by omega
   have J:wr.cell? ⟨g,off+(4*(k:Int)+1).toNat,bN⟩=bO (.int .u8<|u<|sG<|m<|4*k+1):=by
    rw[show(4*(k:Int)+1).toNat=4*k+1 by omega];exact(inv.dI.cell (p:=⟨g,off+(4*k+1),bN⟩) r).trans<|q.o _<|by omega
   have K:wr.cell? ⟨g,off+(4*(k:Int)+2).toNat,bN⟩=bO (.int .u8<|u<|sG<|m<|4*k+2):=by
    rw[show(4*(k:Int)+2).toNat=4*k+2 by omega];exact(inv.dI.cell (p:=⟨g,off+(4*k+2),bN⟩) r).trans<|q.o _<|by omega
   have L:wr.cell? ⟨g,off+(4*(k:Int)+3).toNat,bN⟩=bO (.int .u8<|u<|sG<|m<|4*k+3):=by
    rw[show(4*(k:Int)+3).toNat=4*k+3 by omega];exact(inv.dI.cell (p:=⟨g,off+(4*k+3),bN⟩) r).trans<|q.o _<|by omega
   have i0:(0:Int)<=4*(k:Int):=by omega
   have O:4*(k:Int)<64:=by omega
   have i1:(0:Int)<=4*(k:Int)+1:=by omega
   have Q:4*(k:Int)+1<64:=by omega
   have i2:(0:Int)<=4*(k:Int)+2:=by omega
   have R:4*(k:Int)+2<64:=by omega
   have i3:(0:Int)<=4*(k:Int)+3:=by omega
   have S:4*(k:Int)+3<64:=by omega
   have e1:IntKind.i64.wrap (4*(k:Int)+1)=4*(k:Int)+1:=by rw[xn]<;>omega
   have F:IntKind.i64.wrap (4*(k:Int)+2)=4*(k:Int)+2:=by rw[xn]<;>omega
   have e3:IntKind.i64.wrap (4*(k:Int)+3)=4*(k:Int)+3:=by rw[xn]<;>omega
   have T:(k:Int)<64:=by omega
   obtain⟨c,G⟩:∃c,wr.cell? ⟨w.heap.size+1,k,bN⟩=bO c:=⟨C[k]'(by omega),by rw[je _ _ k _ _ _ inv.b1];simp⟩;have H:wr.frozen? ⟨w.heap.size+1,k,bN⟩=bK:=jx _ _ _ _ _ inv.b1;have h:=zl<|cU a (by omega) b;have f:=inv.set k<|.int .u32<|u<|Wf m k;rw[xtc m k e]at f h;clear b;unfold w16 at f h
   go_wp2
   go_still_tail 31,(by kernel_rfl)
   go_wp2
   go_roundw
   case rel=>exact⟨k+1,_,by omega,by go_num,f,by simpa using a,h.o⟩
   case measure=>simp[aJ];omega
  obtain rfl:k=16:=by omega
  clear hk e
  go_wp2
  go_loopw [6] (fun i w2=>∃(k:Nat) (C:Za),16<=k/\k<=64/\i= .int .i64 k/\Vk w C w2/\C.size=64/\∀i,i<k->C[i]?=bO (.int .u32<|u<|Wf m i)) (fun i _=>(64-aJ i).toNat)
  case atStart=>
   exact⟨16,C,by omega,by omega,rfl,inv,a,b⟩
  case round=>
   clear inv a b o;obtain⟨k,C,l,hk,rfl,inv,a,b⟩:=hrel;have o:=inv.sz;by_cases e:k<64
   ·have T:(k:Int)<64:=by omega
    have E:IntKind.i64.wrap ((k:Int)-16)=(k:Int)-16:=by rw[xn]<;>omega
    have V:(16:Int)<=(k:Int):=by omega
    have Z:(k:Int)<80:=by omega
    have X:(k:Int)-16<64:=by omega
    have B:wr.cell? ⟨w.heap.size+1,((k:Int)-16).toNat,bN⟩=bO (.int .u32<|u<|Wf m<|k-16):=by
     rw[show((k:Int)-16).toNat=k-16 by omega,je _ _ _ _ _ _ inv.b1,b _<|by omega]
    have D:IntKind.i64.wrap ((k:Int)-15)=(k:Int)-15:=by rw[xn]<;>omega
    have U:(15:Int)<=(k:Int):=by omega
    have Y:(k:Int)<79:=by omega
    have W:(k:Int)-15<64:=by omega
    have z:wr.cell? ⟨w.heap.size+1,((k:Int)-15).toNat,bN⟩=bO (.int .u32<|u<|Wf m<|k-15):=by
     rw[show((k:Int)-15).toNat=k-15 by omega,je _ _ _ _ _ _ inv.b1,b _<|by omega]
    have e7:IntKind.i64.wrap ((k:Int)-7)=(k:Int)-7:=by rw[xn]<;>omega
    have p7:(7:Int)<=(k:Int):=by omega
    have r7:(k:Int)<71:=by omega
    have q7:(k:Int)-7<64:=by omega
    have c7:wr.cell? ⟨w.heap.size+1,((k:Int)-7).toNat,bN⟩=bO (.int .u32<|u<|Wf m<|k-7):=by
     rw[show((k:Int)-7).toNat=k-7 by omega,je _ _ _ _ _ _ inv.b1,b _<|by omega]
    have F:IntKind.i64.wrap ((k:Int)-2)=(k:Int)-2:=by rw[xn]<;>omega
    have p2:(2:Int)<=(k:Int):=by omega
    have r2:(k:Int)<66:=by omega
    have q2:(k:Int)-2<64:=by omega
    have c2:wr.cell? ⟨w.heap.size+1,((k:Int)-2).toNat,bN⟩=bO (.int .u32<|u<|Wf m<|k-2):=by
     rw[show((k:Int)-2).toNat=k-2 by omega,je _ _ _ _ _ _ inv.b1,b _<|by omega]
    obtain⟨c,G⟩:∃c,wr.cell? ⟨w.heap.size+1,k,bN⟩=bO c:=⟨C[k]'(by omega),by rw[je _ _ k _ _ _ inv.b1];simp⟩;have H:wr.frozen? ⟨w.heap.size+1,k,bN⟩=bK:=jx _ _ _ _ _ inv.b1;have h:=zl<|cU a (by omega) b;have f:=inv.set k<|.int .u32<|u<|Wf m k;rw[xtb m k l]at f h;clear b
    go_wp2
    go_still_tail 23,(by kernel_rfl)
    still_call (xn6 _ _)
    repeat still_step
    still_call (xn7 _ _)
    repeat still_step
    refine wpStill_nil ?_
    go_wp2
    go_roundw
    case rel=>(repeat apply Exists.intro);exact⟨⟨k+1,_,by omega,by omega,by go_num,f,by simpa using a,h.o⟩,rfl⟩
    case measure=>simp[aJ];omega
   obtain rfl:k=64:=by omega
   have t:=xp0 a b;subst t;clear b hk l e;have d:(prog.info? 236).map (·.size)=bO (wv<|Wf m).toArray.size:=by rw[jg,VQ];exact xq9
   have s:=xsv<|Wf m;have M:z64.size=(wv<|Wf m).toArray.size:=by rw[Pe,jg,VQ]
   have n:(wr.setRow w.heap.size (wv<|Wf m).toArray).heap[w.heap.size]?=bO (.cells (wv<|Wf m).toArray 236 (0,0)):=Yv _ _ _ _ _ _ inv.b0;have x:bC w.heap.size w<|wr.setRow w.heap.size (wv<|Wf m).toArray:=inv.dI.trans ⟨rfl,rfl,rfl,by simp,fun j hj=>setRow_other _ _ _ _<|by omega⟩
   go_wp2_with (first|refine Vh rfl 236 _ rfl (w.heap.size+1) rfl 236 _ (0,0) _ inv.b1 underlying236 rfl d ?_|refine Jj rfl 236 _ _ rfl w.heap.size _ rfl rfl 236 _ inv.b0 d M s ?_)
   exact jz (v:= .agg (wv<|Wf m).toArray) (Yf rfl _ _ w.heap.size 236 _ (0,0) _ rfl n underlying236 rfl d) rfl ⟨rfl,x⟩
end
section
def CV(x:Z3):Z8:=UInt8.ofNat x.toNat
def xv1(x:Z3):IntKind.u8.wrap (u x)=((CV x).toNat:Int):=by
 simp[IntKind.wrap,IntKind.bits,IntKind.signed,u,CV]
def wb(x:Z3):Zl:=[CV<|x>>>24,CV<|x>>>16,CV<|x>>>8,CV x]
def sb(s:St):Nat->Zl
 |0=>[]
 |n+1=>sb s n++wb (at8 s n)
def VG(s:St):∀n,(sb s n).length=4*n
 |0=>rfl
 |n+1=>by simp[sb,VG s n,wb];omega
def bv(l:Zl):Ze:=l.map fun b=> .int .u8 (b.toNat:Int)
def Wn(l:Zl):(bv l).length=l.length:=by simp[bv]
def g_(a b:Zl):bv (a++b)=bv a++bv b:=by simp[bv]
def VX:∃i,prog.info? 5=bO i/\i.zero=bO (zb 0)/\i.size=1/\i.bytes=1:=by
 have h:(prog.info? 5).map (fun i=>(i.zero,i.size,i.bytes))=bO (bO<|zb 0,1,1):=by kernel_rfl
 cases hq:prog.info? 5 with
 |none=>rw[hq]at h;simp at h
 |some i=>rw[hq]at h;simp at h;exact⟨i,rfl,h.1,h.2.1,h.2.2⟩
def xq7(s:St)(k:Nat)(hk:k<8)(w:Zy):(Instr.index 233 (.agg #[zw s.a,zw s.b,zw s.c,zw s.d,zw s.e,zw s.f,zw s.g,zw s.h])<|zi k).run prog w= .ok (zw<|at8 s k) w:=by
 obtain rfl|rfl|rfl|rfl|rfl|rfl|rfl|rfl:k=0\/k=1\/k=2\/k=3\/k=4\/k=5\/k=6\/k=7:=by omega
 all_goals kernel_rfl
def Dy(l:Zl):∀v∈bv l,v.oneCell'=bL:=by
 intro v a;simp only[bv,qp]at a;obtain⟨b,_,rfl⟩:=a;rfl
def Ol{w:Zy}{base g n cap:Nat}{l:Zl}(h:w.ownsRow base 5 1 (.slice (bO ⟨g,0,bN⟩) n cap) n<|bv l):n=l.length/\∀j (hj:j<l.length),w.cell? (((zq g 0):Addr).add j)=bO (zb<|l[j].toNat):=by
 obtain⟨d,b⟩:=h;simp only[Wn,Nat.mul_one]at d;refine⟨d.symm,fun j hj=>?_⟩;rcases b with⟨b,_⟩|⟨k,c,a,i,m,e,o,_,p,f⟩
 cases b;cases i;rw[Addr.add_mid,jy,je _ _ j _ _ _ e];have:(a.toList.take<|n*1)[j]?=(bv l)[j]?:=by rw[f]
 rw[Jf]at this;rw[aA<|by omega]at this;simpa[bv,hj]using this
attribute [local go_sem] xow xov xss xv1
def zrp(s:St)(w:Zy):bE prog 165 #[.agg #[zw s.a,zw s.b,zw s.c,zw s.d,zw s.e,zw s.f,zw s.g,zw s.h]] w fun en w'=>en= .returned (.string ⟨(sb s 8).toArray⟩)/\bC w.heap.size w w':=by
 obtain⟨S,Q,M,y,r⟩:=VX;go_enter func165.1,Tryz.ntmps165
 go_wp2_with (refine wpList_make_own _ rfl _ _ 100 rfl (w.heap.size+1) 5 S (zb 0) 1 underlying100 Q M y .i64 .i64 32 32 rfl rfl rfl ?b1 ?b2 ?b3 ?_)
 case b1=>rw[r];decide
 case b2=>decide
 case b3=>simp
 intro w1 m q;have l:w1.heap[w.heap.size]?=bO (.cells #[zw s.a,zw s.b,zw s.c,zw s.d,zw s.e,zw s.f,zw s.g,zw s.h] 233 (0,0)):=(q.block _ (by simp)<|by simp).trans<|jw _ _;have C:w1.cell? (zq w.heap.size 0)=bO (zw s.a):=by rw[je _ _ 0 _ _ _ l];rfl
 have D:w1.cell? (zq w.heap.size 1)=bO (zw s.b):=by rw[je _ _ 1 _ _ _ l];rfl
 have E:w1.cell? (zq w.heap.size 2)=bO (zw s.c):=by rw[je _ _ 2 _ _ _ l];rfl
 have F:w1.cell? (zq w.heap.size 3)=bO (zw s.d):=by rw[je _ _ 3 _ _ _ l];rfl
 have G:w1.cell? (zq w.heap.size 4)=bO (zw s.e):=by rw[je _ _ 4 _ _ _ l];rfl
 have H:w1.cell? (zq w.heap.size 5)=bO (zw s.f):=by rw[je _ _ 5 _ _ _ l];rfl
 have I:w1.cell? (zq w.heap.size 6)=bO (zw s.g):=by rw[je _ _ 6 _ _ _ l];rfl
 have J:w1.cell? (zq w.heap.size 7)=bO (zw s.h):=by rw[je _ _ 7 _ _ _ l];rfl
 have t:bC w.heap.size w w1:=((zr _ _).alloc (ze _) _).grown q (by simp) (fun _ h=>by cases h);have R:w.heap.size+1<w1.heap.size:=by
  rcases m.2 with⟨h,_⟩|⟨Y,O,U,L,_,W,_⟩;cases h;cases L;simpa using(za.1 W).1
 clear q l
 go_wp2
 go_loopw [3,8] (fun v i wr=>∃k:Nat,k<=8/\i=zi k/\v= .slice (bO ⟨w.heap.size+1,0,bN⟩) (4*k) 32/\bC w.heap.size w wr/\wr.ownsRow (w.heap.size+1) 5 1 (.slice (bO ⟨w.heap.size+1,0,bN⟩) (4*k) 32) (4*k) (bv<|sb s k)/\w.heap.size+1<wr.heap.size) (fun _ i _=>(8-aJ i).toNat)
 case atStart=>exact⟨0,by omega,rfl,rfl,t,by simpa[bv,sb]using m,R⟩
 case round=>
  clear m t R C D E F G H I J;obtain⟨k,hk,rfl,rfl,o,m,K⟩:=hrel;by_cases B:k<8
  ·have X:=xq7 s k B
   go_wp2_with (at_builtin;refine wpList_append_fits _ rfl _ _ 100 rfl (w.heap.size+1) 5 S 1 underlying100 Q y (w.heap.size+1) (4*k) 32 (bv<|sb s k) rfl ?own (zq wr.heap.size 0) 4 4 (bv<|wb<|at8 s k) rfl rfl ?c1 ?c2 ?c3 ?_)
   case own=>exact m.alloc _
   case c1=>
    intro j v L;rw[Addr.add_mid,jy,je _ _ j _ _ _<|jw _ _,<-L];simp[bv,wb]
   case c2=>exact Dy _
   case c3=>omega
   intro T n p;rw[<-g_]at n;have z:bC w.heap.size w T:=(o.alloc o.size _).grown p (by simp;omega) (fun _ h=>by cases h;omega);have r:w.heap.size+1<T.heap.size:=zn K<|xz (by simp) p.size;have x:4*k+4=4*(k+1):=by omega
   rw[x]at n;clear p m
   go_wp2
   go_roundw
   case rel=>exact⟨k+1,by omega,by go_num,by rw[<-x],z,n,r⟩
   case measure=>simp[aJ];omega
  obtain rfl:k=8:=by omega
  have V:(convert 100 9<|.slice (bO ⟨w.heap.size+1,0,bN⟩) 32 32).run prog wr= .ok (.string ⟨(sb s 8).toArray⟩) wr:=by
   have h:=run_convert_bytes_back (P:=prog) wr 100 9 5 (zq (w.heap.size+1) 0) 32 (sb s 8) underlying100 underlying5 underlying9 (Ol m).2;rw[VG]at h;exact h
  clear m
  go_wp2
  go_ret
  exact⟨rfl,o⟩
end
section
section
variable {w:Zy}
def bq(q:Nat):Z8:=UInt8.ofNat q
def nb(n:Nat):Nat->Zl
 |0=>[]
 |k+1=>bq (n/256^k)::nb n k
def qt(n:Nat):∀k,(nb n k).length=k
 |0=>rfl
 |k+1=>by simp[nb,qt n k]
def gB(n:Nat):Nat:=64*((n+72)/64)
def uV(x:Zl)(k:Nat):Zl:=x++128::(aM (gB x.length-x.length-1-k) 0++nb (x.length*8) k)
def xN(x:Zl):Zl:=uV x 8
def TH(n:Nat):n+9<=gB n/\gB n<=n+72:=by unfold gB;omega
def Um(x:Zl)(k:Nat)(hk:k<=8):(uV x k).length=gB x.length:=by
 have:=TH x.length;simp[uV,qt];omega
def Hb(x:Zl)(k:Nat)(hk:k<8):(uV x k).set (gB x.length-(k+1)) (bq<|x.length*8/256^k)=uV x (k+1):=by
 have h:=TH x.length;unfold uV;have e:gB x.length-x.length-1-k=(gB x.length-x.length-1-(k+1))+1:=by omega
 rw[e,List.replicate_succ'];generalize hm:gB x.length-x.length-1-(k+1)=m at*;have a:gB x.length-(k+1)=x.length+(1+m):=by omega
 rw[a,Wl _ _<|by omega]
 congr 1
 rw[show x.length+(1+m)-x.length=m+1 by omega,Zz]
 congr 1
 rw[Zq,Wl _ _<|by simp];simp[nb]
def LH(l:Zl)(i:Nat)(b:Z8):(bv l).set i (zb b.toNat)=bv (l.set i b):=by
 simp[bv,List.map_set]
def PN{P:Zp}{ops:Array Oper}{rest:List Oper}{o:Oper}{a:Act}{Q:Exit->Act->Zy->Prop}(n:o.guard=bN)(d s:Operand)(l v:Zt)
  (ho:o.op= .call {callee:= .builtin .copy,args:=#[d,s],argTypes:=#[l,v]})(e:Zt)(D:P.underlying l=bO (.slice e))(q:(P.info? e).map (·.size)=bO 1)
  (g off c f:Nat)(x:ByteArray)(hd:a.eval d= .slice (bO ⟨g,off,bN⟩) c f)(C:a.eval s= .string x)
  (b:Za)(t:Zt)(r:w.heap[g]?=bO (.cells b t (0,0)))(p:x.size<=c)(k:off+x.size<=b.size)(B:Nat)(w0:Zy)(z:bC B w0 w)(m:B<=g)
  (h:∀w',w'.heap[g]?=bO (.cells (b.toList.take off++Lib.byteCells x.data.toList++b.toList.drop (off+x.size)).toArray t (0,0))->bC B w0 w'->wpList P ops Q rest (a.put o.dst<|goInt x.size) w'):wpList P ops Q (o::rest) a w:=by
 refine wpList_plain n fun K y=>?_;have j:=Lib.run_copy_row_string (P:=P) w l v o.type e g off c f x b t D q r p k;have i:=y _ _<|h _ (Yv w g b _ t _ r)<|below_setRow z m _;unfold Oper.wp;simp only[Zq]at j i;simp[execOp,ho,resolve,invoke,builtin,hd,C,j,aY];exact i
def sR{base g n:Nat}(h:w.ownsRow base 5 1 (.slice (bO ⟨g,0,bN⟩) n n) n (madeCells #[zb 0] n).toList):w.heap[g]?=bO (.cells (bv<|aM n 0).toArray 5 (0,0)):=by
 rcases h.2 with⟨d,_⟩|⟨l,b,a,k,m,f,o,_,p,c⟩;cases d;cases k;rw[f];have e:a.toList=bv (aM n 0):=by
  rw[qj<|by simp;omega]at c;rw[c];apply Jt;intro i;by_cases j:i<n;simp[madeCells,bv,j,Nat.mod_one];rw[qo<|by simp[madeCells];omega,qo<|by simp[bv];omega]
 rw[<-e]
def UA:(prog.info? 5).map (·.size)=bO 1:=by kernel_rfl
def xnu(x:ByteArray)(hx:x.size<=60000)(w:Zy):bE prog 162 #[.string x] w fun en w'=>en= .returned (.slice (bO ⟨w.heap.size,0,bN⟩) (gB x.size)<|gB x.size)/\w'.heap[w.heap.size]?=bO (.cells (bv<|xN x.data.toList).toArray 5 (0,0))/\bC w.heap.size w w':=by
 obtain⟨T,Q,F,G,H⟩:=VX;go_enter func162.1,Tryz.ntmps162;have W:=TH x.size;have J:((x.size:Int)+1+8+64-1)/64*64=((gB x.size:Nat):Int):=by unfold gB;omega
 have I:Hid<|((x.size:Int)+1+8+64-1)/64*64=((gB x.size:Nat):Int):=J;clear J;have L:x.data.toList.length=x.size:=rfl;have s:Hid<|x.data.toList.length=x.size:=L;clear L
 go_wp2_with (refine wpList_make_full _ rfl _ _ 100 rfl w.heap.size 5 T (zb 0) 1 underlying100 Q F G .i64 .i64 _ _ (gB x.size) rfl rfl ?l1 ?l2 ?b1 ?b2 ?b3 ?_)
 case l1=>exact I.o
 case l2=>exact I.o
 case b1=>rw[H];omega
 case b2=>unfold maxLen;omega
 case b3=>simp
 intro w1 b p;have l:w1.heap[w.heap.size]?=bO (.cells (bv<|aM (gB x.size) 0).toArray 5 (0,0)):=sR b;have d:bC w.heap.size w w1:=(zr _ _).grown p (ze _) (fun _ h=>by cases h);clear p b
 go_wp2_with (refine PN rfl _ _ 100 9 rfl 5 underlying100 UA w.heap.size 0 _ _ x rfl rfl _ 5 l ?c1 ?c2 w.heap.size w d (ze _) ?_)
 case c1=>omega
 case c2=>simp[Wn];omega
 intro r n f;have a:r.heap[w.heap.size]?=bO (.cells (bv<|x.data.toList++aM (gB x.size-x.size) 0).toArray 5 (0,0)):=by
  rw[n]
  congr 2
  simp[bv,Lib.byteCells]
 have z:r.cell? (zq w.heap.size x.size)=bO (zb 0):=by
  rw[je _ _ _ _ _ _ a];simp only[q8,bv,Jd];rw[Zx<|by simp,Zb,s.o,V9,List.map_replicate,List.getElem?_replicate,aA<|by omega];rfl
 have B:r.frozen? (zq w.heap.size x.size)=bK:=jx _ _ _ _ _ a;have o:(r.setCell (zq w.heap.size x.size)<|zb 128).heap[w.heap.size]?=bO (.cells (bv<|uV x.data.toList 0).toArray 5 (0,0)):=by
  rw[qe _ _ _ _ _ _ a]
  congr 2
  rw[xv]
  congr 1
  rw[show(zb 128)=zb ((128:Z8).toNat)from rfl,LH]
  congr 1
  rw[Wl _ _<|by simp];obtain⟨m,R⟩:∃m,gB x.size-x.size=m+1:=⟨gB x.size-x.size-1,by omega⟩;unfold uV;rw[s.o,R];simp[nb,List.replicate_succ]
 have g:bC w.heap.size w<|r.setCell (zq w.heap.size x.size)<|zb 128:=f.setCell (ze _) _;clear l n a f d;have K:(x.size:Int)<(gB x.size:Nat):=by omega
 have t:((x.size:Nat):Int)*8<18446744073709551616:=by omega
 go_wp2
 go_loopw [5,6] (fun q i wr=>∃k:Nat,k<=8/\i=zi (k+1)/\q= .int .u64 ((x.size*8/256^k:Nat):Int)/\wr.heap[w.heap.size]?=bO (.cells (bv<|uV x.data.toList k).toArray 5 (0,0))/\bC w.heap.size w wr) (fun _ i _=>(9-aJ i).toNat)
 case atStart=>
  exact⟨0,by omega,rfl,by go_num,o,g⟩
 case round=>
  clear z B o g;obtain⟨k,hk,rfl,rfl,j,v⟩:=hrel;have S:x.size*8/256^k<=x.size*8:=Nat.div_le_self _ _;have M:Hid<|x.size*8/256^k/256=x.size*8/256^(k+1):=by show _=_;rw[XY,DR]
  by_cases E:k<8
  ·have D:=Um x.data.toList k hk
   rw[s.o]at D;have C:(wr.setCell (zq w.heap.size<|gB x.size-(k+1))<|zb<|(bq<|x.size*8/256^k).toNat).heap[w.heap.size]?=bO (.cells (bv<|uV x.data.toList<|k+1).toArray 5 (0,0)):=by
    rw[qe _ _ _ _ _ _ j,xv,LH];have e:=Hb x.data.toList k E;rw[s.o]at e;rw[e]
   have y:bC w.heap.size w<|wr.setCell (zq w.heap.size<|gB x.size-(k+1))<|zb<|(bq<|x.size*8/256^k).toNat:=v.setCell (ze _) _;obtain⟨c,U⟩:∃c,wr.cell? (zq w.heap.size<|gB x.size-(k+1))=bO c:=by
    refine⟨(bv<|uV x.data.toList k)[gB x.size-(k+1)]'(by rw[Wn,D];omega),?_⟩;rw[je _ _ _ _ _ _ j];simp
   have V:wr.frozen? (zq w.heap.size<|gB x.size-(k+1))=bK:=jx _ _ _ _ _ j;clear j v D;have X:(0:Int)<=((gB x.size:Nat):Int)-((k:Int)+1):=by omega
   have Y:((gB x.size:Nat):Int)-((k:Int)+1)<((gB x.size:Nat):Int):=by omega
   generalize x.size*8/256^k=q at*;have O:IntKind.u8.wrap (q:Int)=((bq q).toNat:Int):=by simp[IntKind.wrap,IntKind.bits,IntKind.signed,bq]
   clear t
   go_wp2
   go_roundw
   case rel=>exact⟨k+1,by omega,by go_num,by rw[<-M.o];go_num,C,y⟩
   case measure=>simp[aJ];omega
  obtain rfl:k=8:=by omega
  go_wp2
  go_ret
  exact⟨rfl,j,v⟩
def iv:St:=⟨1779033703,3144134277,1013904242,2773480762,1359893119,2600822924,528734635,1541459225⟩
def blk(l:Zl)(k j:Nat):Z8:=l.getD (64*k+j) 0
def vY(m:Zl):Nat->St
 |0=>iv
 |k+1=>Vt (vY m k)<|Wf<|blk m k
def jF(x:Zl):Zl:=sb (vY (xN x)<|gB x.length/64) 8
def yM(x:Zl):(jF x).length=32:=VG _ 8
def dF(w:Zy):Prop:=∀i,i<64->w.cell? (zq 2 i)=bO (zw<|Kc i)
def dF.below{w w':Zy}{B:Nat}(h:dF w)(a:2<B)(b:bC B w w'):dF w':=fun i c=>(b.cell (p:=zq 2 i) a).trans<|h i c
def dF.pos(h:dF w):2<w.heap.size:=qz<|h 0<|by decide
def AF{g:Nat}{l:Zl}(a:w.heap[g]?=bO (.cells (bv l).toArray 5 (0,0)))(k:Nat)(hk:64*k+64<=l.length):∀j,j<64->w.cell? (zq g<|64*k+j)=bO (zb<|u<|sG<|blk l k j):=by
 intro j b;rw[je _ _ _ _ _ _ a,xv0];have h:64*k+j<l.length:=by omega
 simp[bv,h,blk]
def F4{g:Nat}{s:St}(h:w.heap[g]?=bO (.cells #[zw s.a,zw s.b,zw s.c,zw s.d,zw s.e,zw s.f,zw s.g,zw s.h] 233 (0,0))):w.cell? (zq g 0)=bO (zw s.a)/\w.frozen? (zq g 0)=bK/\w.cell? (zq g 1)=bO (zw s.b)/\w.frozen? (zq g 1)=bK/\w.cell? (zq g 2)=bO (zw s.c)/\w.frozen? (zq g 2)=bK/\w.cell? (zq g 3)=bO (zw s.d)/\w.frozen? (zq g 3)=bK/\w.cell? (zq g 4)=bO (zw s.e)/\w.frozen? (zq g 4)=bK/\w.cell? (zq g 5)=bO (zw s.f)/\w.frozen? (zq g 5)=bK/\w.cell? (zq g 6)=bO (zw s.g)/\w.frozen? (zq g 6)=bK/\w.cell? (zq g 7)=bO (zw s.h)/\w.frozen? (zq g 7)=bK:=by
 refine⟨?_,jx _ _ _ _ _ h,?_,jx _ _ _ _ _ h,?_,jx _ _ _ _ _ h,?_,jx _ _ _ _ _ h,?_,jx _ _ _ _ _ h,?_,jx _ _ _ _ _ h,?_,jx _ _ _ _ _ h,?_,jx _ _ _ _ _ h⟩
 all_goals (rw[je _ _ _ _ _ _ h];rfl)
structure yR(w:Zy)(l:Zl)(s:St)(wr:Zy):Prop where
 dI:bC w.heap.size w wr
 sz:w.heap.size+1<wr.heap.size
 b0:wr.heap[w.heap.size]?=bO (.cells #[zw s.a,zw s.b,zw s.c,zw s.d,zw s.e,zw s.f,zw s.g,zw s.h] 233 (0,0))
 b1:wr.heap[w.heap.size+1]?=bO (.cells (bv l).toArray 5 (0,0))
def yR.next{w w1 k o:Zy}{l:Zl}{s:St}(h:yR w l s w1)(i:bC w1.drew.heap.size w1.drew k)(j:bC k.heap.size k o)(t:St):yR w l t<|(((((((o.setCell (zq w.heap.size 0)<|zw t.a).setCell (zq w.heap.size 1)<|zw t.b).setCell (zq w.heap.size 2)<|zw t.c).setCell (zq w.heap.size 3)<|zw t.d).setCell (zq w.heap.size 4)<|zw t.e).setCell (zq w.heap.size 5)<|zw t.f).setCell (zq w.heap.size 6)<|zw t.g).setCell (zq w.heap.size 7)<|zw t.h:=by
 have n:=zn h.sz i.size;have m:=h.dI.drew.trans<|i.mono h.dI.size;have p:=m.trans<|j.mono m.size;refine⟨QG _ _ _ _ _ _ _ _ _ _ _ _ (ze _) p,by rw[o7];exact zn n j.size,?_,?_⟩;exact XJ _ _ _ _ _ _ _ _ _ _ _ _ _ _ _ _ _ _ _<|(j.block _<|by omega).trans<|(i.block _<|by have:=h.sz;show w.heap.size<w1.heap.size;omega).trans h.b0;rw[QH _ _ _ _ _ _ _ _ _ _ _<|by omega];exact(j.block _ n).trans<|(i.block _<|by exact h.sz).trans h.b1
def xon(x:ByteArray)(hx:x.size<=60000)(w:Zy)(D:dF w):bE prog 102 #[.string x] w fun en w'=>en= .returned (.string ⟨(jF x.data.toList).toArray⟩)/\bC w.heap.size w w':=by
 have HT:=zl D;have B:=D.pos;clear D;have hp:=TH x.size;have o:64*(gB x.size/64)=gB x.size:=by unfold gB;omega
 obtain⟨c,E⟩:∃c,gB x.size/64=c:=⟨_,rfl⟩;rw[E]at o;have Y:(xN x.data.toList).length=64*c:=(Um x.data.toList 8<|by omega).trans o.symm;have HL:=zl Y;have Z:=zl E;have ba:64*c<=60072:=by omega
 go_enter func102.1,Tryz.ntmps102
 go_wp2
 refine(xnu x hx _).mono ?_;rintro en w1 ⟨rfl,r,m⟩;rw[<-o];clear o E Y hp
 go_wp2
 have q:yR w (xN x.data.toList) iv w1:=by
  have hz:w.heap.size<w1.heap.size:=zn (by simp) m.size;refine⟨((zr _ _).alloc (ze _) _).trans<|m.mono<|by simp,?_,(m.block _<|by simp).trans ?_,?_⟩;have:=(za.1 r).1;simpa using this;rw[jw];rfl;simpa using r
 clear r m
 go_loopw [5] (fun i wr=>∃k:Nat,k<=c/\i=zi (64*(k:Int))/\yR w (xN x.data.toList) (vY (xN x.data.toList) k) wr) (fun i _=>(64*(c:Int)-aJ i).toNat)
 case atStart=>exact⟨0,by omega,by go_num,q⟩
 case round=>
  clear q;obtain⟨k,hk,rfl,inv⟩:=hrel;have bt:=inv.sz;by_cases bk:k<c
  ·have i0:(0:Int)<=64*(k:Int):=by omega
   have i1:64*(k:Int)<64*(c:Int):=by omega
   have i2:64*(k:Int)+64<=64*(c:Int):=by omega
   have i3:(64*(k:Int)).toNat=64*k:=by omega
   have iw:IntKind.i64.wrap (64*(k:Int)+64)=64*(k:Int)+64:=by rw[xn];omega
   have p:w.heap.size<wr.heap.size:=by omega
   generalize hm:xN x.data.toList=l at*;have z:=AF inv.b1 k (by rw[HL.o];omega);have HM:=zl z;clear z;have C:=zl<|HT.o.below B inv.dI.drew;obtain⟨s,t⟩:∃s,vY l k=s:=⟨_,rfl⟩;rw[t]at inv;have v:=zl t;clear t;have bl:wr.cell? (zq w.heap.size 0)=bO (zw s.a):=by rw[je _ _ 0 _ _ _ inv.b0];rfl
   have bb:wr.frozen? (zq w.heap.size 0)=bK:=jx _ _ _ _ _ inv.b0;have bm:wr.cell? (zq w.heap.size 1)=bO (zw s.b):=by rw[je _ _ 1 _ _ _ inv.b0];rfl
   have bc:wr.frozen? (zq w.heap.size 1)=bK:=jx _ _ _ _ _ inv.b0;have bn:wr.cell? (zq w.heap.size 2)=bO (zw s.c):=by rw[je _ _ 2 _ _ _ inv.b0];rfl
   have bd:wr.frozen? (zq w.heap.size 2)=bK:=jx _ _ _ _ _ inv.b0;have bo:wr.cell? (zq w.heap.size 3)=bO (zw s.d):=by rw[je _ _ 3 _ _ _ inv.b0];rfl
   have be:wr.frozen? (zq w.heap.size 3)=bK:=jx _ _ _ _ _ inv.b0;have bp:wr.cell? (zq w.heap.size 4)=bO (zw s.e):=by rw[je _ _ 4 _ _ _ inv.b0];rfl
   have bf:wr.frozen? (zq w.heap.size 4)=bK:=jx _ _ _ _ _ inv.b0;have bq:wr.cell? (zq w.heap.size 5)=bO (zw s.f):=by rw[je _ _ 5 _ _ _ inv.b0];rfl
   have bg:wr.frozen? (zq w.heap.size 5)=bK:=jx _ _ _ _ _ inv.b0;have br:wr.cell? (zq w.heap.size 6)=bO (zw s.g):=by rw[je _ _ 6 _ _ _ inv.b0];rfl
   have bh:wr.frozen? (zq w.heap.size 6)=bK:=jx _ _ _ _ _ inv.b0;have bs:wr.cell? (zq w.heap.size 7)=bO (zw s.h):=by rw[je _ _ 7 _ _ _ inv.b0];rfl
   have bi:wr.frozen? (zq w.heap.size 7)=bK:=jx _ _ _ _ _ inv.b0
   go_wp2
   go_region_with (first
    |(go_at_call 164;refine(zu6 (blk l k) (w.heap.size+1) (64*k) _ _ ?_).mono ?_;exact HM.o;rintro en w2 ⟨rfl,j⟩;obtain⟨bu,b5,bv,b6,bw,b7,bx,b8,bz,b9,b2,ca,b3,cb,b4,cc⟩:=F4<|(j.block _ p).trans inv.b0;have F:=zn p j.size)
    |(go_at_call 163;refine(AD s (Wf<|blk l k) _ ?_).mono ?_;exact C.o.below (Nat.lt_trans B p) j;rintro en w3 ⟨rfl,n⟩;obtain⟨G,Q,H,R,I,S,J,T,K,U,L,V,M,W,O,X⟩:=F4<|(n.block _ F).trans<|(j.block _ p).trans inv.b0))
   all_goals go_wp2
   all_goals go_roundw
   case rel=>
    refine⟨k+1,by omega,by go_num,?_⟩;show yR w l (Vt (vY l k) _) _;rw[v.o];exact inv.next j n _
   case measure=>simp[aJ];omega
   case rel=>
    refine⟨k+1,by omega,by go_num,?_⟩;show yR w l (Vt (vY l k) _) _;rw[v.o];exact inv.next j n _
   case measure=>simp[aJ];omega
   case rel=>
    refine⟨k+1,by omega,by go_num,?_⟩;show yR w l (Vt (vY l k) _) _;rw[v.o];exact inv.next j n _
   case measure=>simp[aJ];omega
  obtain rfl:k=c:=by omega
  obtain⟨s,t⟩:∃s,vY (xN x.data.toList) k=s:=⟨_,rfl⟩;rw[t]at inv;have v:Hid<|jF x.data.toList=sb s 8:=by show sb (vY (xN x.data.toList)<|gB x.size/64) 8=_;rw[Z.o,t]
  clear t;obtain⟨G,Q,H,R,I,S,J,T,K,U,L,V,M,W,O,X⟩:=F4 inv.b0;have y:=inv.dI;have bj:¬64*(k:Int)<64*(k:Int):=by omega
  go_wp2
  refine(zrp s _).mono ?_;rintro en w2 ⟨rfl,j⟩
  go_wp2
  go_ret
  exact⟨by rw[v.o];rfl,y.trans<|j.mono y.size⟩
def Yg{a b c:Zy}(h:bC a.heap.size a b)(k:bC b.heap.size b c):bC a.heap.size a c:=h.trans<|k.mono h.size
def st(l:Zl):ByteArray:=⟨l.toArray⟩
@[go_sem] abbrev zs(x:List UInt8):Value:= .string (st x)
def xe(l:Zl):(st l).size=l.length:=rfl
def xvp(x:ByteArray):st x.data.toList=x:=rfl
def zv(a b:Zl):st a++st b=st (a++b):=by
 apply IP;simp[st]
def yX(l:Zl)(b:l.length<=60000)(w:Zy)(a:dF w):bE prog 102 #[.string<|st l] w fun en w'=>en= .returned (.string<|st<|jF l)/\bC w.heap.size w w':=
 xon (st l) b w a
attribute [local go_sem] xe zv
def kc(l:Zl)(c:Z8):Zl:=(l++aM (64-l.length) 0).map (·^^^c)
def LK(l:Zl)(c:Z8)(h:l.length<=64):(kc l c).length=64:=by simp[kc];omega
def hm1(k x:Zl):Zl:=jF<|kc k 0x5c++jF (kc k 0x36++x)
def hk(k:Zl):Zl:=if 64<k.length then jF k else k
def V1(k x:Zl):Zl:=hm1 (hk k) x
def wP(k x:Zl):(V1 k x).length=32:=yM _
def LW(a c:Z8):bits .xor .u8 (a.toNat:Int) (c.toNat:Int)=((a^^^c).toNat:Int):=by
 show IntKind.u8.wrap ((BitVec.ofInt 8 (a.toNat:Int)^^^BitVec.ofInt 8 (c.toNat:Int)).toNat:Int)=_;have b:BitVec.ofInt 8 (a.toNat:Int)=a.toBitVec:=by simp
 have d:BitVec.ofInt 8 (c.toNat:Int)=c.toBitVec:=by simp
 rw[b,d];have h:=(a^^^c).toNat_lt;have e:(a.toBitVec^^^c.toBitVec).toNat=(a^^^c).toNat:=by simp
 rw[e];simp only[IntKind.wrap,IntKind.bits,IntKind.signed];generalize(a^^^c).toNat=q at*;simp;omega
def xk(L:Zl)(c:Z8)(k:Nat):Zl:=(L.take k).map (·^^^c)++L.drop k
def xwi(L:Zl)(c:Z8)(k:Nat)(h:k<L.length):(xk L c k)[k]?=bO L[k]:=by
 unfold xk;rw[Zx<|by simp;omega];simp[Vg<|Nat.le_of_lt h,h]
def xs0(L:Zl)(c:Z8)(k:Nat)(h:k<L.length):(xk L c k).set k (L[k]^^^c)=xk L c (k+1):=by
 unfold xk;rw[Wl _ _<|by simp;omega,xy h];simp only[Zb,xt,Vg<|Nat.le_of_lt h,V9,Jd,xq,DN,Zq]
 congr 1
 rw[Vd h,Z9,Wm]
def xsz(L:Zl)(c:Z8)(k:Nat)(h:L.length<=k):xk L c k=L.map (·^^^c):=by
 simp[xk,qj h,Yp h]
def E2(n:Nat):bv (aM n 0)=aM n (zb 0):=by simp[bv]
def QB(l:Zl)(v:l.length<=64)(c:Z8)(n:Int)(D:n=(c.toNat:Int))(w:Zy):bE prog 169 #[.string<|st l,zb n] w fun en w'=>en= .returned (.string<|st<|kc l c)/\bC w.heap.size w w':=by
 subst D;go_enter func169.1,Tryz.ntmps169
 go_wp2_with (refine PN rfl _ _ 100 9 rfl 5 underlying100 UA w.heap.size 0 _ _ (st l) rfl rfl _ 300 (jw _ _) ?c1 ?c2 w.heap.size w ?c3 (ze _) ?_)
 case c1=>rw[xe];exact v
 case c2=>simpa[xe]using v
 case c3=>exact(zr _ _).alloc (ze _) _
 intro w1 g f;obtain⟨L,p⟩:∃L,l++aM (64-l.length) 0=L:=⟨_,rfl⟩;have y:L.length=64:=by rw[<-p];simp;omega
 have m:w1.heap[w.heap.size]?=bO (.cells (bv<|xk L c 0).toArray 300 (0,0)):=by
  rw[g]
  congr 2
  rw[<-p];show _=(bv<|l++aM (64-l.length) 0).toArray;rw[g_];have e:([zb 0,zb 0,zb 0,zb 0,zb 0,zb 0,zb 0,zb 0,zb 0,zb 0,zb 0,zb 0,zb 0,zb 0,zb 0,zb 0,zb 0,zb 0,zb 0,zb 0,zb 0,zb 0,zb 0,zb 0,zb 0,zb 0,zb 0,zb 0,zb 0,zb 0,zb 0,zb 0,zb 0,zb 0,zb 0,zb 0,zb 0,zb 0,zb 0,zb 0,zb 0,zb 0,zb 0,zb 0,zb 0,zb 0,zb 0,zb 0,zb 0,zb 0,zb 0,zb 0,zb 0,zb 0,zb 0,zb 0,zb 0,zb 0,zb 0,zb 0,zb 0,zb 0,zb 0,zb 0]:Ze)=aM 64 (zb 0):=rfl;rw[e,List.drop_replicate,show Lib.byteCells (st l).data.toList=bv l from rfl,E2]
 have x:Hid (kc l c=L.map (·^^^c)):=by show(l++aM (64-l.length) 0).map _=_;rw[p]
 clear g p
 go_wp2
 go_loopw [10] (fun i wr=>∃k:Nat,k<=64/\i=zi k/\wr.heap[w.heap.size]?=bO (.cells (bv<|xk L c k).toArray 300 (0,0))/\bC w.heap.size w wr) (fun i _=>(64-aJ i).toNat)
 case atStart=>exact⟨0,by omega,rfl,m,f⟩
 case round=>
  clear m f;obtain⟨k,hk,rfl,d,r⟩:=hrel;by_cases C:k<64
  ·have o:k<L.length:=by omega
   obtain⟨a,q⟩:∃a,L[k]=a:=⟨_,rfl⟩;have E:wr.cell? (zq w.heap.size k)=bO (zb a.toNat):=by
    rw[je _ _ _ _ _ _ d];have:=xwi L c k o;simp only[bv,q8,List.getElem?_map,this,q];rfl
   have F:wr.frozen? (zq w.heap.size k)=bK:=jx _ _ _ _ _ d;have t:(wr.setCell (zq w.heap.size k)<|zb<|(a^^^c).toNat).heap[w.heap.size]?=bO (.cells (bv<|xk L c<|k+1).toArray 300 (0,0)):=by
    rw[qe _ _ _ _ _ _ d,xv,LH,<-q,xs0 L c k o]
   have s:bC w.heap.size w<|wr.setCell (zq w.heap.size k)<|zb<|(a^^^c).toNat:=r.setCell (ze _) _;have G:=LW a c;clear d r q;generalize a^^^c=b at*
   go_wp2
   go_roundw
   case rel=>exact⟨k+1,by omega,by go_num,t,s⟩
   case measure=>simp[aJ];omega
  obtain rfl:k=64:=by omega
  rw[xsz L c 64<|by omega,<-x.o]at d;have z:(convert 100 9<|.slice (bO ⟨w.heap.size,0,bN⟩) 64 64).run prog wr= .ok (.string<|st<|kc l c) wr:=by
   have h:=run_convert_bytes_back (P:=prog) wr 100 9 5 (zq w.heap.size 0) 64 (kc l c) underlying100 underlying5 underlying9 (fun j B=>by
    rw[Addr.add_mid,jy,je _ _ _ _ _ _ d];simp[bv,B])
   rw[LK l c v]at h;exact h
  clear d
  go_wp2
  go_ret
  exact⟨rfl,r⟩
def L8(k x:Zl)(q:k.length<=5000)(hx:x.length<=5000)(w:Zy)(i:dF w):bE prog 104 #[.string<|st k,.string<|st x] w fun en w'=>en= .returned (.string<|st<|V1 k x)/\bC w.heap.size w w':=by
 have g:=zl i;have b:=i.pos;clear i;by_cases n:64<k.length
 ·have p:(64:Int)<(k.length:Nat):=by omega
  have o:=yM k;have h:Hid<|V1 k x=hm1 (jF k) x:=by show hm1 (hk k) x=_;unfold hk;rw[aA n]
  go_enter func104.1,Tryz.ntmps104
  go_wp2
  refine(yX k (by omega) _ g.o).mono ?_;rintro en w1 ⟨rfl,c⟩
  go_wp2
  refine(QB (jF k) (by omega) 0x36 54 rfl _).mono ?_;rintro en r ⟨rfl,a⟩;have j:=LK (jF k) 0x36<|by omega
  go_wp2
  refine(yX (kc (jF k) 0x36++x) (by rw[zj];omega) _<|(g.o.below b c).below (zn b c.size) a).mono ?_;rintro en s ⟨rfl,d⟩
  go_wp2
  refine(QB (jF k) (by omega) 0x5c 92 rfl _).mono ?_;rintro en t ⟨rfl,e⟩;have l:=LK (jF k) 0x5c (by omega);have m:=yM<|kc (jF k) 0x36++x
  go_wp2
  refine(yX (kc (jF k) 0x5c++jF (kc (jF k) 0x36++x)) (by rw[zj];omega) _<|(((g.o.below b c).below (zn b c.size) a).below (zn b<|xz c.size a.size) d).below (zn b<|xz c.size<|xz a.size d.size) e).mono ?_;rintro en v ⟨rfl,f⟩
  go_wp2
  go_ret
  exact⟨by rw[h.o];rfl,Yg c<|Yg a<|Yg d<|Yg e f⟩
 have p:¬(64:Int)<(k.length:Nat):=by omega
 have h:Hid<|V1 k x=hm1 k x:=by show hm1 (hk k) x=_;unfold hk;rw[aB n]
 go_enter func104.1,Tryz.ntmps104
 go_wp2
 refine(QB k (by omega) 0x36 54 rfl _).mono ?_;rintro en r ⟨rfl,a⟩;have j:=LK k 0x36<|by omega
 go_wp2
 refine(yX (kc k 0x36++x) (by rw[zj];omega) _<|g.o.below b a).mono ?_;rintro en s ⟨rfl,d⟩
 go_wp2
 refine(QB k (by omega) 0x5c 92 rfl _).mono ?_;rintro en t ⟨rfl,e⟩;have l:=LK k 0x5c (by omega);have m:=yM<|kc k 0x36++x
 go_wp2
 refine(yX (kc k 0x5c++jF (kc k 0x36++x)) (by rw[zj];omega) _<|((g.o.below b a).below (zn b a.size) d).below (zn b<|xz a.size d.size) e).mono ?_;rintro en v ⟨rfl,f⟩
 go_wp2
 go_ret
 exact⟨by rw[h.o];rfl,Yg a<|Yg d<|Yg e f⟩
def xpv(k x:Zl)(d:k.length<=4096)(hx:x.length<=4096)(w:Zy)(a:dF w):bE prog 53 #[.string<|st k,.string<|st x] w fun en w'=>en= .returned (.tuple #[.string<|st<|V1 k x,zi 0])/\bC w.heap.size w w':=by
 have b:=zl a;clear a;have e:¬(4096:Int)<(k.length:Nat):=by omega
 have f:¬(4096:Int)<(x.length:Nat):=by omega
 go_enter func53.1,Tryz.ntmps53
 go_wp2
 refine(L8 k x (by omega) (by omega) _ b.o).mono ?_;rintro en w1 ⟨rfl,c⟩
 go_wp2
 go_ret2
 exact⟨rfl,c⟩
end
end
section
attribute [local go_sem] xe zv
def Ge(v:Z8)(w:Zy):(convert 100 9<|.slice (bO ⟨w.heap.size,0,bN⟩) 1 1).run prog (w.alloc<|.cells #[zb v.toNat] 5)= .ok (.string<|st [v]) (w.alloc<|.cells #[zb v.toNat] 5):=by
 have h:=run_convert_bytes_back (P:=prog) (w.alloc<|.cells #[zb v.toNat] 5) 100 9 5 (zq w.heap.size 0) 1 [v] underlying100 underlying5 underlying9 (fun j a=>by
  rw[Addr.add_mid,jy,je _ _ _ _ _ _<|jw _ _];obtain rfl:j=0:=by simpa using a
  rfl)
 exact h
end
section
def xsn(l:Zl)(n:Nat):(st l).extract 0 n=st (l.take n):=by
 apply IP;simp[st]
attribute [local go_sem] xe zv xsn
def bk(key info:Zl):Nat->Zl
 |0=>[]
 |k+1=>V1 key<|bk key info k++(info++[bq<|k+1])
def pW(key info:Zl):Nat->Zl
 |0=>[]
 |k+1=>pW key info k++bk key info (k+1)
def xqh(key a:Zl):∀k,(bk key a k).length<=32
 |0=>by simp[bk]
 |k+1=>by rw[bk,wP];decide
def M8(key a:Zl):∀k,(pW key a k).length=32*k
 |0=>rfl
 |k+1=>by rw[pW,zj,M8 key a k,bk,wP];omega
def vZ(key info:Zl)(n:Nat):Zl:=(pW key info 8).take n
def cA(key a:Zl)(n k:Nat)(b:n<=32*k):∀j,(pW key a<|k+j).take n=(pW key a k).take n
 |0=>rfl
 |j+1=>by
  rw[<-Ja,pW,X8<|by rw[M8];omega];exact cA key a n k b j
def xq0(key a:Zl)(n k:Nat)(hk:k<=8)(b:n<=32*k):(pW key a k).take n=vZ key a n:=by
 have:=cA key a n k b<|8-k;rw[show k+(8-k)=8 by omega]at this;exact this.symm
def SQ(key a:Zl)(n:Nat)(h:n<=255):(vZ key a n).length=n:=by
 rw[vZ,xt,M8];omega
def Rx(n:Int)(v:Z8)(a:n=(v.toNat:Int))(w:Zy):(convert 100 9<|.slice (bO ⟨w.heap.size,0,bN⟩) 1 1).run prog (w.alloc<|.cells #[zb n] 5)= .ok (.string<|st [v]) (w.alloc<|.cells #[zb n] 5):=by
 subst a;exact Ge v w
def Jh{w:Zy}{base e b:Nat}{v:Zv}{n:Nat}{xs:Ze}(h:w.ownsRow base e b v n xs):∃a cap,v= .slice a n cap/\n<=cap:=by
 rcases h.2 with⟨d,f⟩|⟨g,cap,c,j,_,_,i,_⟩;exact⟨bN,0,by rw[d,f],by omega⟩;exact⟨_,_,j,i⟩
def ZO{w f:Zy}{base e a:Nat}{v:Zv}{n:Nat}{xs:Ze}(h:w.ownsRow base e a v n xs)(j:bC w.heap.size w f):f.ownsRow base e a v n xs:=by
 refine⟨h.1,?_⟩;rcases h.2 with i|⟨g,b,c,l,k,d,r⟩
 exact .inl i;exact .inr ⟨g,b,c,l,k,(j.block g (za.1 d).1).trans d,r⟩
def Vs{w:Zy}{base e a:Nat}{v:Zv}{n:Nat}{xs:Ze}(h:w.ownsRow base e a v n xs):∀q,v.ownBlock=bO q->base<=q:=by
 intro q b;rcases h.2 with⟨f,_⟩|⟨g,c,d,j,i,_⟩
 rw[f]at b;cases b;rw[j]at b;cases b;exact i
def RM{w:Zy}{base:Nat}{a:Option Addr}{n cap m:Nat}{l:Zl}(h:w.ownsRow base 5 1 (.slice a n cap) n<|bv l)(r:m<=n):(convert 100 9<|.slice a m cap).run prog w= .ok (zs<|l.take m) w:=by
 have q:l.length=n:=by have:=h.1;simpa[Wn]using this
 cases a with
 |none=>
  rcases h.2 with⟨f,k⟩|⟨g,b,c,d,_⟩;obtain rfl:m=0:=by omega
  rw[run_convert_bytes_string w 100 9 5 bN 0 cap underlying100 underlying5 underlying9];rfl;cases d
 |some ad=>
  rcases h.2 with⟨f,k⟩|⟨g,b,c,d,_⟩;cases f;have e:ad=(zq g 0):=by cases d;rfl
  subst e;have p:=(Ol h).2;have i:=run_convert_bytes_back (P:=prog) w 100 9 5 (zq g 0) cap (l.take m) underlying100 underlying5 underlying9 (fun j o=>by
   rw[xt]at o;rw[p j<|by omega];simp)
  rw[xt,Vg<|by omega]at i;exact i
def zz5(key c:Zl)(G:key.length<=64)(t:c.length<=4063)(n:Nat)(V:n<=255)(w:Zy)(r:dF w):bE prog 106 #[.string<|st key,.string<|st c,.int .i64 n] w fun en w'=>en= .returned (.string<|st<|vZ key c n)/\bC w.heap.size w w':=by
 have I:=zl r;have y:=r.pos;clear r;obtain⟨S,O,z,C,D⟩:=VX;go_enter func106.1,Tryz.ntmps106
 go_wp2
 go_loopw [7,8,9] (fun v b q wr=>∃k:Nat,k<=8/\q= .int .u8 ((k:Int)+1)/\b= .string (st<|bk key c k)/\wr.ownsRow w.heap.size 5 1 v (32*k) (bv<|pW key c k)/\bC w.heap.size w wr) (fun _ _ q _=>(9-aJ q).toNat)
 case atStart=>exact⟨0,by omega,rfl,rfl,Vl _ _ _ _,zr _ _⟩
 case round=>
  obtain⟨k,hk,rfl,rfl,d,m⟩:=hrel;obtain⟨a,h,rfl,F⟩:=Jh d;by_cases Q:32*k<n
  ·have R:(32*(k:Int))<(n:Nat):=by omega
   have L:=xqh key c k;have p:=Rx ((k:Int)+1) (bq<|k+1) (by simp[bq];omega);have H:=zl d;have E:Hid<|bk key c (k+1)=V1 key (bk key c k++(c++[bq<|k+1])):=rfl;clear d;generalize bk key c k=B at*;have g:=wP key<|B++(c++[bq<|k+1])
   go_wp2
   refine(L8 key (B++(c++[bq<|k+1])) (by omega) (by simp;omega) _ ?tab).mono ?_
   case tab=>exact I.o.below y<|m.alloc m.size _
   rintro en Y ⟨rfl,i⟩;have e:=(m.alloc m.size<|.cells #[.int .u8<|(k:Int)+1] 5).trans (i.mono<|xz m.size<|by simp);have j:=ZO (H.o.alloc _) i;rw[<-E.o];have o:(bk key c<|k+1).length=32:=by rw[E.o];exact g
   clear g p i
   go_wp2_with (refine Lib.wpList_append_own_string _ rfl _ _ 100 9 rfl w.heap.size 5 S underlying100 underlying9 O z C D _ (32*k) (bv<|pW key c k) rfl j (st<|bk key c<|k+1) rfl ?c1 ?c2 ?c3 ?_)
   case c1=>rw[xe,o];unfold maxLen;omega
   case c2=>rw[xe,o];omega
   case c3=>exact e.size
   intro T U l f _;have s:=e.grown f e.size<|Vs j;have x:U.ownsRow w.heap.size 5 1 T (32*(k+1))<|bv<|pW key c<|k+1:=by
    have J:32*k+32=32*(k+1):=by omega
    have K:bv (pW key c k)++Lib.strCells (st<|bk key c<|k+1)=bv (pW key c<|k+1):=by rw[pW,g_];rfl
    rw[J,K]at l;exact l
   clear l j f e
   go_wp2
   go_roundw
   case rel=>exact⟨k+1,by omega,by go_num,rfl,x,s⟩
   case measure=>simp[aJ];omega
  have R:¬(32*(k:Int))<(n:Nat):=by omega
  have W:n<=h:=by omega
  have X:(n:Int)<=(h:Nat):=by omega
  have M:(convert 100 9<|.slice a n h).run prog wr= .ok (.string<|st<|vZ key c n) wr:=by
   rw[RM d<|by omega,xq0 key c n k hk<|by omega]
  go_wp2
  go_ret
  exact⟨rfl,m⟩
def CD(a b c:Zl)(k:a.length<=4096)(l:b.length<=4096)(i:c.length<=4063)(n:Nat)(j:n<=255)(w:Zy)(e:dF w):
  bE prog 55 #[.string<|st a,.string<|st b,.string<|st c,.int .i64 n] w fun en w'=>en= .returned (.tuple #[.string<|st<|vZ (V1 b a) c n,.int .i64 0])/\bC w.heap.size w w':=by
 have h:=zl e;have g:=e.pos;clear e;have o:¬(4096:Int)<(a.length:Nat):=by omega
 have p:¬(4096:Int)<(b.length:Nat):=by omega
 have q:¬(4063:Int)<(c.length:Nat):=by omega
 have r:¬(n:Int)<0:=by omega
 have s:¬(255:Int)<(n:Nat):=by omega
 go_enter func55.1,Tryz.ntmps55
 go_wp2
 refine(L8 b a (by omega) (by omega) _ h.o).mono ?_;rintro en w1 ⟨rfl,d⟩;have m:=wP b a
 go_wp2
 refine(zz5 (V1 b a) c (by omega) i n j _<|h.o.below g d).mono ?_;rintro en t ⟨rfl,f⟩
 go_wp2
 go_ret2
 exact⟨rfl,Yg d f⟩
def VZ(c:Int)(n:Nat)(d:0<n)(f:n<=100000)(g:-9223372036854775808<=c)(h:c<=9223372036854775807)(w:Zy):
  bE prog 14 #[zi c,zi n] w fun en w'=>(∃p:Nat,p<n/\en= .returned (zi p))/\w'=w:=by
 by_cases i:c<0
 ·have e:-((c+1).tmod (n:Int))=(((-(c+1)).toNat%n:Nat):Int):=by
   obtain⟨m,b⟩:∃m:Nat,-(c+1)=m:=⟨(-(c+1)).toNat,by omega⟩;rw[b,Wt,show c+1= -(m:Int) by omega,Int.neg_tmod,Int.neg_neg,Js<|by omega];rfl
  have a:=zl e;clear e;go_enter func14.1,Tryz.ntmps14
  go_wp2
  go_ret
  exact⟨⟨(-(c+1)).toNat%n,Nat.mod_lt _ d,congrArg (fun z:Int=>aP<|zi z) a.o⟩,rfl⟩
 have e:c%(n:Int)=((c.toNat%n:Nat):Int):=by
  obtain⟨m,b⟩:∃m:Nat,c=m:=⟨c.toNat,by omega⟩;rw[b,Wt];rfl
 have a:=zl e;clear e;go_enter func14.1,Tryz.ntmps14
 go_wp2
 go_ret
 exact⟨⟨c.toNat%n,Nat.mod_lt _ d,congrArg (fun z:Int=>aP<|zi z) a.o⟩,rfl⟩
end
section
attribute [local go_sem] yY EW oG EU EX xe zv
attribute [local go_sem] Cz Ez Cv Dc Cq Di Cy Fb Cw Db Ey Dj Cx Ep Cs Df Cu De Cr Dh
def Zk(l:Zl):Nat:=l.foldl (fun n b=>n*256+b.toNat) 0
def a9(l:Zl)(b:Z8):Zk (l++[b])=Zk l*256+b.toNat:=by simp[Zk]
def Uj:∀(l:Zl) (n:Nat),l.foldl (fun n b=>n*256+b.toNat) n<(n+1)*256^l.length
 |[],n=>by simp
 |b::r,n=>by
  have a:=b.toNat_lt;have h:=Uj r<|n*256+b.toNat;rw[J4,zh,DR];refine zn h ?_;rw[Nat.mul_comm (256^r.length) 256,<-Nat.mul_assoc];exact Nat.mul_le_mul_right _<|by omega
def LF(l:Zl):Zk l<256^l.length:=by
 have:=Uj l 0;simpa[Zk]using this
def xnt(q:Nat)(b:Z8)(e:q<281474976710656):bits .or .i64 ((q:Int)*256) (b.toNat:Int)=((q*256+b.toNat:Nat):Int):=by
 have d:=b.toNat_lt;show IntKind.i64.wrap ((BitVec.ofInt 64 ((q:Int)*256)|||BitVec.ofInt 64 (b.toNat:Int)).toNat:Int)=_;have a:(BitVec.ofInt 64<|(q:Int)*256).toNat=2^8*q:=by
  rw[show((q:Int)*256)=((2^8*q:Nat):Int) by omega,BitVec.ofInt_natCast,BitVec.toNat_ofNat,PZ<|by omega]
 have c:(BitVec.ofInt 64 (b.toNat:Int)).toNat=b.toNat:=by
  rw[BitVec.ofInt_natCast,BitVec.toNat_ofNat,PZ<|by omega]
 rw[BitVec.toNat_or,a,c,<-Nat.two_pow_add_eq_or_of_lt<|by omega];rw[xn];omega
end
section
attribute [local go_sem] xe zv
section
variable {tv:Zv}
structure xb(S:ZP)(w w':Zy):Prop where
 os:w'.os=w.os
 output:w'.output=w.output
 size:w.heap.size<=w'.heap.size
 block:∀k,k<w.heap.size->¬S k->w'.heap[k]?=w.heap[k]?
theorem xb.refl(S:ZP)(w:Zy):xb S w w:=⟨rfl,rfl,ze _,fun _ _ _=>rfl⟩
def xb.trans{S:ZP}{a b c:Zy}(h:xb S a b)(k:xb S b c):xb S a c:=⟨k.os.trans h.os,k.output.trans h.output,xz h.size k.size,fun i d e=>(k.block i (zn d h.size) e).trans<|h.block i d e⟩
def xb.mono{S c:ZP}{a b:Zy}(h:xb S a b)(k:∀x,S x->c x):xb c a b:=⟨h.os,h.output,h.size,fun i d e=>h.block i d fun x=>e<|k i x⟩
def xb.of_below{S:ZP}{w w':Zy}(h:bC w.heap.size w w'):xb S w w':=⟨h.os,h.output,h.size,fun k hk _=>h.block k hk⟩
def xb.cell{S:ZP}{w w':Zy}(h:xb S w w'){p:Addr}{v:Zv}(b:¬S p.block)(a:w.cell? p=bO v):w'.cell? p=bO v:=
 (Zm (w:=w)<|h.block p.block (qz a) b).trans a
def xb.re{S:ZP}{w w':Zy}{t:Nat->Question->Nat}{d:Nat}(h:xb S w<|A.re w' t d):xb S w w':=⟨h.os,h.output,h.size,h.block⟩
def yN(l:Zl)(n:Nat):(st l).extract 0 n=st (l.take n):=by
 apply IP;simp[st]
def J_(l:Zl)(n:Nat):(st l).extract n l.length=st (l.drop n):=by
 apply IP;simp only[st,ByteArray.data_extract,List.extract_toArray,XQ];rw[qj<|by simp]
def YN(w:Zy):bE prog 152 #[.bool bL] w fun e w'=>e= .returned (.tuple #[])/\w'=w:=by
 go_enter func152.1,Tryz.ntmps152
 go_wp2
 go_end0
 exact⟨rfl,rfl⟩
def Wh(tv:Zv)(w:Zy):Prop:=∃t x,tv= .iface t x/\w.cell? (zq 1 0)=bO tv
abbrev eF(tv:Zv):Ending:= .panicked [{v:=tv,recovered:=bK}]
def Ll(w:Zy)(a:Wh tv w):bE prog 152 #[.bool bK] w fun e w'=>e=eF tv/\w'=w:=by
 obtain⟨t,x,rfl,a⟩:=a;go_enter func152.1,Tryz.ntmps152
 go_wp2
 exact⟨rfl,rfl,rfl⟩
def LV(n:Nat)(w:Zy):bE prog 148 #[zi n] w fun e w'=>e= .returned (zs<|nb n 1)/\bC w.heap.size w w':=by
 have c:IntKind.u8.wrap (n:Int)=((bq n).toNat:Int):=by simp[IntKind.wrap,IntKind.bits,IntKind.signed,bq]
 have a:=Rx ((bq n).toNat:Int) (bq n) rfl;have b:Hid<|nb n 1=[bq n]:=by show _=_;simp[nb]
 go_enter func148.1,Tryz.ntmps148
 go_wp2
 go_ret
 exact⟨by rw[b.o];rfl,(zr _ _).alloc (ze _) _⟩
def NG(m:Int)(n:Nat)(h:m=(n:Int))(w:Zy):bE prog 148 #[zi m] w fun e w'=>e= .returned (zs<|nb n 1)/\bC w.heap.size w w':=by subst h;exact LV n w
def xrp(n:Nat):nb n 1=[bq n]:=by simp[nb]
def xrq(n:Nat):nb n 2=nb (n/256) 1++nb n 1:=by simp[nb]
def xnh(n:Nat):nb n 4=nb (n/65536) 2++nb n 2:=by
 simp only[nb,Nat.pow_zero,Nat.pow_one,XY,Nat.div_one,jc,jk]
def RV(n:Nat)(w:Zy):bE prog 157 #[zi n] w fun e w'=>e= .returned (zs<|nb n 2)/\bC w.heap.size w w':=by
 have c:=zl<|xrq n;go_enter func157.1,Tryz.ntmps157
 go_wp2
 refine(NG _ (n/256) (by omega) _).mono ?_;rintro e w1 ⟨rfl,a⟩
 go_wp2
 refine(NG _ n rfl _).mono ?_;rintro e d ⟨rfl,b⟩
 go_wp2
 go_ret
 exact⟨by rw[c.o];rfl,Yg a b⟩
def Ii(m:Int)(n:Nat)(h:m=(n:Int))(w:Zy):bE prog 157 #[zi m] w fun e w'=>e= .returned (zs<|nb n 2)/\bC w.heap.size w w':=by subst h;exact RV n w
def Cn(n:Nat)(w:Zy):bE prog 158 #[zi n] w fun e w'=>e= .returned (zs<|nb n 4)/\bC w.heap.size w w':=by
 have c:=zl<|xnh n;go_enter func158.1,Tryz.ntmps158
 go_wp2
 refine(Ii _ (n/65536) (by omega) _).mono ?_;rintro e w1 ⟨rfl,a⟩
 go_wp2
 refine(Ii _ n rfl _).mono ?_;rintro e d ⟨rfl,b⟩
 go_wp2
 go_ret
 exact⟨by rw[c.o];rfl,Yg a b⟩
def XK(m:Int)(n:Nat)(h:m=(n:Int))(w:Zy):bE prog 158 #[zi m] w fun e w'=>e= .returned (zs<|nb n 4)/\bC w.heap.size w w':=by subst h;exact Cn n w
def Yb(h:Bool)(a:h=bL)(w:Zy):bE prog 152 #[.bool h] w fun e w'=>e= .returned (.tuple #[])/\w'=w:=by subst a;exact YN w
def Xu(h:Bool)(b:h=bK)(w:Zy)(a:Wh tv w):bE prog 152 #[.bool h] w fun e w'=>e=eF tv/\w'=w:=by subst b;exact Ll w a
def xos(b:Nat)(l:Zl)(n:Nat)(f:n<=l.length)(w:Zy)(c:w.cell? ⟨b,0,bN⟩=bO (.string<|st l))(d:w.frozen? ⟨b,0,bN⟩=bK):bE prog 207 #[.pointer<|bO ⟨b,0,bN⟩,.int .i64 n] w fun e w'=>e= .returned (.string<|st<|l.take n)/\w'=w.setCell ⟨b,0,bN⟩ (.string<|st<|l.drop n):=by
 have a:(n:Int)<=(l.length:Nat):=by omega
 go_enter func207.1,Tryz.ntmps207
 go_wp2
 refine(Yb _ (by simp) _).mono ?_;rintro e w1 ⟨rfl,rfl⟩
 go_wp2
 go_ret
 exact⟨by rw[<-yN];rfl,by rw[<-J_]⟩
def Lw(b:Nat)(l:Zl)(n:Nat)(f:l.length<n)(w:Zy)(d:w.cell? (zq b 0)=bO (zs l))(a:Wh tv w):bE prog 207 #[zo b,zi n] w fun e w'=>e=eF tv/\w'=w:=by
 have c:¬(n:Int)<=(l.length:Nat):=by omega
 go_enter func207.1,Tryz.ntmps207
 go_wp2
 refine(Xu _ (by simp) _ a).mono ?_;rintro e w1 ⟨rfl,rfl⟩;exact⟨rfl,rfl,rfl⟩
def Gb(b:Nat)(l:Zl)(m:Int)(n:Nat)(d:m=(n:Int))(f:n<=l.length)(w:Zy)(a:w.cell? (zq b 0)=bO (zs l))(c:w.frozen? (zq b 0)=bK):bE prog 207 #[zo b,zi m] w fun e w'=>e= .returned (zs<|l.take n)/\w'=w.setCell (zq b 0) (zs<|l.drop n):=by subst d;exact xos b l n f w a c
def Ga(b:Nat)(l:Zl)(m:Int)(n:Nat)(d:m=(n:Int))(f:l.length<n)(w:Zy)(c:w.cell? (zq b 0)=bO (zs l))(a:Wh tv w):bE prog 207 #[zo b,zi m] w fun e w'=>e=eF tv/\w'=w:=by subst d;exact Lw b l n f w c a
end
end
section
attribute [local go_sem] yY EW oG EU EX xe zv Fa Da
end
section
attribute [local go_sem] yY EW oG EU EX xe zv
section
variable {W:Nat→Z3}
end
end
section
attribute [local go_sem] xe zv
structure vM(w:Zy)(L:Zl)(Z:Ze)(wr:Zy):Prop where
 dI:bC w.heap.size w wr
 b0:wr.heap[w.heap.size]?=bO (.cells (bv L++Z).toArray 5 ((bv L++Z).length,(bv L++Z).length+1))
def vM.cell{w:Zy}{L:Zl}{Z:Ze}{c:Zy}(h:vM w L Z c)(k:Nat)(a:Z8)(b:L[k]?=bO a):c.cell? (zq w.heap.size k)=bO (zb a.toNat):=by
 rw[je _ _ _ _ _ _ h.b0];have hk:k<L.length:=(XR.1 b).1;rw[q8,Z2<|by rw[Wn];exact hk];simp[bv,b]
def AS(k x:Zl)(a:k.length<=4096)(hx:4096<x.length)(w:Zy):bE prog 53 #[zs k,zs x] w fun en w'=>en= .returned (.tuple #[.string<|st [],zi 1])/\w'=w:=by
 have b:¬(4096:Int)<(k.length:Nat):=by omega
 have c:(4096:Int)<(x.length:Nat):=by omega
 go_enter func53.1,Tryz.ntmps53
 go_wp2
 go_ret2
 exact⟨rfl,rfl⟩
def QP(b:Nat)(l:Zl)(n:Nat)(S:n<=6)(D:n<=l.length)(w:Zy)(B:w.cell? (zq b 0)=bO (zs l))(C:w.frozen? (zq b 0)=bK):bE prog 208 #[zo b,zi n] w fun e w'=>e= .returned (zi (Zk (l.take n):Nat))/\bC w.heap.size (w.setCell (zq b 0)<|zs<|l.drop n) w':=by
 obtain⟨W,f⟩:∃W,w.setCell (zq b 0) (zs<|l.drop n)=W:=⟨_,rfl⟩;have o:W.heap.size=w.heap.size:=by rw[<-f];simp
 obtain⟨m,r⟩:∃m,l.take n=m:=⟨_,rfl⟩;have M:m.length=n:=by rw[<-r,xt];omega
 have h:=run_bytes_of_string (P:=prog) W 9 100 5 (st m) underlying9 underlying100 underlying5;obtain⟨a,d⟩:∃a,grownCap W (st m).size 0 5=a:=⟨_,rfl⟩;rw[d,xe]at h;have L:m.length<=a:=by rw[<-d];exact grownCap_ge W _ _ _
 obtain⟨Z,z⟩:∃Z:Ze,bytesRow (st m) a=(bv m++Z).toArray:=⟨aM (a-m.length)<|zb 0,by
  unfold bytesRow;rw[xe];apply Array.toList_inj.1;simp[bv,st]⟩
 rw[z]at h;have inv:vM W m Z<|W.drew.alloc<|.cells (bv m++Z).toArray 5 ((bv m++Z).toArray.size,(bv m++Z).toArray.size+1):=
  ⟨((zr _ _).drew).alloc (ze _) _,jw W.drew _⟩
 clear d z;generalize(W.drew.alloc<|.cells (bv m++Z).toArray 5 ((bv m++Z).toArray.size,(bv m++Z).toArray.size+1))=w1 at*;have F:Hid<|bC w.heap.size W w1:=by show bC _ _ _;rw[<-o];exact inv.dI
 have x:=Gb b l (n:Int) n rfl D w B C;rw[f,r]at x;have G:=zl inv;have J:=zl f;have H:=zl r;clear inv o B C f r D;go_enter func208.1,Tryz.ntmps208
 go_wp2
 refine x.mono ?_;clear x;rintro e U ⟨rfl,rfl⟩
 go_wp2
 clear h
 go_loopw [5,13] (fun v i wr=>∃k:Nat,k<=m.length/\i=zi k/\v=zi (Zk (m.take k):Nat)/\wr=w1) (fun _ i _=>(m.length-aJ i).toNat)
 case atStart=>exact⟨0,by omega,rfl,rfl,rfl⟩
 case round=>
  obtain⟨k,hk,rfl,rfl,rfl⟩:=hrel;by_cases j:k<m.length
  ·obtain⟨c,p⟩:∃c,m[k]'j=c:=⟨_,rfl⟩
   have s:=G.o.cell k c (by rw[Yh j,p]);have t:=a9 (m.take k) c;have E:m.take (k+1)=m.take k++[c]:=by rw[xy j,p]
   rw[<-E]at t;have g:=LF<|m.take k;have y:256^(m.take k).length<=256^5:=PM (by decide) (by simp;omega);have I:=zl t;clear t E;generalize hq:Zk (m.take k)=q at*;have Q:q<1099511627776:=zn g y;clear g y hq;have O:=xnt q c (by omega);have K:=c.toNat_lt;have R:(k:Int)<(m.length:Nat):=by omega
   have T:(0:Int)<=(k:Int):=by omega
   go_wp2
   go_roundw
   case rel=>exact⟨k+1,by omega,by go_num,by rw[I.o];go_num,trivial⟩
   case measure=>simp[aJ];omega
  obtain rfl:k=m.length:=by omega
  have R:¬(m.length:Int)<(m.length:Nat):=by omega
  rw[Yw]
  go_wp2
  go_ret
  exact⟨by rw[H.o];rfl,by rw[J.o];exact F.o⟩
def sY{tv:Zv}(b:Nat)(l:Zl)(n:Nat)(d:l.length<n)(w:Zy)(c:w.cell? (zq b 0)=bO (zs l))(a:Wh tv w):bE prog 208 #[zo b,zi n] w fun e w'=>e=eF tv/\w'=w:=by
 have f:=Ga (tv:=tv) b l (n:Int) n rfl d w c a;go_enter func208.1,Tryz.ntmps208
 go_wp2
 refine f.mono ?_;rintro e g ⟨rfl,rfl⟩;exact⟨rfl,rfl,rfl⟩
end
def e8(x:Z8):Int:=(x.toNat:Int)
@[go_sem] abbrev zc(x:UInt8):Value:= .int .u8 (e8 x)
def FC(x:Z8):0<=e8 x:=by simp[e8]
def FB(x:Z8):e8 x<256:=by have:=x.toNat_lt;simp only[e8];omega
def Q_(x:Z8):(e8 x).toNat=x.toNat:=by simp[e8]
def Ex{p:Z8->Prop}(h:∀i:Fin 256,p<|UInt8.ofNat i.val)(x:Z8):p x:=by
 have:=h ⟨x.toNat,x.toNat_lt⟩;simpa using this
def KP(a b:Z8):bits .xor .u8 (e8 a) (e8 b)=e8 (a^^^b):=LW a b
def m9(a:Z8):bits .xor .u8 (e8 a) 27=e8 (a^^^27):=LW a 27
def xmj(a:Z8):bits .xor .u8 (e8 a) 9=e8 (a^^^9):=LW a 9
def n8(a:Z8):bits .xor .u8 (e8 a) 99=e8 (a^^^99):=LW a 99
def NQ(a b:Z8):bits .or .u8 (e8 a) (e8 b)=e8 (a|||b):=by
 show IntKind.u8.wrap ((BitVec.ofInt 8 (a.toNat:Int)|||BitVec.ofInt 8 (b.toNat:Int)).toNat:Int)=_;have c:BitVec.ofInt 8 (a.toNat:Int)=a.toBitVec:=by simp
 have d:BitVec.ofInt 8 (b.toNat:Int)=b.toBitVec:=by simp
 rw[c,d];have h:=(a|||b).toNat_lt;have e:(a.toBitVec|||b.toBitVec).toNat=(a|||b).toNat:=by simp
 rw[e];show _=(((a|||b).toNat:Nat):Int);simp only[IntKind.wrap,IntKind.bits,IntKind.signed];generalize(a|||b).toNat=q at*;simp;omega
def TK(n:Nat)(b:n<8)(k:Int)(hk:k=((2^n:Nat):Int))(a:Z8):IntKind.u8.wrap (e8 a*k)=e8 (a<<<UInt8.ofNat n):=by
 subst hk;obtain rfl|rfl|rfl|rfl|rfl|rfl|rfl|rfl:n=0\/n=1\/n=2\/n=3\/n=4\/n=5\/n=6\/n=7:=by omega
 all_goals (revert a;exact Ex<|by decide+kernel)
def xmb(a:Z8):IntKind.u8.wrap (e8 a*(2:Int))=e8 (a<<<1):=TK 1 (by decide) _ rfl a
def xmc(a:Z8):IntKind.u8.wrap (e8 a*(4:Int))=e8 (a<<<2):=TK 2 (by decide) _ rfl a
def xmd(a:Z8):IntKind.u8.wrap (e8 a*(8:Int))=e8 (a<<<3):=TK 3 (by decide) _ rfl a
def xme(a:Z8):IntKind.u8.wrap (e8 a*(16:Int))=e8 (a<<<4):=TK 4 (by decide) _ rfl a
def TL(n:Nat)(b:n<8)(k:Int)(hk:k=((2^n:Nat):Int))(a:Z8):e8 a/k=e8 (a>>>UInt8.ofNat n):=by
 subst hk;obtain rfl|rfl|rfl|rfl|rfl|rfl|rfl|rfl:n=0\/n=1\/n=2\/n=3\/n=4\/n=5\/n=6\/n=7:=by omega
 all_goals (revert a;exact Ex<|by decide+kernel)
def xmf(a:Z8):e8 a/(16:Int)=e8 (a>>>4):=TL 4 (by decide) _ rfl a
def xmg(a:Z8):e8 a/(32:Int)=e8 (a>>>5):=TL 5 (by decide) _ rfl a
def xmh(a:Z8):e8 a/(64:Int)=e8 (a>>>6):=TL 6 (by decide) _ rfl a
def xmi(a:Z8):e8 a/(128:Int)=e8 (a>>>7):=TL 7 (by decide) _ rfl a
def pQ(x:Z8):Z8:=if 128<=x.toNat then(x<<<1)^^^27 else x<<<1
def xqu(x:Z8)(h:(128:Int)<=e8 x):pQ x=(x<<<1)^^^27:=by unfold pQ;rw[aA<|by simp only[e8]at h;omega]
def xqv(x:Z8)(h:¬(128:Int)<=e8 x):pQ x=x<<<1:=by unfold pQ;rw[aB<|by simp only[e8]at h;omega]
def ND(x:Z8):Z8:=x^^^x<<<1
def NE(x:Z8):Z8:=ND x^^^ND x<<<2
def yC(x:Z8):Z8:=NE x^^^NE x<<<4
def yD(x:Z8):Z8:=if 128<=(yC x).toNat then yC x^^^9 else yC x
def yB(x:Z8)(n:Z8):Z8:=x<<<n|||x>>>(8-n)
def UL(q:Z8):Z8:=q^^^yB q 1^^^yB q 2^^^yB q 3^^^yB q 4^^^99
def Pt:Zl:=[1,3,5,15,17,51,85,255,26,46,114,150,161,248,19,53,95,225,56,72,216,115,149,164,247,2,6,10,30,34,102,170,229,52,92,228,55,89,235,38,106,190,217,112,144,171,230,49,83,245,4,12,20,60,68,204,79,209,104,184,211,110,178,205,76,212,103,169,224,59,77,215,98,166,241,8,24,40,120,136,131,158,185,208,107,189,220,127,129,152,179,206,73,219,118,154,181,196,87,249,16,48,80,240,11,29,39,105,187,214,97,163,254,25,43,125,135,146,173,236,47,113,147,174,233,32,96,160,251,22,58,78,210,109,183,194,93,231,50,86,250,21,63,65,195,94,226,61,71,201,64,192,91,237,44,116,156,191,218,117,159,186,213,100,172,239,42,126,130,157,188,223,122,142,137,128,155,182,193,88,232,35,101,175,234,37,111,177,200,67,197,84,252,31,33,99,165,244,7,9,27,45,119,153,176,203,70,202,69,207,74,222,121,139,134,145,168,227,62,66,198,81,243,14,18,54,90,238,41,123,141,140,143,138,133,148,167,242,13,23,57,75,221,124,132,151,162,253,28,36,108,180,199,82,246,1]
def Qt:Zl:=[1,246,82,199,180,108,36,28,253,162,151,132,124,221,75,57,23,13,242,167,148,133,138,143,140,141,123,41,238,90,54,18,14,243,81,198,66,62,227,168,145,134,139,121,222,74,207,69,202,70,203,176,153,119,45,27,9,7,244,165,99,33,31,252,84,197,67,200,177,111,37,234,175,101,35,232,88,193,182,155,128,137,142,122,223,188,157,130,126,42,239,172,100,213,186,159,117,218,191,156,116,44,237,91,192,64,201,71,61,226,94,195,65,63,21,250,86,50,231,93,194,183,109,210,78,58,22,251,160,96,32,233,174,147,113,47,236,173,146,135,125,43,25,254,163,97,214,187,105,39,29,11,240,80,48,16,249,87,196,181,154,118,219,73,206,179,152,129,127,220,189,107,208,185,158,131,136,120,40,24,8,241,166,98,215,77,59,224,169,103,212,76,205,178,110,211,184,104,209,79,204,68,60,20,12,4,245,83,49,230,171,144,112,217,190,106,38,235,89,55,228,92,52,229,170,102,34,30,10,6,2,247,164,149,115,216,72,56,225,95,53,19,248,161,150,114,46,26,255,85,51,17,15,5,3,1]
def Pw(n:Nat):Z8:=Pt.getD n 0
def Qw(n:Nat):Z8:=Qt.getD n 0
def Rg(n:Nat)(h:n<255):Pw (n+1)=Pw n^^^pQ (Pw n):=
 (by decide+kernel:∀n:Fin 255,Pw (n.val+1)=Pw n.val^^^pQ (Pw n.val)) ⟨n,h⟩
def Rr(n:Nat)(h:n<255):Qw (n+1)=yD (Qw n):=
 (by decide+kernel:∀n:Fin 255,Qw (n.val+1)=yD (Qw n.val)) ⟨n,h⟩
def Bt:Zl:=[99,124,119,123,242,107,111,197,48,1,103,43,254,215,171,118,202,130,201,125,250,89,71,240,173,212,162,175,156,164,114,192,183,253,147,38,54,63,247,204,52,165,229,241,113,216,49,21,4,199,35,195,24,150,5,154,7,18,128,226,235,39,178,117,9,131,44,26,27,110,90,160,82,59,214,179,41,227,47,132,83,209,0,237,32,252,177,91,106,203,190,57,74,76,88,207,208,239,170,251,67,77,51,133,69,249,2,127,80,60,159,168,81,163,64,143,146,157,56,245,188,182,218,33,16,255,243,210,205,12,19,236,95,151,68,23,196,167,126,61,100,93,25,115,96,129,79,220,34,42,144,136,70,238,184,20,222,94,11,219,224,50,58,10,73,6,36,92,194,211,172,98,145,149,228,121,231,200,55,109,141,213,78,169,108,86,244,234,101,122,174,8,186,120,37,46,28,166,180,198,232,221,116,31,75,189,139,138,112,62,181,102,72,3,246,14,97,53,87,185,134,193,29,158,225,248,152,17,105,217,142,148,155,30,135,233,206,85,40,223,140,161,137,13,191,230,66,104,65,153,45,15,176,84,187,22]
def Sx(x:Z8):Z8:=Bt.getD x.toNat 0
def Sn(n:Nat):Z8:=Bt.getD n 0
def xlo(x:Z8):Sn x.toNat=Sx x:=rfl
def qY:Nat->Zl
 |0=>99::aM 255 0
 |n+1=>(qY n).set (Pw n).toNat<|UL<|Qw n
def SH:∀n,(qY n).length=256
 |0=>by rw[qY,zh,List.length_replicate]
 |n+1=>by rw[qY,List.length_set,SH n]
def Nm:qY 255=Bt:=by decide+kernel
def kb(f:Zu)(n:Nat):Ze:=(List.range n).map fun i=> .int .u8 (e8<|f i)
def Vr(f:Zu)(n:Nat):(kb f n).length=n:=by simp[kb]
def wV(f:Zu)(n:Nat):(kb f n).toArray.size=n:=by simp[kb]
def pG(f:Zu)(n i:Nat)(h:i<n):(kb f n)[i]?=bO (zb<|e8<|f i):=by simp[kb,h]
def xrg(f:Zu)(n i:Nat)(h:i<n):(kb f n).toArray[i]?=bO (zb<|e8<|f i):=by simp[kb,h]
def yT(f:Zu)(n:Nat):(kb f n).toArray.all (·.oneCell')=bL:=by
 rw[qi];intro v a;simp only[kb,List.mem_toArray,qp]at a;obtain⟨i,_,rfl⟩:=a;rfl
def Uo{f g:Zu}{n:Nat}(h:∀i,i<n->f i=g i):kb f n=kb g n:=by
 unfold kb;apply List.map_congr_left;intro i a;rw[h i<|by simpa using a]
def xii(f:Zu)(n k:Nat)(v:Z8):(kb f n).set k (zb<|e8 v)=kb (fun i=>if i=k then v else f i) n:=by
 apply Jt;intro i;rw[List.getElem?_set];by_cases a:i<n;rw[pG _ _ _ a,pG _ _ _ a,Vr];by_cases e:k=i;subst e;simp[a];rw[aB e,aB fun q=>e q.symm];have b:(kb f n)[i]?=bN:=by rw[qo];rw[Vr];omega
 have c:(kb (fun i=>if i=k then v else f i) n)[i]?=bN:=by rw[qo];rw[Vr];omega
 rw[b,c,Vr];by_cases e:k=i;rw[aA e,aB<|by omega];rw[aB e]
def xm2(f:Zu)(n k:Nat)(v:Z8):(kb f n).toArray.setIfInBounds k (zb<|e8 v)=(kb (fun i=>if i=k then v else f i) n).toArray:=by
 rw[xv,xii]
def NJ(l:Zl):bv l=kb (fun i=>l.getD i 0) l.length:=by
 apply Jt;intro i;by_cases a:i<l.length;rw[pG _ _ _ a];simp[bv,a,e8];rw[qo<|by rw[Wn];omega,qo<|by rw[Vr];omega]
def kl(f:Zu)(n:Nat):Zl:=(List.range n).map f
def UC(f:Zu)(n:Nat):(kl f n).length=n:=by simp[kl]
def xm3(f:Zu)(n i:Nat)(h:i<n):(kl f n).getD i 0=f i:=by simp[kl,h]
def xt4(l:Zl)(n:Nat)(h:l.length=n):kl (fun i=>l.getD i 0) n=l:=by
 subst h;apply Jt;intro i;by_cases a:i<l.length;simp[kl,a];rw[qo<|by rw[UC];omega,qo<|by omega]
def iX(f g:Zu)(i:Nat):Z8:=f i^^^g i
def iO(f:Zu)(i:Nat):Z8:=Sx<|f<|(i+i%4*4)%16
def lZ(f:Zu)(i:Nat):Z8:=f (i/4*4)^^^f (i/4*4+1)^^^f (i/4*4+2)^^^f (i/4*4+3)^^^f i^^^pQ (f i^^^f (i/4*4+(i%4+1)%4))
def hdF(f:Zu)(c:Z8)(j:Nat):Z8:=if j=0 then Sx (f 13)^^^c else if j=1 then Sx (f 14)else if j=2 then Sx (f 15)else Sx (f 12)
def fJ(f:Zu)(c:Z8):Nat->Z8
 |i+4=>fJ f c i^^^f (i+4)
 |i=>hdF f c i^^^f i
def Ea(f:Zu)(c:Z8):∀i,fJ f c i=if _h:4<=i then fJ f c (i-4)^^^f i else hdF f c i^^^f i
 |0=>rfl
 |1=>rfl
 |2=>rfl
 |3=>rfl
 |i+4=>by rw[dif_pos<|by omega];rfl
def CO:Nat->Z8
 |0=>1
 |n+1=>pQ<|CO n
def gK(f:Zu):Nat->Nat->Z8
 |0=>f
 |n+1=>fJ (gK f n)<|CO n
def CW(k x:Zu):Nat->Nat->Z8
 |0=>iX x<|gK k 0
 |n+1=>iX (lZ<|iO<|CW k x n)<|gK k<|n+1
def jI(k x:Zu):Nat->Z8:=iX (iO<|CW k x 9)<|gK k 10
section
attribute [local go_sem] KP m9 xmj xmb xmc xmd xme
def ZE(x:Z8)(w:Zy):bE prog 174 #[zc x] w fun en w'=>en= .returned (zc<|pQ x)/\w'=w:=by
 by_cases h:(128:Int)<=e8 x
 ·rw[xqu x h]
  go_enter func174.1,Tryz.ntmps174
  go_wp2
  go_ret
  exact⟨rfl,rfl⟩
 rw[xqv x h];go_enter func174.1,Tryz.ntmps174
 go_wp2
 go_ret
 exact⟨rfl,rfl⟩
def ZD(x:Z8)(w:Zy):bE prog 229 #[zc x] w fun en w'=>en= .returned (zc<|yD x)/\w'=w:=by
 by_cases h:(128:Int)<=e8 (yC x)
 ·have e:yD x=yC x^^^9:=by unfold yD;rw[aA<|by simp only[e8]at h;omega]
  rw[e];unfold yC NE ND at*;go_enter func229.1,Tryz.ntmps229
  go_wp2
  go_ret
  exact⟨rfl,rfl⟩
 have e:yD x=yC x:=by unfold yD;rw[aB<|by simp only[e8]at h;omega]
 rw[e];unfold yC NE ND at*;go_enter func229.1,Tryz.ntmps229
 go_wp2
 go_ret
 exact⟨rfl,rfl⟩
def xp1:bits .and .u64 1 7=1:=by decide+kernel
def xr7(x:Z8)(w:Zy):bE prog 228 #[zc x,zi 1] w fun en w'=>en= .returned (zc<|yB x 1)/\w'=w:=by
 have a:=xp1;go_enter func228.1,Tryz.ntmps228
 go_wp2
 go_ret
 exact⟨by show aP (zb<|bits .or .u8 (e8<|x<<<1)<|e8 x/128)=_;rw[xmi,NQ];rfl,rfl⟩
def xp2:bits .and .u64 2 7=2:=by decide+kernel
def xr8(x:Z8)(w:Zy):bE prog 228 #[zc x,zi 2] w fun en w'=>en= .returned (zc<|yB x 2)/\w'=w:=by
 have a:=xp2;go_enter func228.1,Tryz.ntmps228
 go_wp2
 go_ret
 exact⟨by show aP (zb<|bits .or .u8 (e8<|x<<<2)<|e8 x/64)=_;rw[xmh,NQ];rfl,rfl⟩
def xp3:bits .and .u64 3 7=3:=by decide+kernel
def xr9(x:Z8)(w:Zy):bE prog 228 #[zc x,zi 3] w fun en w'=>en= .returned (zc<|yB x 3)/\w'=w:=by
 have a:=xp3;go_enter func228.1,Tryz.ntmps228
 go_wp2
 go_ret
 exact⟨by show aP (zb<|bits .or .u8 (e8<|x<<<3)<|e8 x/32)=_;rw[xmg,NQ];rfl,rfl⟩
def xp4:bits .and .u64 4 7=4:=by decide+kernel
def xsa(x:Z8)(w:Zy):bE prog 228 #[zc x,zi 4] w fun en w'=>en= .returned (zc<|yB x 4)/\w'=w:=by
 have a:=xp4;go_enter func228.1,Tryz.ntmps228
 go_wp2
 go_ret
 exact⟨by show aP (zb<|bits .or .u8 (e8<|x<<<4)<|e8 x/16)=_;rw[xmf,NQ];rfl,rfl⟩
end
section
attribute [local go_sem] KP n8
def xP:Za:=Array.replicate 256<|.int .u8 0
def Tc:xP.size=256:=by simp[xP]
def xm0:((prog.info? 242).map fun i=>(i.zero,i.size))=bO (bO<|.agg xP,256):=by kernel_rfl
def Bh:(prog.info? 242).map (·.size)=bO 256:=by kernel_rfl
def E0:prog.built 242 [(0,zb 99)]=bO (bv<|qY 0).toArray:=by kernel_rfl
def Mo{P:Zp}{ops:Array Oper}{rest:List Oper}{o:Oper}{a:Act}{w:Zy}{Q:Exit->Act->Zy->Prop}(d:o.guard=bN)(t:Zt)(parts:Array<|Nat×Operand)(ho:o.op= .build t parts)(b:Za)
  (c:P.built t (parts.toList.map fun(i,x)=>(i,a.eval x))=bO b)(h:wpList P ops Q rest (a.put o.dst<|.agg b) w):wpList P ops Q (o::rest) a w:=
 wpList_build d t parts ho (by rw[Array.toList_map,c];rfl) (by rw[Array.toList_map,c];exact h)
def zw9(w:Zy)(A:Obj)(c:Za)(t:Zt):((w.alloc A).alloc<|.cells c t).heap[w.heap.size+1]?=bO (.cells c t (0,0)):=by
 have h:=jw (w.alloc A)<|.cells c t;rwa[show(w.alloc A).heap.size=w.heap.size+1 by simp]at h
def zrk(w:Zy)(A:Obj)(c a:Za)(t:Zt):((w.alloc A).alloc<|.cells c t).setRow (w.heap.size+1) a=(w.alloc A).alloc (.cells a t):=by
 have h:=World.setRow_alloc_new (w.alloc A) c a t;rwa[show(w.alloc A).heap.size=w.heap.size+1 by simp]at h
structure wX(w:Zy)(l:Zl)(wr:Zy):Prop where
 dI:bC w.heap.size w wr
 sz:w.heap.size+1<wr.heap.size
 b0:wr.heap[w.heap.size]?=bO (.cells xP 242 (0,0))
 b1:wr.heap[w.heap.size+1]?=bO (.cells (bv l).toArray 242 (0,0))
def wX.start(w:Zy)(l:Zl):wX w l<|(w.alloc<|.cells xP 242).alloc<|.cells (bv l).toArray 242:=by
 refine⟨((zr _ _).alloc (ze _) _).alloc (by simp) _,by simp,?_,?_⟩
 all_goals (show((w.heap.push _).push _)[_]?=_)
 all_goals (simp only[jh,Xe])
 rw[aB<|by omega,aA trivial];rw[aA trivial]
def wX.set{w a:Zy}{l:Zl}(h:wX w l a)(k:Nat)(v:Z8):wX w (l.set k v)<|a.setCell (zq (w.heap.size+1) k)<|zc v:=by
 refine⟨h.dI.setCell (by show w.heap.size<=w.heap.size+1;omega) _,by simpa[aF]using h.sz,?_,?_⟩;rw[jq _ _ _ _<|by show w.heap.size≠w.heap.size+1;omega];exact h.b0;rw[qe _ _ _ _ _ _ h.b1,xv];congr 3;exact LH l k v
def zni(w:Zy):bE prog 172 #[] w fun en w'=>en= .returned (.agg (kb Sn 256).toArray)/\bC w.heap.size w w':=by
 have B:=(zero_of_info xm0).1;have d:xP.size=(bv<|qY 0).toArray.size:=by rw[Tc,jg,Wn,SH]
 have f:(prog.info? 242).map (·.size)=bO (bv<|qY 0).toArray.size:=by rw[jg,Wn,SH];exact Bh
 have b:(bv<|qY 0).toArray.all (·.oneCell')=bL:=all_oneCell_toArray<|Dy _;generalize hzz:xP=zz at*;go_enter func172.1,Tryz.ntmps172
 go_wp2_with (first|refine Mo rfl 242 _ rfl (bv<|qY 0).toArray E0 ?_|(refine Jj rfl 242 _ _ rfl (w.heap.size+1) _ rfl rfl 242 zz (zw9 _ _ _ _) f d b ?_;rw[zrk]))
 subst hzz;clear d f b B
 go_loopw [2,3,5] (fun p q i wr=>∃k:Nat,k<=255/\i=zi k/\p=zc (Pw k)/\q=zc (Qw k)/\wX w (qY k) wr) (fun _ _ i _=>(255-aJ i).toNat)
 case atStart=>exact⟨0,by omega,rfl,rfl,rfl,wX.start w _⟩
 case round=>
  obtain⟨k,hk,rfl,rfl,rfl,inv⟩:=hrel;by_cases a:k<255
  ·have F:(k:Int)<255:=by omega
   have t:Hid<|Pw (k+1)=Pw k^^^pQ (Pw k):=Rg k a;have x:Hid<|Qw (k+1)=yD (Qw k):=Rr k a;have o:Hid<|wX w (qY<|k+1)<|wr.setCell (zq (w.heap.size+1)<|(e8<|Pw k).toNat)<|zc<|UL<|Qw k:=by
    show wX _ _ _;rw[Q_];exact inv.set _ _
   have D:wr.frozen? (zq (w.heap.size+1)<|(e8<|Pw k).toNat)=bK:=jx _ _ _ _ _ inv.b1;obtain⟨c,C⟩:∃c,wr.cell? (zq (w.heap.size+1)<|(e8<|Pw k).toNat)=bO c:=by
    have z:(Pw k).toNat<(bv<|qY k).toArray.size:=by rw[jg,Wn,SH];exact(Pw k).toNat_lt
    exact⟨_,by rw[je _ _ _ _ _ _ inv.b1,Q_];exact xg z⟩
   have G:=FC<|Pw k;have H:=FB<|Pw k;clear inv;generalize Pw k=p at*;generalize Qw k=q at*;unfold UL at o
   go_wp2
   refine(xr7 q _).mono ?_;rintro en h ⟨rfl,rfl⟩
   go_wp2
   refine(xr8 q _).mono ?_;rintro en h ⟨rfl,rfl⟩
   go_wp2
   refine(xr9 q _).mono ?_;rintro en h ⟨rfl,rfl⟩
   go_wp2
   refine(xsa q _).mono ?_;rintro en h ⟨rfl,rfl⟩
   go_wp2
   refine(ZE p _).mono ?_;rintro en h ⟨rfl,rfl⟩
   go_wp2
   refine(ZD q _).mono ?_;rintro en h ⟨rfl,rfl⟩
   go_wp2
   go_roundw
   case rel=>exact⟨k+1,by omega,by go_num,by rw[t.o],by rw[x.o],o.o⟩
   case measure=>simp[aJ];omega
  obtain rfl:k=255:=by omega
  have r:=inv.b1;rw[Nm,NJ,show(fun i=>Bt.getD i 0)=Sn from rfl,show Bt.length=256 from rfl]at r;have b0:=inv.b0;have e:=inv.dI;have m:(prog.info? 242).map (·.size)=bO (kb Sn 256).toArray.size:=by rw[wV];exact Bh
  have y:(kb Sn 256).toArray.all (·.oneCell')=bL:=yT _ _;have n:xP.size=(kb Sn 256).toArray.size:=by rw[Tc,wV]
  have g:(wr.setRow w.heap.size (kb Sn 256).toArray).heap[w.heap.size]?=bO (.cells (kb Sn 256).toArray 242 (0,0)):=Yv _ _ _ _ _ _ b0;have l:bC w.heap.size w<|wr.setRow w.heap.size (kb Sn 256).toArray:=e.trans ⟨rfl,rfl,rfl,by simp,fun j E=>setRow_other _ _ _ _<|by omega⟩;clear inv hk a;generalize hKK:(kb Sn 256).toArray=K at*;have s:Hid<|(kb Sn 256).toArray=K:=hKK;clear hKK;generalize xP=zz at*
  go_wp2_with (first|refine Vh rfl 242 _ rfl (w.heap.size+1) rfl 242 _ (0,0) _ r underlying242 rfl m ?_|refine Jj rfl 242 _ _ rfl w.heap.size _ rfl rfl 242 _ b0 m n y ?_)
  exact jz (v:= .agg K) (Yf rfl _ _ w.heap.size 242 _ (0,0) _ rfl g underlying242 rfl m) rfl ⟨by rw[s.o],l⟩
end
section
attribute [local go_sem] KP
section
variable {w:Zy} {t:Zt} {d:Zt} {a b f2:Zu} {c:Nat} {f:Zu}
def Wz(w:Zy)(b:Nat)(f:Zu)(n:Nat)(t:Zt):Prop:=w.heap[b]?=bO (.cells (kb f n).toArray t (0,0))
def Wz.cell{b n k:Nat}(h:Wz w b f n t)(hk:k<n):w.cell? (zq b k)=bO (zc<|f k):=by
 rw[je _ _ _ _ _ _ h,xrg _ _ _ hk]
def Wz.frozen{b n k:Nat}(h:Wz w b f n t):w.frozen? (zq b k)=bK:=jx _ _ _ _ _ h
def Wz.congr{b n:Nat}{f g:Zu}(h:Wz w b f n t)(e:∀i,i<n->f i=g i):Wz w b g n t:=by
 unfold Wz at*;rw[h,Uo e]
def Wz.set{b n:Nat}(h:Wz w b f n t)(k:Nat)(v:Z8):Wz (w.setCell (zq b k)<|zc v) b (fun i=>if i=k then v else f i) n t:=by
 unfold Wz at*;rw[qe _ _ _ _ _ _ h,xm2]
def Wz.other{b a n k:Nat}{v:Zv}(h:Wz w b f n t)(c:b≠a):Wz (w.setCell (zq a k) v) b f n t:=by
 unfold Wz at*;rw[jq _ _ _ _ c];exact h
def Wz.below{w w':Zy}{B b n:Nat}(h:Wz w b f n t)(c:bC B w w')(a:b<B):Wz w' b f n t:=(c.block _ a).trans h
structure R3(w:Zy)(f0 f1 f2:Zu)(n2:Nat)(t2:Zt)(wr:Zy):Prop where
 dI:bC w.heap.size w wr
 sz:w.heap.size+1+1<wr.heap.size
 b0:Wz wr w.heap.size f0 16 184
 b1:Wz wr (w.heap.size+1) f1 16 184
 b2:Wz wr (w.heap.size+1+1) f2 n2 t2
def R3.start(w:Zy)(a b f2:Zu)(c:Nat)(d:Zt):R3 w a b f2 c d<|((w.alloc<|.cells (kb a 16).toArray 184).alloc<|.cells (kb b 16).toArray 184).alloc<|.cells (kb f2 c).toArray d:=by
 refine⟨(((zr _ _).alloc (ze _) _).alloc (by simp) _).alloc (by simp;omega) _,by simp,?_,?_,?_⟩
 all_goals (show(((w.heap.push _).push _).push _)[_]?=_)
 all_goals (simp only[jh,Xe])
 rw[aB<|by omega,aB<|by omega,aA trivial];rw[aB<|by omega,aA trivial];rw[aA trivial]
def R3.drew{w e:Zy}(h:R3 w a b f2 c d e):R3 w a b f2 c d e.drew:=⟨h.dI.drew,h.sz,h.b0,h.b1,h.b2⟩
def R3.drewN{w e:Zy}(h:R3 w a b f2 c d e)(n:Nat):R3 w a b f2 c d<|e.drewN n:=⟨below_drewN h.dI _,h.sz,h.b0,h.b1,h.b2⟩
def R3.set0{w e:Zy}(h:R3 w a b f2 c d e)(k:Nat)(v:Z8):R3 w (fun i=>if i=k then v else a i) b f2 c d<|e.setCell (zq w.heap.size k)<|zc v:=
 ⟨h.dI.setCell (ze _) _,by simpa[aF]using h.sz,h.b0.set k v,h.b1.other<|by omega,h.b2.other<|by omega⟩
def R3.set2{w e:Zy}(h:R3 w a b f2 c d e)(k:Nat)(v:Z8):R3 w a b (fun i=>if i=k then v else f2 i) c d<|e.setCell (zq (w.heap.size+1+1) k)<|zc v:=
 ⟨h.dI.setCell (by show w.heap.size<=w.heap.size+1+1;omega) _,by simpa[aF]using h.sz,h.b0.other<|by omega,h.b1.other<|by omega,h.b2.set k v⟩
def R3.congr0{w f:Zy}{a f0' b f2:Zu}(h:R3 w a b f2 c d f)(e:∀i,i<16->a i=f0' i):R3 w f0' b f2 c d f:=⟨h.dI,h.sz,h.b0.congr e,h.b1,h.b2⟩
def R3.congr2{w f:Zy}{b c f2 f2':Zu}{a:Nat}(h:R3 w b c f2 a d f)(e:∀i,i<a->f2 i=f2' i):R3 w b c f2' a d f:=⟨h.dI,h.sz,h.b0,h.b1,h.b2.congr e⟩
def zF(_:Nat):Z8:=0
def VR:(#[zb 0,zb 0,zb 0,zb 0,zb 0,zb 0,zb 0,zb 0,zb 0,zb 0,zb 0,zb 0,zb 0,zb 0,zb 0,zb 0]:Za)=(kb zF 16).toArray:=rfl
def RN:(prog.info? 184).map (·.size)=bO 16:=by kernel_rfl
def yV(f:Zu):(prog.info? 184).map (·.size)=bO (kb f 16).toArray.size:=by rw[wV];exact RN
def II{w a:Zy}{b:Nat}(c:Za)(h:bC w.heap.size w a)(d:w.heap.size<=b):bC w.heap.size w<|a.setRow b c:=h.trans ⟨rfl,rfl,rfl,by simp,fun j e=>setRow_other _ _ _ _<|by omega⟩
def FX(f g:Zu):(kb f 16).toArray.size=(kb g 16).toArray.size:=by rw[wV,wV]
def xK(f g:Zu)(k i:Nat):Z8:=if i<k then f i^^^g i else f i
def P8(f g:Zu)(w:Zy):bE prog 175 #[.agg (kb f 16).toArray,.agg (kb g 16).toArray] w fun en w'=>en= .returned (.agg (kb (iX f g) 16).toArray)/\bC w.heap.size w w':=by
 go_enter func175.1,Tryz.ntmps175
 go_wp2
 go_loopw [6] (fun i wr=>∃k:Nat,k<=16/\i=zi k/\R3 w (xK f g k) g zF 16 184 wr) (fun i _=>(16-aJ i).toNat)
 case atStart=>exact⟨0,by omega,rfl,R3.start w f g zF 16 184⟩
 case round=>
  obtain⟨k,hk,rfl,inv⟩:=hrel;have o:=inv.sz;by_cases d:k<16
  ·have r:wr.cell? (zq w.heap.size k)=bO (zc<|f k):=by rw[inv.b0.cell d];simp[xK]
   have x:wr.cell? (zq (w.heap.size+1) k)=bO (zc<|g k):=inv.b1.cell d;have y:wr.frozen? (zq w.heap.size k)=bK:=inv.b0.frozen;have s:Hid<|R3 w (xK f g<|k+1) g zF 16 184<|wr.drew.setCell (zq w.heap.size k)<|zc<|f k^^^g k:=by
    refine(inv.drew.set0 k<|f k^^^g k).congr0 fun i _=>?_;unfold xK;by_cases e:i=k;subst e;simp;rw[aB e];by_cases q:i<k;rw[aA q,aA<|by omega];rw[aB q,aB<|by omega]
   clear inv;generalize f k=a at*;generalize g k=b at*
   go_wp2
   go_still_tail 8,(by kernel_rfl)
   go_wp2
   go_roundw
   case rel=>exact⟨k+1,by omega,by go_num,s.o⟩
   case measure=>simp[aJ];omega
  obtain rfl:k=16:=by omega
  have inv:=inv.congr0 (f0':=iX f g) (fun i l=>by simp[xK,l,iX]);clear hk d o;have j:=inv.b0;have c:=inv.b2;have h:=inv.dI;unfold Wz at j c;have l:=yV<|iX f g;have r:=yT (iX f g) 16;have p:=FX zF<|iX f g;have m:(wr.setRow (w.heap.size+1+1) (kb (iX f g) 16).toArray).heap[(w.heap.size+1+1)]?=bO (.cells (kb (iX f g) 16).toArray 184 (0,0)):=Yv _ _ _ _ _ _ c;have n:=II (b:=(w.heap.size+1+1)) (kb (iX f g) 16).toArray h (by omega);clear inv;generalize hKK:(kb (iX f g) 16).toArray=K at*;have t:Hid<|(kb (iX f g) 16).toArray=K:=hKK;clear hKK
  go_wp2_with (first|refine Vh rfl 184 _ rfl w.heap.size rfl 184 _ (0,0) _ j underlying184 rfl l ?_|refine Jj rfl 184 _ _ rfl (w.heap.size+1+1) _ rfl rfl 184 _ c l p r ?_)
  exact jz (v:= .agg K) (Yf rfl _ _ (w.heap.size+1+1) 184 _ (0,0) _ rfl m underlying184 rfl l) rfl ⟨by rw[<-t.o],n⟩
def sQ(w:Zy)(g:Nat):Prop:=∀i,i<256->w.cell? (zq g i)=bO (zc<|Sn i)
def sQ.below{w w':Zy}{B g:Nat}(h:sQ w g)(b:bC B w w')(a:g<B):sQ w' g:=fun i c=>(b.cell (p:=zq g i) a).trans<|h i c
def sQ.byte{g:Nat}(h:sQ w g)(x:Z8):w.cell? (zq g<|(e8 x).toNat)=bO (zc<|Sx x):=by
 rw[Q_,h _ x.toNat_lt,xlo]
def sQ.lt{g:Nat}(h:sQ w g):g<w.heap.size:=qz<|h 0<|by decide
def GG(f:Zu)(k i:Nat):Z8:=if i<k then iO f i else 0
def Qv(f:Zu)(g:Nat)(w:Zy)(q:sQ w g):bE prog 177 #[.pointer<|bO ⟨g,0,bN⟩,.agg (kb f 16).toArray] w fun en w'=>en= .returned (.agg (kb (iO f) 16).toArray)/\bC w.heap.size w w':=by
 have C:=zl q;have F:=q.lt;clear q;go_enter func177.1,Tryz.ntmps177
 go_wp2
 go_loopw [8] (fun i wr=>∃k:Nat,k<=16/\i= .int .i64 k/\R3 w f zF (GG f k) 16 184 wr) (fun i _=>(16-aJ i).toNat)
 case atStart=>exact⟨0,by omega,rfl,R3.start w f zF zF 16 184⟩
 case round=>
  obtain⟨k,hk,rfl,inv⟩:=hrel;have t:=inv.sz;by_cases n:k<16
  ·obtain⟨r,B⟩:∃r,k%4=r:=⟨_,rfl⟩
   obtain⟨m,z⟩:∃m,(k+r*4)%16=m:=⟨_,rfl⟩;have H:(k:Int).tmod 4=(r:Nat):=by rw[Js<|by omega];omega
   have I:((k:Int)+(r:Int)*4).tmod 16=(m:Nat):=by rw[Js<|by omega];omega
   have T:r<4:=by omega
   have p:IntKind.i64.wrap ((r:Int)*4)=(r:Int)*4:=by rw[xn]<;>omega
   have J:IntKind.i64.wrap ((k:Int)+(r:Int)*4)=(k:Int)+(r:Int)*4:=by rw[xn]<;>omega
   have G:m<16:=by omega
   have Q:(m:Int)<16:=by omega
   have y:=inv.b0.cell G;have L:=(C.o.below inv.dI F).byte<|f m;have M:wr.frozen? ⟨w.heap.size+1+1,k,bN⟩=bK:=inv.b2.frozen;have O:=inv.b2.cell n;have R:=FC<|f m;have S:=FB<|f m;have D:Hid<|R3 w f zF (GG f<|k+1) 16 184<|wr.drew.setCell ⟨w.heap.size+1+1,k,bN⟩<|.int .u8<|e8<|Sx<|f m:=by
    refine(inv.drew.set2 k<|Sx<|f m).congr2 fun i _=>?_;unfold GG;by_cases e:i=k;subst e;rw[aA rfl,aA<|by omega];unfold iO;rw[B,z];rw[aB e];by_cases p:i<k;rw[aA p,aA<|by omega];rw[aB p,aB<|by omega]
   clear inv B z;generalize f m=a at*;generalize GG f k k=c at*
   go_wp2
   go_still_tail 14,(by kernel_rfl)
   go_wp2
   go_roundw
   case rel=>exact⟨k+1,by omega,by go_num,D.o⟩
   case measure=>simp[aJ];omega
  obtain rfl:k=16:=by omega
  have inv:=inv.congr2 (f2':=iO f) (fun i l=>by simp[GG,l]);clear hk n t;have j:=inv.b2;have d:=inv.b1;have h:=inv.dI;unfold Wz at j d;have l:=yV<|iO f;have y:=yT (iO f) 16;have x:=FX zF<|iO f;have o:(wr.setRow (w.heap.size+1) (kb (iO f) 16).toArray).heap[(w.heap.size+1)]?=bO (.cells (kb (iO f) 16).toArray 184 (0,0)):=Yv _ _ _ _ _ _ d;have s:=II (b:=(w.heap.size+1)) (kb (iO f) 16).toArray h (by omega);clear inv;generalize hKK:(kb (iO f) 16).toArray=K at*;have E:=zl hKK;clear hKK
  go_wp2_with (first|refine Vh rfl 184 _ rfl (w.heap.size+1+1) rfl 184 _ (0,0) _ j underlying184 rfl l ?_|refine Jj rfl 184 _ _ rfl (w.heap.size+1) _ rfl rfl 184 _ d l x y ?_)
  exact jz (v:= .agg K) (Yf rfl _ _ (w.heap.size+1) 184 _ (0,0) _ rfl o underlying184 rfl l) rfl ⟨by rw[<-E.o],s⟩
def mK(f:Zu)(k i:Nat):Z8:=if i<k then lZ f i else 0
def xng(f:Zu)(w:Zy):bE prog 176 #[.agg (kb f 16).toArray] w fun en w'=>en= .returned (.agg (kb (lZ f) 16).toArray)/\bC w.heap.size w w':=by
 go_enter func176.1,Tryz.ntmps176
 go_wp2
 go_loopw [4] (fun i wr=>∃p:Nat,p<=16/\p%4=0/\i= .int .i64 p/\R3 w f zF (mK f p) 16 184 wr) (fun i _=>(16-aJ i).toNat)
 case atStart=>exact⟨0,by omega,by omega,rfl,R3.start w f zF zF 16 184⟩
 case round=>
  obtain⟨p,T,y,rfl,inv⟩:=hrel;have g:=inv.sz;by_cases x:p<16
  ·have Z:p+3<16:=by omega
   have hd:decide ((p:Int)<16)=bL:=decide_eq_true (by omega);have O:wr.cell? ⟨w.heap.size,p,bN⟩=bO (.int .u8<|e8<|f p):=inv.b0.cell (by omega);have D:wr.cell? ⟨w.heap.size,p+1,bN⟩=bO (.int .u8<|e8<|f<|p+1):=inv.b0.cell (by omega);have E:wr.cell? ⟨w.heap.size,p+2,bN⟩=bO (.int .u8<|e8<|f<|p+2):=inv.b0.cell (by omega);have Q:=inv.b0.cell (by omega);have r:Hid<|∀j,j<4->lZ f (p+j)=f p^^^f (p+1)^^^f (p+2)^^^f (p+3)^^^f (p+j)^^^pQ (f (p+j)^^^f (p+(j+1)%4)):=fun j S=>by
    unfold lZ;rw[show(p+j)/4*4=p by omega,show(p+j)%4=j by omega]
   have k:=zl inv;clear inv
   go_wp2
   go_quiet (fail)
   go_wp2
   clear O D E Q;obtain⟨a,G⟩:∃a,f p^^^f (p+1)^^^f (p+2)^^^f (p+3)=a:=⟨_,rfl⟩;rw[G]at r⊢
   try rw[hd]
   clear G;clear g;obtain⟨J,B⟩:∃J:Zy,J=wr:=⟨_,rfl⟩
   go_loopw [31] (fun i wq=>∃j:Nat,j<=4/\i= .int .i64 j/\R3 w f zF (mK f<|p+j) 16 184 wq) (fun i _=>(4-aJ i).toNat)
   case atStart=>exact⟨0,by omega,rfl,by exact k.o.drewN _⟩
   case round=>
    clear k B;obtain⟨j,S,rfl,inv⟩:=hrel;have g:=inv.sz;by_cases t:j<4
    ·obtain⟨q,H⟩:∃q,(j+1)%4=q:=⟨_,rfl⟩
     have W:((j:Int)+1).tmod 4=(q:Nat):=by rw[Js<|by omega];omega
     have q4:q<4:=by omega
     have I:p+j<16:=by omega
     have U:p+q<16:=by omega
     have w1:IntKind.i64.wrap ((p:Int)+(j:Int))=(p:Int)+(j:Int):=by rw[xn]<;>omega
     have V:IntKind.i64.wrap ((p:Int)+(q:Int))=(p:Int)+(q:Int):=by rw[xn]<;>omega
     have x1:(p:Int)+(j:Int)<16:=by omega
     have x2:(p:Int)+(q:Int)<16:=by omega
     have x3:(0:Int)<=(p:Int)+(j:Int):=by omega
     have x4:(0:Int)<=(p:Int)+(q:Int):=by omega
     have n1:((p:Int)+(j:Int)).toNat=p+j:=by omega
     have n2:((p:Int)+(q:Int)).toNat=p+q:=by omega
     have D:=inv.b0.cell I;have E:=inv.b0.cell U;have X:wr.frozen? ⟨w.heap.size+1+1,p+j,bN⟩=bK:=inv.b2.frozen;have Y:=inv.b2.cell I;have L:Hid<|∀wq,R3 w f zF (mK f<|p+j) 16 184 wq->R3 w f zF (mK f<|p+(j+1)) 16 184 (wq.setCell ⟨w.heap.size+1+1,p+j,bN⟩<|.int .u8<|e8<|a^^^f (p+j)^^^pQ (f (p+j)^^^f (p+q))):=fun wq h=>by
      refine(h.set2 (p+j) _).congr2 fun i _=>?_;unfold mK;by_cases e:i=p+j;subst e;rw[aA rfl,aA<|by omega,r.o j t,H];rw[aB e];by_cases F:i<p+j;rw[aA F,aA<|by omega];rw[aB F,aB<|by omega]
     have k:=zl inv;clear inv H;generalize f (p+j)=b at*;generalize f (p+q)=c at*;generalize mK f (p+j) (p+j)=z at*
     go_wp2
     go_quiet (fail)
     go_wp2
     refine(ZE (b^^^c) _).mono ?_;rintro en V ⟨rfl,rfl⟩
     go_wp2
     go_roundw
     case rel=>exact⟨j+1,by omega,by go_num,L.o _<|k.o.drewN _⟩
     case measure=>simp[aJ];omega
    obtain rfl:j=4:=by omega
    have k:=zl inv;clear inv r
    go_wp2
    go_roundw
    case rel=>exact⟨p+4,by omega,by omega,by go_num,k.o⟩
    case measure=>simp[aJ];omega
  obtain rfl:p=16:=by omega
  have inv:=inv.congr2 (f2':=lZ f) (fun i n=>by simp[mK,n]);clear T y x g;have m:=inv.b2;have d:=inv.b1;have l:=inv.dI;unfold Wz at m d;have n:=yV<|lZ f;have R:=yT (lZ f) 16;have C:=FX zF<|lZ f;have o:(wr.setRow (w.heap.size+1) (kb (lZ f) 16).toArray).heap[(w.heap.size+1)]?=bO (.cells (kb (lZ f) 16).toArray 184 (0,0)):=Yv _ _ _ _ _ _ d;have s:=II (b:=(w.heap.size+1)) (kb (lZ f) 16).toArray l (by omega);clear inv;generalize hKK:(kb (lZ f) 16).toArray=K at*;have M:=zl hKK;clear hKK
  go_wp2_with (first|refine Vh rfl 184 _ rfl (w.heap.size+1+1) rfl 184 _ (0,0) _ m underlying184 rfl n ?_|refine Jj rfl 184 _ _ rfl (w.heap.size+1) _ rfl rfl 184 _ d n C R ?_)
  exact jz (v:= .agg K) (Yf rfl _ _ (w.heap.size+1) 184 _ (0,0) _ rfl o underlying184 rfl n) rfl ⟨by rw[<-M.o],s⟩
def wd(f:Zu)(c:Z8)(k j:Nat):Z8:=if j<k then fJ f c (j+4*((k-1-j)/4))else hdF f c j
def xox(f:Zu)(c:Z8)(k:Nat):wd f c k (k%4)^^^f k=fJ f c k:=by
 unfold wd;by_cases h:4<=k;rw[aA<|by omega,show k%4+4*((k-1-k%4)/4)=k-4 by omega]
 conv=>rhs;rw[Ea]
 rw[dif_pos h];rw[aB<|by omega,show k%4=k by omega]
 conv=>rhs;rw[Ea]
 rw[dif_neg h]
def Dp(f:Zu)(c:Z8)(k j:Nat)(a:j<4):(if j=k%4 then fJ f c k else wd f c k j)=wd f c (k+1) j:=by
 unfold wd;by_cases e:j=k%4;rw[aA e,aA<|by omega,show j+4*((k+1-1-j)/4)=k by omega];rw[aB e];by_cases h:j<k;rw[aA h,aA<|by omega,show(k+1-1-j)/4=(k-1-j)/4 by omega];rw[aB h,aB<|by omega]
def nK(f:Zu)(c:Z8)(k i:Nat):Z8:=if i<k then fJ f c i else f i
def SN(w':Zy)(b g:Nat)(a12 a13 a14 a15:Z8):Prop:=w'.cell? (zq b 12)=bO (zc a12)/\w'.cell? (zq b 13)=bO (zc a13)/\w'.cell? (zq b 14)=bO (zc a14)/\w'.cell? (zq b 15)=bO (zc a15)/\w'.cell? (zq g<|(e8 a12).toNat)=bO (zc<|Sx a12)/\w'.cell? (zq g<|(e8 a13).toNat)=bO (zc<|Sx a13)/\w'.cell? (zq g<|(e8 a14).toNat)=bO (zc<|Sx a14)/\w'.cell? (zq g<|(e8 a15).toNat)=bO (zc<|Sx a15)
def SN.below{w w':Zy}{B b g:Nat}{c d e f:Z8}(h:SN w b g c d e f)(a:bC B w w')(i:b<B)(j:g<B):SN w' b g c d e f:=
 ⟨(a.cell (p:=zq b 12) i).trans h.1,(a.cell (p:=zq b 13) i).trans h.2.1,(a.cell (p:=zq b 14) i).trans h.2.2.1,(a.cell (p:=zq b 15) i).trans h.c.1,(a.cell (p:=zq g _) j).trans h.d.1,(a.cell (p:=zq g _) j).trans h.e.1,(a.cell (p:=zq g _) j).trans h.f.1,(a.cell (p:=zq g _) j).trans h.g⟩
def zxt(f:Zu)(c:Z8)(g:Nat)(w:Zy)(Q:sQ w g):bE prog 173 #[zo g,.agg (kb f 16).toArray,zc c] w fun en w'=>en= .returned (.agg (kb (fJ f c) 16).toArray)/\bC w.heap.size w w':=by
 have hg:=Q.lt;go_enter func173.1,Tryz.ntmps173
 go_upto_region 1 with fail
 obtain⟨a,l⟩:∃a,(w.alloc<|.cells (kb f 16).toArray 184).alloc (.cells (kb zF 16).toArray 184)=a:=⟨_,rfl⟩;have D:bC w.heap.size w a:=by rw[<-l];exact((zr _ _).alloc (ze _) _).alloc (by simp) _
 have T:a.heap.size=w.heap.size+1+1:=by rw[<-l];simp
 have I:Wz a w.heap.size f 16 184:=by
  rw[<-l];show((w.heap.push _).push _)[_]?=_;simp only[jh,Xe];rw[aB<|by omega,aA trivial]
 have HS:Hid<|R3 w f zF (hdF f c) 4 302 (a.alloc<|.cells #[zc<|Sx (f 13)^^^c,zc<|Sx<|f 14,zc<|Sx<|f 15,zc<|Sx<|f 12] 302).drew:=by
  rw[<-l];exact(R3.start w f zF (hdF f c) 4 302).drew
 have d:=Q.below D hg;have t:a.cell? (zq w.heap.size 12)=bO (zc<|f 12):=I.cell (by decide);have c13:a.cell? (zq w.heap.size 13)=bO (zc<|f 13):=I.cell (by decide);have B:a.cell? (zq w.heap.size 14)=bO (zc<|f 14):=I.cell (by decide);have C:a.cell? (zq w.heap.size 15)=bO (zc<|f 15):=I.cell (by decide);have n:g<a.heap.size:=by omega
 have R:∀X,sQ (a.alloc X) g:=fun X=>d.below ((zr a.heap.size a).alloc (ze _) X) n;have J:SN a w.heap.size g (f 12) (f 13) (f 14)<|f 15:=⟨t,c13,B,C,d.byte _,d.byte _,d.byte _,d.byte _⟩;have q:∀O,bC a.heap.size a O->SN O w.heap.size g (f 12) (f 13) (f 14) (f 15):=fun O hb=>J.below hb (by omega) n;clear t c13 B C;have V:=FC<|f 12;have W:=FC<|f 13;have Y:=FC<|f 14;have Z:=FC<|f 15;have ba:=FB<|f 12;have bc:=FB<|f 13;have bd:=FB<|f 14;have be:=FB<|f 15;clear I d Q R;unfold SN at J q;generalize f 12=a12 at*;generalize f 13=a13 at*;generalize f 14=a14 at*;generalize f 15=a15 at*
 try rw[VR]
 try rw[l]
 clear l;have s:∀X,bC a.heap.size a<|a.alloc X:=fun X=>(zr _ _).alloc (ze _) X
 go_region_held3 (fun w'=>w'.cell? (zq w.heap.size 12)=bO (zc a12)/\w'.cell? (zq w.heap.size 13)=bO (zc a13)/\w'.cell? (zq w.heap.size 14)=bO (zc a14)/\w'.cell? (zq w.heap.size 15)=bO (zc a15)/\w'.cell? (zq g<|(e8 a12).toNat)=bO (zc<|Sx a12)/\w'.cell? (zq g<|(e8 a13).toNat)=bO (zc<|Sx a13)/\w'.cell? (zq g<|(e8 a14).toNat)=bO (zc<|Sx a14)/\w'.cell? (zq g<|(e8 a15).toNat)=bO (zc<|Sx a15)) (first|exact J|exact q _ (s _).drew|exact q _ (s _)|(refine q _ ?_;(iterate 4 refine Below.setCell ?_ (by show a.heap.size<=_;omega) _);first|exact(s _).drew|exact s _)) (fail)
 clear J q s V W Y Z ba bc bd be n T D;generalize hw3:(a.alloc<|.cells #[zc<|Sx a13^^^c,zc<|Sx a14,zc<|Sx a15,zc<|Sx a12] 302).drew=O at*;clear hw3
 go_wp2
 go_loopw [40] (fun i wr=>∃k:Nat,k<=16/\i=zi k/\R3 w (nK f c k) zF (wd f c k) 4 302 wr) (fun i _=>(16-aJ i).toNat)
 case atStart=>exact⟨0,by omega,rfl,HS.o⟩
 case round=>
  clear HS;obtain⟨k,hk,rfl,inv⟩:=hrel;have p:=inv.sz;by_cases o:k<16
  ·obtain⟨r,M⟩:∃r,k%4=r:=⟨_,rfl⟩
   have e1:(k:Int).tmod 4=(r:Nat):=by rw[Js<|by omega];omega
   have r4:r<4:=by omega
   have r5:(r:Int)<4:=by omega
   have L:wr.cell? (zq w.heap.size k)=bO (zc<|f k):=by rw[inv.b0.cell o];simp[nK]
   have h2:wr.cell? (zq (w.heap.size+1+1) r)=bO (zc<|wd f c k r):=inv.b2.cell r4;have h3:wr.frozen? (zq (w.heap.size+1+1) r)=bK:=inv.b2.frozen;have hv:wd f c k r^^^f k=fJ f c k:=by rw[<-M];exact xox f c k
   have H1:Hid<|R3 w (nK f c k) zF (wd f c<|k+1) 4 302 (wr.setCell (zq (w.heap.size+1+1) r)<|zc<|fJ f c k).drew:=by
    refine((inv.set2 r<|fJ f c k).congr2 fun j hj=>?_).drew;rw[<-M];exact Dp f c k j hj
   have H2:Hid<|∀wq,R3 w (nK f c k) zF (wd f c<|k+1) 4 302 wq->R3 w (nK f c<|k+1) zF (wd f c<|k+1) 4 302 (wq.setCell (zq w.heap.size k)<|zc<|fJ f c k):=fun wq h=>by
    refine(h.set0 k<|fJ f c k).congr0 fun i _=>?_;unfold nK;by_cases e:i=k;subst e;rw[aA rfl,aA<|by omega];rw[aB e];by_cases e2:i<k;rw[aA e2,aA<|by omega];rw[aB e2,aB<|by omega]
   have HW:Hid<|wd f c (k+1) r=fJ f c k:=by
    show _=_;rw[<-Dp f c k r r4,aA M.symm]
   clear inv M;generalize wd f c k r=x at*;generalize hfk:f k=y at*;clear hfk;generalize fJ f c k=v at*
   go_wp2
   go_still_tail 9,(by kernel_rfl)
   go_upto_region 6 with fail
   have inv:=H1.o;generalize(wr.setCell (zq (w.heap.size+1+1) r)<|zc v).drew=w4 at*;clear H1 L h2 h3 p;have p:=inv.sz;have L:w4.cell? (zq (w.heap.size+1+1) r)=bO (zc v):=by rw[inv.b2.cell r4,HW.o]
   have h2:w4.cell? (zq w.heap.size k)=bO (zc<|nK f c k k):=inv.b0.cell o;have h3:w4.frozen? (zq w.heap.size k)=bK:=inv.b0.frozen;have HI:=H2.o w4 inv;clear H2 inv;generalize nK f c k k=z at*
   go_wp2
   go_roundw
   case rel=>first|exact⟨k+1,by omega,by go_num,HI⟩|((repeat apply Exists.intro);exact⟨⟨k+1,by omega,by go_num,HI⟩,rfl⟩)
   case measure=>simp[aJ];omega
  obtain rfl:k=16:=by omega
  have inv:=inv.congr0 (f0':=fJ f c) (fun i G=>by simp[nK,G]);clear hk o p;have F:=inv.b0;have m:=inv.b1;have E:=inv.dI;unfold Wz at F m;have G:=yV<|fJ f c;have L:=yT (fJ f c) 16;have U:=FX zF<|fJ f c;have H:(wr.setRow (w.heap.size+1) (kb (fJ f c) 16).toArray).heap[(w.heap.size+1)]?=bO (.cells (kb (fJ f c) 16).toArray 184 (0,0)):=Yv _ _ _ _ _ _ m;have S:=II (b:=(w.heap.size+1)) (kb (fJ f c) 16).toArray E (by omega);clear inv;generalize hKK:(kb (fJ f c) 16).toArray=K at*;have HK:Hid<|(kb (fJ f c) 16).toArray=K:=hKK;clear hKK
  go_wp2_with (first|refine Vh rfl 184 _ rfl w.heap.size rfl 184 _ (0,0) _ F underlying184 rfl G ?_|refine Jj rfl 184 _ _ rfl (w.heap.size+1) _ rfl rfl 184 _ m G U L ?_)
  exact jz (v:= .agg K) (Yf rfl _ _ (w.heap.size+1) 184 _ (0,0) _ rfl H underlying184 rfl G) rfl ⟨by rw[<-HK.o],S⟩
end
end
section
attribute [local go_sem] KP xe
def cF(k:Zu)(r i:Nat):Z8:=if i<256 then Sn i else if i<256+16*(r+1)then gK k ((i-256)/16) ((i-256)%16)else 0
def qZ(i:Nat):Z8:=if i<256 then Sn i else 0
def E1:prog.built 246 [(0,.agg (kb Sn 256).toArray)]=bO (kb qZ 432).toArray:=by kernel_rfl
def PP{B b:Nat}{a:Zy}(c:B<=b):∀(vs:Ze) (o:Nat) (w:Zy),bC B a w->bC B a (w.setCells b o vs)
 |[],_,_,h=>h
 |v::r,o,w,h=>by
  rw[World.setCells];exact PP c r (o+1) _<|h.setCell c _
def Lr(b:Nat):∀(vs:Ze) (o:Nat) (w:Zy),(w.setCells b o vs).heap.size=w.heap.size
 |[],_,_=>rfl
 |v::r,o,w=>by
  rw[World.setCells,Lr b r (o+1) _];simp[aF]
def Ca(f:Zu)(n:Nat):∀v∈kb f n,v.oneCell'=bL:=by
 intro v a;simp only[kb,qp]at a;obtain⟨i,_,rfl⟩:=a;rfl
def xm1(h:Zu)(m:Nat):kb h (m+1)=zc (h 0)::kb (fun i=>h<|i+1) m:=by
 unfold kb;rw[List.range_succ_eq_map];simp[PS]
def Wz.setCells:∀(m:Nat) {w:Zy} {b n:Nat} {f:Zu} {t:Zt} (_:Wz w b f n t) (o:Nat) (h:Zu),Wz (w.setCells b o<|kb h m) b (fun i=>if o<=i/\i<o+m then h (i-o)else f i) n t
 |0,w,b,n,f,t,hr,o,h=>by
  refine(show Wz w b f n t from hr).congr fun i _=>?_;rw[aB<|by omega]
 |m+1,w,b,n,f,t,hr,o,h=>by
  rw[xm1,World.setCells];refine(Wz.setCells m (hr.set o<|h 0) (o+1) fun i=>h<|i+1).congr fun i _=>?_;by_cases e:i=o;subst e;rw[aB<|by omega,aA rfl,aA<|by omega,V9];by_cases a:o+1<=i/\i<o+1+m;rw[aA a,aA<|by omega,show i-(o+1)+1=i-o by omega];rw[aB a,aB e,aB<|by omega]
def Wz.range{w:Zy}{b n o m:Nat}{f h:Zu}{t:Zt}(d:Wz w b f n t)(ho:o+m<=n)(e:∀i,i<m->f (o+i)=h i):w.rangeAt b o<|kb h m:=fun j v c=>by
 have a:j<m:=by have:=(XR.1 c).1;rwa[Vr]at this
 rw[d.cell<|by omega,e j a,<-c,pG _ _ _ a]
def Wz.there{w:Zy}{b n o m:Nat}{f:Zu}{t:Zt}(a:Wz w b f n t)(ho:o+m<=n):w.there b o m:=fun j c=>⟨by rw[a.cell<|by omega];rfl,a.frozen⟩
def Wz.tX{w:Zy}{g r:Nat}{k:Zu}{t:Zt}(h:Wz w g (cF k r) 432 t):sQ w g:=fun i a=>by
 rw[h.cell<|by omega];unfold cF;rw[aA a]
def yQ(k:Zu)(r q j:Nat)(b:q<=r)(a:j<16):cF k r (256+16*q+j)=gK k q j:=by
 unfold cF;rw[aB<|by omega,aA<|by omega,show(256+16*q+j-256)/16=q by omega,show(256+16*q+j-256)%16=j by omega]
def No(l:Zl)(d:l.length=16):((kb qZ 432).take 256++bv l++(kb qZ 432).drop (256+16))=kb (cF (fun i=>l.getD i 0) 0) 432:=by
 apply Jt;intro i;by_cases b:i<256;rw[Zq,Z2<|by rw[xt,Vr];omega,Jf,aA b,pG _ _ _<|by omega,pG _ _ _<|by omega];unfold cF qZ;rw[aA b,aA b];have a:((kb qZ 432).take 256).length=256:=by rw[xt,Vr];rfl
 by_cases e:i<272;rw[Zq,Zx<|by omega,Z2<|by rw[Wn,a];omega,a,NJ,pG _ _ _<|by omega,pG _ _ _<|by omega];unfold cF;rw[aB b,aA<|by omega,show(i-256)/16=0 by omega,show(i-256)%16=i-256 by omega];rfl;rw[Zx<|by rw[zj,a,Wn];omega,PK,zj,a,Wn,d,show 256+16+(i-(256+16))=i by omega];by_cases c:i<432;rw[pG _ _ _ c,pG _ _ _ c];unfold cF qZ;rw[aB b,aB b,aB<|by omega];rw[qo<|by rw[Vr];omega,qo<|by rw[Vr];omega]
def zre(l:Zl)(hl:l.length=16)(w:Zy):bE prog 110 #[zs l] w fun en w'=>∃g,en= .returned (zo g)/\w.heap.size<=g/\Wz w' g (cF (fun i=>l.getD i 0) 10) 432 246/\bC w.heap.size w w':=by
 go_enter func110.1,Tryz.ntmps110
 go_wp2
 refine(zni _).mono ?_;rintro en w1 ⟨rfl,c⟩;have b:=c.alloc c.size<|.cells (kb qZ 432).toArray 246;have s:=jw w1<|.cells (kb qZ 432).toArray 246;have R:w1.heap.size<(w1.alloc<|.cells (kb qZ 432).toArray 246).heap.size:=by simp
 have U:Hid<|∀y:Zy,y.heap[w1.heap.size]?=bO (.cells ((kb qZ 432).take 256++bv l++(kb qZ 432).drop (256+16)).toArray 246 (0,0))->Wz y w1.heap.size (cF (fun i=>l.getD i 0) 0) 432 246:=fun y h=>by unfold Wz;rw[h,No l hl]
 have v:=wV qZ 432;generalize hcc:kb qZ 432=cc at*;have a:prog.built 246 [(0,.agg (kb Sn 256).toArray)]=bO cc.toArray:=by rw[E1,hcc]
 generalize kb Sn 256=bx at*
 go_upto_region 2 with(refine Mo rfl 246 _ rfl cc.toArray a ?_)
 generalize w1.alloc (.cells cc.toArray 246)=x at*
 go_wp2_with (refine PN rfl _ _ 100 9 rfl 5 underlying100 UA w1.heap.size 256 16 16 (st l) rfl rfl _ 246 s ?c1 ?c2 w.heap.size w b c.size ?_)
 case c1=>rw[xe];omega
 case c2=>rw[v,xe];omega
 intro y t n;have d:=U.o y (by rw[t,Zq];rfl);have q:=c.size;clear t s U b a v hcc R;generalize hK:(fun i=>l.getD i 0)=key at*;have D:=zl hK;clear hK;obtain⟨g,C⟩:∃g,w1.heap.size=g:=⟨_,rfl⟩;rw[C]at d q⊢;clear C c
 go_wp2
 go_loopw [4,16] (fun co i wr=>∃k:Nat,k<=10/\i=zi k/\co=zc (CO k)/\Wz wr g (cF key k) 432 246/\bC w.heap.size w wr) (fun _ i _=>(10-aJ i).toNat)
 case atStart=>exact⟨0,by omega,rfl,rfl,d,n⟩
 case round=>
  clear d n;obtain⟨k,hk,rfl,rfl,p,G⟩:=hrel;by_cases ba:k<10
  ·have i1:(k:Int)<10:=by omega
   have i2:(k:Int)<11:=by omega
   have i3:(k:Int)+1<11:=by omega
   have i4:(0:Int)<=(k:Int)+1:=by omega
   have i5:IntKind.i64.wrap ((k:Int)+1)=(k:Int)+1:=by rw[xn]<;>omega
   have i6:((k:Int)+1).toNat=k+1:=by omega
   have C:=G.size;have H:g<wr.heap.size:=qz (p.cell (k:=0)<|by decide);obtain⟨f,B⟩:∃f,gK key k=f:=⟨_,rfl⟩;obtain⟨co,o⟩:∃co,CO k=co:=⟨_,rfl⟩;have HN:Hid<|gK key (k+1)=fJ f co:=by show fJ (gK key k) (CO k)=_;rw[B,o]
   have HC:Hid<|CO (k+1)=pQ co:=by show pQ (CO k)=_;rw[o]
   have E:Hid<|Wz wr.drew g (cF key k) 432 246:=p;have T:Hid<|∀j,j<16->cF key k (256+k*16+j)=f j:=fun j K=>by rw[show 256+k*16+j=256+16*k+j by omega,yQ key k k j (ze _) K,B]
   have r:Hid<|∀i,i<432->(if 256+(k+1)*16<=i/\i<256+(k+1)*16+16 then fJ f co (i-(256+(k+1)*16))else cF key k i)=cF key (k+1) i:=fun i hi=>by
    unfold cF;by_cases z:i<256;rw[aB<|by omega,aA z,aA z];rw[aB z,aB z];by_cases Z:i<256+16*(k+1);rw[aB<|by omega,aA Z,aA<|by omega];by_cases h3:i<256+16*(k+1+1);rw[aA<|by omega,aA h3,show(i-256)/16=k+1 by omega,show(i-256)%16=i-(256+(k+1)*16) by omega,HN.o];rw[aB<|by omega,aB Z,aB h3]
   have F:Hid<|∀w',Wz w' g (cF key k) 432 246->w'.rangeAt g (256+k*16) (kb f 16)/\w'.there g (256+(k+1)*16) 16:=fun w' h=>⟨h.range (by omega) T.o,h.there<|by omega⟩;have V:Hid<|∀w',Wz w' g (cF key k) 432 246->Wz (w'.setCells g (256+(k+1)*16)<|kb (fJ f co) 16) g (cF key<|k+1) 432 246/\(w'.setCells g (256+(k+1)*16)<|kb (fJ f co) 16).rangeAt g (256+k*16) (kb f 16)/\(w'.setCells g (256+(k+1)*16)<|kb (fJ f co) 16).there g (256+(k+1)*16) 16:=fun w' h=>by
    have m:=(h.setCells 16 (256+(k+1)*16)<|fJ f co).congr r.o;refine⟨m,m.range (by omega) fun j K=>?_,m.there<|by omega⟩;rw[show 256+k*16+j=256+16*k+j by omega,yQ key (k+1) k j (by omega) K,B]
   have I:(prog.info? 184).map (·.size)=bO (kb f 16).length:=by rw[Vr];exact RN
   have J:(prog.info? 184).map (·.size)=bO (kb (fJ f co) 16).length:=by rw[Vr];exact RN
   have L:=Vr f 16;have M:=Vr (fJ f co) 16;have O:=Ca f 16;have Q:=Ca (fJ f co) 16;have W:Hid<|∀w',sQ w' g->bE prog 173 #[zo g,.agg (kb f 16).toArray,zc co] w' fun en S=>en= .returned (.agg (kb (fJ f co) 16).toArray)/\bC w'.heap.size w' S:=fun w' h=>zxt f co g w' h;rw[o];clear p B o T r;generalize kb f 16=X1 at*;generalize kb (fJ f co) 16=X2 at*;have X:=F.o wr.drew E.o;have hu:=underlying184
   go_wp2
   go_region_held3 (fun w'=>w'.rangeAt g (256+k*16) X1/\w'.there g (256+(k+1)*16) 16) (first|exact X|exact Y|exact T2.2)
    (first
     |(go_at_call 173;refine(W.o _<|E.o.tX).mono ?_;rintro en x ⟨rfl,b⟩;have e:=E.o.below b H;have Y:=F.o x e;have T2:=V.o x e;have n:bC w.heap.size w<|x.setCells g (256+(k+1)*16) X2:=PP q _ _ _<|G.drew.trans<|b.mono C))
   clear X Y F V W I J L M O Q hu b e;generalize hw5:x.setCells g (256+(k+1)*16) X2=w5 at*;clear hw5
   go_wp2
   refine(ZE co _).mono ?_;rintro en w6 ⟨rfl,rfl⟩
   go_wp2
   go_roundw
   case rel=>exact⟨k+1,by omega,by go_num,by rw[HC.o],T2.1,n⟩
   case measure=>simp[aJ];omega
  obtain rfl:k=10:=by omega
  go_wp2
  go_ret
  exact⟨g,rfl,q,by rw[D.o];exact p,G⟩
end
section
section
variable {key a:Zu} {g:Nat}
structure EI(w:Zy)(g:Nat)(key cur:Zu)(wr:Zy):Prop where
 dI:bC w.heap.size w wr
 sz:w.heap.size+1<wr.heap.size
 uZ:g<w.heap.size
 b0:Wz wr w.heap.size cur 16 184
 b1:Wz wr (w.heap.size+1) zF 16 184
 rc:Wz wr g (cF key 10) 432 246
def EI.drew{w b:Zy}(h:EI w g key a b):EI w g key a b.drew:=⟨h.dI.drew,h.sz,h.uZ,h.b0,h.b1,h.rc⟩
def EI.then{w c w':Zy}(h:EI w g key a c)(b:bC c.heap.size c w'):EI w g key a w':=
 have e:=h.sz;have d:=h.uZ
 ⟨h.dI.trans<|b.mono h.dI.size,zn h.sz b.size,h.uZ,h.b0.below b<|by omega,h.b1.below b<|by omega,h.rc.below b<|by omega⟩
def EI.start(w:Zy)(g:Nat)(key x:Zu)(h:Wz w g (cF key 10) 432 246):EI w g key x<|(w.alloc<|.cells (kb x 16).toArray 184).alloc<|.cells (kb zF 16).toArray 184:=by
 have b:g<w.heap.size:=qz (h.cell (k:=0)<|by decide);have a:bC w.heap.size w<|(w.alloc<|.cells (kb x 16).toArray 184).alloc<|.cells (kb zF 16).toArray 184:=((zr _ _).alloc (ze _) _).alloc (by simp) _;refine⟨a,by simp,b,?_,?_,h.below a b⟩
 all_goals (show((w.heap.push _).push _)[_]?=_)
 all_goals (simp only[jh,Xe])
 rw[aB<|by omega,aA trivial];rw[aA trivial]
def Kv(b:Nat):∀(vs:Ze) (o:Nat) (w:Zy) (j:Nat),j≠b->(w.setCells b o vs).heap[j]?=w.heap[j]?
 |[],_,_,_,_=>rfl
 |v::r,o,w,j,h=>by rw[World.setCells,Kv b r (o+1) _ j h,jq _ _ _ _ h]
def Wz.jO{w:Zy}{b a n o:Nat}{f:Zu}{t:Zt}{d:Ze}(h:Wz w b f n t)(c:b≠a):Wz (w.setCells a o d) b f n t:=by
 unfold Wz at*;rw[Kv _ _ _ _ _ c];exact h
def Wz.all{w:Zy}{b:Nat}{f:Zu}{t:Zt}(h:Wz w b f 16 t)(x:Zu):Wz (w.setCells b 0<|kb x 16) b x 16 t:=
 (h.setCells 16 0 x).congr fun i a=>by rw[aA<|by omega,Nat.sub_zero]
def WL(w:Zy)(g:Nat)(key _cur f:Zu)(wr:Zy):Prop:=EI w g key f wr
def WM(w:Zy)(_g:Nat)(_key _cur f:Zu)(wr:Zy):Prop:=bC w.heap.size w wr/\Wz wr (w.heap.size+1) f 16 184
def EI.store0{w b:Zy}(h:EI w g key a b)(f:Zu):WL w g key a f<|b.setCells w.heap.size 0<|kb f 16:=
 have c:=h.uZ;show EI w g key f (b.setCells w.heap.size 0<|kb f 16)from⟨PP (ze _) _ _ _ h.dI,by rw[Lr];exact h.sz,h.uZ,h.b0.all f,h.b1.jO<|by omega,h.rc.jO<|by omega⟩
def EI.store1{w b:Zy}(h:EI w g key a b)(f:Zu):WM w g key a f<|b.setCells (w.heap.size+1) 0<|kb f 16:=
 ⟨PP (by omega) _ _ _ h.dI,h.b1.all f⟩
def LB(x:Addr):Sem Zv:=loadVar 184 x
def SB(x:Addr)(v:Zv):Sem Unit:=storeVar 184 x v
def Pu(x:Addr):loadVar 184 x=LB x:=rfl
def Sf(x:Addr)(v:Zv):storeVar 184 x v=SB x v:=rfl
attribute [local go_sem ↓] Pu Sf
def EY(w:Zy)(b o:Nat)(f:Zu)(h:w.rangeAt b o<|kb f 16):(LB<|zq b o).run prog w= .ok (.agg (kb f 16).toArray) w:=
 run_loadVar_mid w b o 184 (kb f 16) _ h underlying184 rfl (by rw[Vr];exact RN)
def VE(w:Zy)(b o:Nat)(f:Zu)(h:w.there b o 16):(SB (zq b o)<|.agg (kb f 16).toArray).run prog w= .ok () (w.setCells b o<|kb f 16):=
 run_storeVar_mid w b o 184 (kb f 16).toArray (by rw[wV];exact h) (yV f) (yT f 16)
def zC(n:Nat):Code->Option Code
 | .region id ops b=>if id=n then bO (.region id ops b)else bN
 | .seq a b=>match zC n a with
  |some c=>bO c
  |none=>zC n b
 | .cond _ a b=>match zC n a with
  |some c=>bO c
  |none=>zC n b
 | .block _ c=>zC n c
 | .loop c=>zC n c
 | .scope c=>zC n c
 |_=>bN
def VY(n:Nat)(f:Func):Code:=(f.body.bind<|zC n).getD .skip
def n9{w G:Zy}{key x:Zu}(inv:EI w g key x G)(Q:Exit->Act->Zy->Prop)(c1 c2 V Y c7 Z c9 K L M c13 c d e f i k l m n o p q r s t v y z B C D E jU:Zv)
  (hQ:∀(u6 u7 u8 u9 u10 u11 u12:Zv) (w9:Zy),WL w g key x (iX x<|gK key 0) w9->Q .normal ⟨#[zo g,c1,c2,zo w.heap.size,zo<|w.heap.size+1,V,u6,u7,u8,u9,u10,u11,u12,c13,c,d,e,f,i,k,l,m,n,o,p,q,r,s,t,v,y,z,B,C,D,E,jU],[]⟩ w9):
  Code.wp prog (VY 1 Tryz.f111) Q ⟨#[zo g,c1,c2,zo w.heap.size,zo<|w.heap.size+1,V,Y,c7,Z,c9,K,L,M,c13,c,d,e,f,i,k,l,m,n,o,p,q,r,s,t,v,y,z,B,C,D,E,jU],[]⟩ G:=by
 have hg:=inv.uZ
 conv=>arg 2;whnf
 refine wp_region_noPanic ?_;have J:Hid<|∀a,EI w g key x a->a.rangeAt g (256) (kb (gK key 0) 16)/\a.there w.heap.size 0 16:=fun a h=>⟨h.rc.range (by omega) (fun j T=>by first|exact yQ key 10 (0) j (by omega) T|(rw[show 256+j=256+16*(0)+j by omega];exact yQ key 10 (0) j (by omega) T)),h.b0.there<|by omega⟩;have U:=zl fun a (h:EI w g key x a)=>h.store0<|iX x<|gK key 0;have R0:G.drew.rangeAt w.heap.size 0<|kb x 16:=inv.drew.b0.range (by omega) (fun j T=>by rw[jy]);have b:=zl<|P8 x<|gK key 0;have R:=fun a=>EY a w.heap.size 0 x;have O:=fun a=>EY a g (256)<|gK key 0;have S:=fun a=>VE a w.heap.size 0<|iX x<|gK key 0;generalize kb (iX x<|gK key 0) 16=XX at*;generalize kb (gK key 0) 16=KK at*;generalize kb x 16=X0 at*;have I:Hid<|EI w g key x G.drew:=inv.drew;have W:=(J.o _ I.o).1;clear inv
 go_region_with (first
   |(go_at_call 175;refine(b.o _).mono ?_;rintro en v2 ⟨rfl,F⟩;have H:=(I.o).then F;have X:=(J.o _ H).2;clear W R0))
 all_goals (
  have inv:=U.o _ H;clear U J b S R O I;clear X H F;generalize hw9:v2.setCells w.heap.size 0 XX=w9 at*;clear hw9;exact NoPanic.normal<|hQ _ _ _ _ _ _ _ _ inv)
def o3{w F:Zy}{n:Nat}(hn:n<9)(inv:EI w g key a F)(Q:Exit->Act->Zy->Prop)(c1 c2 c6 c7 c8 c9 i k l c13 m o p J K L M O R S T U V W q r s t v x y z jU:Zv)
  (hQ:∀(u17 u18 u19 u20 u21 u22 u23 u24 u25 u26 u27:Zv) (w9:Zy),WL w g key a (iX (lZ<|iO a)<|gK key<|n+1) w9->Q .normal ⟨#[zo g,c1,c2,zo w.heap.size,zo<|w.heap.size+1,zi<|(n:Int)+1,c6,c7,c8,c9,i,k,l,c13,m,o,p,u17,u18,u19,u20,u21,u22,u23,u24,u25,u26,u27,q,r,s,t,v,x,y,z,jU],[]⟩ w9):
  Code.wp prog (VY 5 Tryz.f111) Q ⟨#[zo g,c1,c2,zo w.heap.size,zo<|w.heap.size+1,zi<|(n:Int)+1,c6,c7,c8,c9,i,k,l,c13,m,o,p,J,K,L,M,O,R,S,T,U,V,W,q,r,s,t,v,x,y,z,jU],[]⟩ F:=by
 have i1:(n:Int)+1<10:=by omega
 have i2:(n:Int)+1<11:=by omega
 have i3:(0:Int)<=(n:Int)+1:=by omega
 have i4:((n:Int)+1).toNat=n+1:=by omega
 have hg:=inv.uZ
 conv=>arg 2;whnf
 refine wp_region_noPanic ?_;have c:Hid<|∀b,EI w g key a b->b.rangeAt g (256+(n+1)*16) (kb (gK key<|n+1) 16)/\b.there w.heap.size 0 16:=fun b h=>⟨h.rc.range (by omega) (fun j hj=>by first|exact yQ key 10 ((n+1)) j (by omega) hj|(rw[show 256+(n+1)*16+j=256+16*((n+1))+j by omega];exact yQ key 10 ((n+1)) j (by omega) hj)),h.b0.there<|by omega⟩;have HT:=zl fun b (h:EI w g key a b)=>h.store0<|iX (lZ<|iO a)<|gK key<|n+1;have R0:F.drew.rangeAt w.heap.size 0<|kb a 16:=inv.drew.b0.range (by omega) (fun j hj=>by rw[jy]);have e:=zl<|Qv a g;have d:=zl<|xng<|iO a;have f:=zl<|P8 (lZ<|iO a)<|gK key<|n+1;have Y:=fun b=>EY b w.heap.size 0 a;have X:=fun b=>EY b g (256+(n+1)*16)<|gK key<|n+1;have Z:=fun b=>VE b w.heap.size 0<|iX (lZ<|iO a)<|gK key<|n+1;generalize kb (iX (lZ<|iO a)<|gK key<|n+1) 16=XX at*;generalize kb (gK key<|n+1) 16=KK at*;generalize kb (lZ<|iO a) 16=X2 at*;generalize kb (iO a) 16=X1 at*;generalize kb a 16=X0 at*;have E:Hid<|EI w g key a F.drew:=inv.drew;have S0:=(c.o _ E.o).1;clear inv
 go_region_with (first
   |(go_at_call 177;refine(e.o _ (E.o).rc.tX).mono ?_;rintro en v2 ⟨rfl,B⟩;have G:=(E.o).then B;have S2:=(c.o _ G).1;clear S0 R0)
   |(go_at_call 176;refine(d.o _).mono ?_;rintro en v3 ⟨rfl,C⟩;have H:=(G).then C;have S3:=(c.o _ H).1;clear S2)
   |(go_at_call 175;refine(f.o _).mono ?_;rintro en v4 ⟨rfl,D⟩;have I:=(H).then D;have S4:=(c.o _ I).2;clear S3))
 all_goals (
  have inv:=HT.o _ I;clear HT c f Z Y X E e d;clear S4 I D H C G B;generalize hw9:v4.setCells w.heap.size 0 XX=w9 at*;clear hw9;exact NoPanic.normal<|hQ _ _ _ _ _ _ _ _ _ _ _ _ inv)
def o4{w F:Zy}(inv:EI w g key a F)(Q:Exit->Act->Zy->Prop)(c1 c2 Y Z c7 c8 c9 e f i c13 k l m n o p q r s t v x y z I J K L M O R S jU:Zv)
  (hQ:∀(u28 u29 u30 u31 u32 u33 u34 u35 u36:Zv) (w9:Zy),WM w g key a (iX (iO a)<|gK key 10) w9->Q .normal ⟨#[zo g,c1,c2,zo w.heap.size,zo<|w.heap.size+1,Y,Z,c7,c8,c9,e,f,i,c13,k,l,m,n,o,p,q,r,s,t,v,x,y,z,u28,u29,u30,u31,u32,u33,u34,u35,u36],[]⟩ w9):
  Code.wp prog (VY 6 Tryz.f111) Q ⟨#[zo g,c1,c2,zo w.heap.size,zo<|w.heap.size+1,Y,Z,c7,c8,c9,e,f,i,c13,k,l,m,n,o,p,q,r,s,t,v,x,y,z,I,J,K,L,M,O,R,S,jU],[]⟩ F:=by
 have hg:=inv.uZ
 conv=>arg 2;whnf
 refine wp_region_noPanic ?_;have E:Hid<|∀b,EI w g key a b->b.rangeAt g (416) (kb (gK key 10) 16)/\b.there (w.heap.size+1) 0 16:=fun b h=>⟨h.rc.range (by omega) (fun j W=>by first|exact yQ key 10 (10) j (by omega) W|(rw[show 416+j=256+16*(10)+j by omega];exact yQ key 10 (10) j (by omega) W)),h.b1.there<|by omega⟩;have X:=zl fun b (h:EI w g key a b)=>h.store1<|iX (iO a)<|gK key 10;have R0:F.drew.rangeAt w.heap.size 0<|kb a 16:=inv.drew.b0.range (by omega) (fun j W=>by rw[jy]);have c:=zl<|Qv a g;have d:=zl<|P8 (iO a)<|gK key 10;have U:=fun b=>EY b w.heap.size 0 a;have T:=fun b=>EY b g (416)<|gK key 10;have V:=fun b=>VE b (w.heap.size+1) 0<|iX (iO a)<|gK key 10;generalize kb (iX (iO a)<|gK key 10) 16=XX at*;generalize kb (gK key 10) 16=KK at*;generalize kb (iO a) 16=X1 at*;generalize kb a 16=X0 at*;have D:Hid<|EI w g key a F.drew:=inv.drew;have S0:=(E.o _ D.o).1;clear inv
 go_region_with (first
   |(go_at_call 177;refine(c.o _ (D.o).rc.tX).mono ?_;rintro en v2 ⟨rfl,B⟩;have G:=(D.o).then B;have S2:=(E.o _ G).1;clear S0 R0)
   |(go_at_call 175;refine(d.o _).mono ?_;rintro en v3 ⟨rfl,C⟩;have H:=(G).then C;have S3:=(E.o _ H).2;clear S2))
 all_goals (
  have inv:=X.o _ H;clear X E d V U T D c;clear S3 H C G B;generalize hw9:v3.setCells (w.heap.size+1) 0 XX=w9 at*;clear hw9;exact NoPanic.normal<|hQ _ _ _ _ _ _ _ _ _ _ inv)
def zws(key x:Zu)(g:Nat)(w:Zy)(e:Wz w g (cF key 10) 432 246):bE prog 111 #[zo g,.agg (kb x 16).toArray] w fun en w'=>en= .returned (.agg (kb (jI key x) 16).toArray)/\bC w.heap.size w w':=by
 have inv:=EI.start w g key x e;clear e;go_enter func111.1,Tryz.ntmps111
 go_upto_region 1 with fail
 try rw[VR]
 generalize(w.alloc<|.cells (kb x 16).toArray 184).alloc (.cells (kb zF 16).toArray 184)=wa at*;refine n9 inv _ _ _ _ _ _ _ _ _ _ _ _ _ _ _ _ _ _ _ _ _ _ _ _ _ _ _ _ _ _ _ _ _ _ _ ?_;clear inv;intro Q R S T f h j K inv;have inv:EI w g key (CW key x 0) K:=inv
 go_wp2
 go_loopw [5] (fun i wr=>∃n:Nat,n<=9/\i=zi ((n:Int)+1)/\EI w g key (CW key x n) wr) (fun i _=>(10-aJ i).toNat)
 case atStart=>exact⟨0,by omega,rfl,inv⟩
 case round=>
  clear inv;obtain⟨n,L,rfl,inv⟩:=hrel;by_cases c:n<9
  ·have M:(n:Int)+1<10:=by omega
   have O:IntKind.i64.wrap ((n:Int)+1+1)=(n:Int)+1+1:=by rw[xn]<;>omega
   go_upto_region 5 with fail
   refine o3 c inv _ _ _ _ _ _ _ _ _ _ _ _ _ _ _ _ _ _ _ _ _ _ _ _ _ _ _ _ _ _ _ _ _ _ ?_;clear inv;intro k l m o p q r s t y z d inv;have inv:EI w g key (CW key x<|n+1) d:=inv
   go_wp2
   go_roundw
   case rel=>first|exact⟨n+1,by omega,by go_num,inv⟩|((repeat apply Exists.intro);exact⟨⟨n+1,by omega,by go_num,inv⟩,rfl⟩)
   case measure=>simp[aJ];omega
  obtain rfl:n=9:=by omega
  go_upto_region 6 with fail
  refine o4 inv _ _ _ _ _ _ _ _ _ _ _ _ _ _ _ _ _ _ _ _ _ _ _ _ _ _ _ _ _ _ _ _ _ _ _ ?_;clear inv;intro B C D E F G H I J d inv;obtain⟨b,a⟩:WM w g key (CW key x 9) (jI key x) d:=inv
  go_wp2
  unfold Wz at a;exact jz (v:= .agg (kb (jI key x) 16).toArray) (Yf rfl _ _ (w.heap.size+1) 184 _ (0,0) _ rfl a underlying184 rfl<|yV _) rfl ⟨rfl,b⟩
end
end
section
attribute [local go_sem] xe
def xvz(m:Nat):IntKind.u8.wrap ((m:Nat):Int)=e8 (UInt8.ofNat m):=by
 simp[IntKind.wrap,IntKind.bits,IntKind.signed,e8]
def gH(no:Zl)(n i:Nat):Z8:=if i<8 then no.getD i 0 else UInt8.ofNat (n/256^(15-i))
def uY(no:Zl)(n k i:Nat):Z8:=if i<8 then no.getD i 0 else if 15-k<i then UInt8.ofNat (n/256^(15-i))else 0
structure C2(w:Zy)(f1:Zu)(wr:Zy):Prop where
 dI:bC w.heap.size w wr
 sz:w.heap.size+1<wr.heap.size
 b0:Wz wr w.heap.size zF 16 184
 b1:Wz wr (w.heap.size+1) f1 16 184
def C2.start(w:Zy):C2 w zF<|(w.alloc<|.cells (kb zF 16).toArray 184).alloc<|.cells (kb zF 16).toArray 184:=by
 refine⟨((zr _ _).alloc (ze _) _).alloc (by simp) _,by simp,?_,?_⟩
 all_goals (show((w.heap.push _).push _)[_]?=_)
 all_goals (simp only[jh,Xe])
 rw[aB<|by omega,aA trivial];rw[aA trivial]
def C2.set{w b:Zy}{a:Zu}(h:C2 w a b)(k:Nat)(v:Z8):C2 w (fun i=>if i=k then v else a i)<|b.setCell (zq (w.heap.size+1) k)<|zc v:=
 ⟨h.dI.setCell (by show w.heap.size<=w.heap.size+1;omega) _,by simpa[aF]using h.sz,h.b0.other<|by omega,h.b1.set k v⟩
def C2.congr{w b:Zy}{a f2:Zu}(h:C2 w a b)(e:∀i,i<16->a i=f2 i):C2 w f2 b:=⟨h.dI,h.sz,h.b0,h.b1.congr e⟩
def eJ(b:Zl)(n:Nat)(a:b.length=8):bv b++(kb zF 16).drop 8=kb (uY b n 0) 16:=by
 apply Jt;intro i;by_cases h:i<8;rw[Z2<|by rw[Wn];omega,NJ,pG _ _ _<|by omega,pG _ _ _<|by omega];unfold uY;rw[aA h];rw[Zx<|by rw[Wn];omega,Wn,a,PK,show 8+(i-8)=i by omega];by_cases c:i<16;rw[pG _ _ _ c,pG _ _ _ c];unfold uY zF;rw[aB h,aB<|by omega];rw[qo<|by rw[Vr];omega,qo<|by rw[Vr];omega]
def zwo(c:Zl)(G:c.length=8)(n:Nat)(Y:n<=100000)(T:Int)(F:T=(n:Int))(w:Zy):bE prog 180 #[zs c,.int .u64 T] w fun en w'=>en= .returned (.agg (kb (gH c n) 16).toArray)/\bC w.heap.size w w':=by
 subst F;have a:=C2.start w;have l:=a.b1;have d:=a.dI;have f:(kb zF 16).toArray.size=16:=wV _ _;have J:Hid<|∀p:Zy,p.heap[w.heap.size+1]?=bO (.cells (bv c++(kb zF 16).drop 8).toArray 184 (0,0))->bC (w.heap.size+1) ((w.alloc<|.cells (kb zF 16).toArray 184).alloc<|.cells (kb zF 16).toArray 184) p->C2 w (uY c n 0) p:=fun p h C=>by
  refine⟨a.dI.trans<|C.mono<|by omega,?_,a.b0.below C<|by omega,by unfold Wz;rw[h,eJ c n G]⟩;exact zn a.sz C.size
 unfold Wz at l;go_enter func180.1,Tryz.ntmps180
 go_upto_region 2 with fail
 try rw[VR]
 generalize hwa:(w.alloc<|.cells (kb zF 16).toArray 184).alloc (.cells (kb zF 16).toArray 184)=wa at*;generalize hzz:kb zF 16=zz at*
 go_wp2_with (refine PN rfl _ _ 100 9 rfl 5 underlying100 UA (w.heap.size+1) 0 8 16 (st c) rfl rfl _ 184 l ?c1 ?c2 (w.heap.size+1) wa (zr _ _) (ze _) ?_)
 case c1=>rw[xe];omega
 case c2=>rw[f,xe];omega
 intro p t r;have inv:=J.o p (by rw[t];rfl) r;clear J t r l f d a hwa hzz
 go_wp2
 go_loopw [1,6] (fun v i wr=>∃k:Nat,k<=8/\i=zi ((15:Int)-k)/\v= .int .u64 (((n/256^k:Nat)):Int)/\C2 w (uY c n k) wr) (fun _ i _=>(aJ i).toNat)
 case atStart=>exact⟨0,by omega,rfl,by simp,inv⟩
 case round=>
  clear inv;obtain⟨k,hk,rfl,rfl,inv⟩:=hrel;have H:=inv.sz;by_cases E:k<8
  ·obtain⟨j,W⟩:∃j,15-k=j:=⟨_,rfl⟩
   have R:(15:Int)-(k:Int)=(j:Int):=by omega
   have j1:(8:Int)<=(j:Int):=by omega
   have j2:(j:Int)<16:=by omega
   have j3:j<16:=by omega
   obtain⟨m,y⟩:∃m,n/256^k=m:=⟨_,rfl⟩;have X:m<=100000:=by rw[<-y];exact xz (Nat.div_le_self _ _) Y
   obtain⟨q,S⟩:∃q,m/256=q:=⟨_,rfl⟩;have O:Hid<|n/256^(k+1)=q:=by show _=_;rw[<-S,<-y,DR,XY]
   have h3:wr.frozen? (zq (w.heap.size+1) j)=bK:=inv.b1.frozen;have h4:wr.cell? (zq (w.heap.size+1) j)=bO (zc<|uY c n k j):=inv.b1.cell j3;have Z:=xvz m;have hd:(m:Int)/256=(q:Int):=by omega
   have es:IntKind.i64.wrap ((j:Int)-1)=(j:Int)-1:=by rw[xn]<;>omega
   have L:Hid<|C2 w (uY c n<|k+1)<|wr.setCell (zq (w.heap.size+1) j)<|zc<|UInt8.ofNat m:=by
    refine(inv.set j<|UInt8.ofNat m).congr fun i x=>?_;unfold uY;by_cases e:i=j;subst e;rw[aA rfl,aB<|by omega,aA<|by omega,show 15-i=k by omega,y];rw[aB e];by_cases g:i<8;rw[aA g,aA g];rw[aB g,aB g];by_cases Q:15-k<i;rw[aA Q,aA<|by omega];rw[aB Q,aB<|by omega]
   have M:Hid<|(15:Int)-((k+1:Nat):Int)=(j:Int)-1:=by show _=_;omega
   rw[y,R];clear inv y R W S;generalize uY c n k j=z at*
   go_wp2
   go_roundw
   case rel=>first|exact⟨k+1,by omega,by rw[M.o],by rw[O.o],L.o⟩|((repeat apply Exists.intro);exact⟨⟨k+1,by omega,by rw[M.o],by rw[O.o],L.o⟩,rfl⟩)
   case measure=>simp[aJ];omega
  obtain rfl:k=8:=by omega
  have inv:=inv.congr (f2:=gH c n) (fun i x=>by
   unfold uY gH;by_cases g:i<8;rw[aA g,aA g];rw[aB g,aB g,aA<|by omega])
  have s:=inv.b1;have o:=inv.b0;have d:=inv.dI;unfold Wz at s o;have x:=yV<|gH c n;have V:=yT (gH c n) 16;have I:=FX zF<|gH c n;have B:(wr.setRow w.heap.size (kb (gH c n) 16).toArray).heap[w.heap.size]?=bO (.cells (kb (gH c n) 16).toArray 184 (0,0)):=Yv _ _ _ _ _ _ o;have D:=II (b:=w.heap.size) (kb (gH c n) 16).toArray d (by omega);clear inv hk E H;generalize hKK:(kb (gH c n) 16).toArray=K at*;have U:Hid<|(kb (gH c n) 16).toArray=K:=hKK;clear hKK
  go_wp2_with (first|refine Vh rfl 184 _ rfl (w.heap.size+1) rfl 184 _ (0,0) _ s underlying184 rfl x ?_|refine Jj rfl 184 _ _ rfl w.heap.size _ rfl rfl 184 _ o x I V ?_)
  exact jz (v:= .agg K) (Yf rfl _ _ w.heap.size 184 _ (0,0) _ rfl B underlying184 rfl x) rfl ⟨by rw[<-U.o],D⟩
end
section
attribute [local go_sem] xe KP
section
variable {g o n:Nat} {Z:Ze} {w b:Zy}
def wD(key:Zu)(no:Zl)(i:Nat):Z8:=jI key (gH no<|i/16)<|i%16
def sF(key:Zu)(no x:Zl)(d i:Nat):Z8:=if i<d then x.getD i 0^^^wD key no i else x.getD i 0
def iK(k no x:Zl):Zl:=kl (fun i=>x.getD i 0^^^wD (fun j=>k.getD j 0) no i) x.length
def yJ(k a x:Zl):(iK k a x).length=x.length:=UC _ _
structure OI(w:Zy)(g o:Nat)(key fx:Zu)(n:Nat)(Z:Ze)(wr:Zy):Prop where
 dI:bC w.heap.size w wr
 MU:w.heap.size<=g
 GA:w.heap.size<=o
 ne:g≠o
 rc:Wz wr g (cF key 10) 432 246
 ob:wr.heap[o]?=bO (.cells (kb fx n++Z).toArray 5 ((kb fx n++Z).length,(kb fx n++Z).length+1))
def OI.uZ{w a:Zy}{key b:Zu}(h:OI w g o key b n Z a):g<a.heap.size:=qz<|h.rc.cell (k:=0)<|by decide
def OI.Ak{w a:Zy}{key b:Zu}(h:OI w g o key b n Z a):o<a.heap.size:=(za.1 h.ob).1
def OI.then{w b w':Zy}{key c:Zu}(h:OI w g o key c n Z b)(a:bC b.heap.size b w'):OI w g o key c n Z w':=
 ⟨h.dI.trans<|a.mono h.dI.size,h.MU,h.GA,h.ne,h.rc.below a h.uZ,(a.block _ h.Ak).trans h.ob⟩
def OI.drew{key a:Zu}(h:OI w g o key a n Z b):OI w g o key a n Z b.drew:=⟨h.dI.drew,h.MU,h.GA,h.ne,h.rc,h.ob⟩
def OI.cell{key a:Zu}(h:OI w g o key a n Z b)(k:Nat)(hk:k<n):b.cell? (zq o k)=bO (zc<|a k):=by
 rw[je _ _ _ _ _ _ h.ob,q8,Z2<|by rw[Vr];exact hk,pG _ _ _ hk]
def OI.frozen{key a:Zu}(h:OI w g o key a n Z b)(k:Nat)(hk:k<n):b.frozen? (zq o k)=bK:=by
 unfold World.frozen?;rw[h.ob];have:¬(kb a n++Z).length<=k:=by rw[zj,Vr];omega
 simp only[this,decide_false,W7]
def OI.set{w c:Zy}{key b:Zu}(h:OI w g o key b n Z c)(k:Nat)(hk:k<n)(v:Z8):OI w g o key (fun i=>if i=k then v else b i) n Z<|c.setCell (zq o k)<|zc v:=by
 have a:=h.ne;refine⟨h.dI.setCell h.GA _,h.MU,h.GA,h.ne,h.rc.other a,?_⟩;rw[setCell_eq_setRow _ _ _ _ _ _ _ h.ob,Yv _ _ _ _ _ _ h.ob];rw[xv,List.set_append_left _ _<|by rw[Vr];exact hk,xii]
 congr 2
 simp[Vr]
def OI.congr{key a fy:Zu}(h:OI w g o key a n Z b)(e:∀i,i<n->a i=fy i):OI w g o key fy n Z b:=by
 have:=h.ob;rw[Uo e]at this;exact⟨h.dI,h.MU,h.GA,h.ne,h.rc,this⟩
def xql(x:Zl)(W:Zy):∃(cap:Nat) (Z:Ze) (w1:Zy),x.length<=cap/\(convert 9 100<|zs x).run prog W= .ok (.slice (bO ⟨W.heap.size,0,bN⟩) x.length cap) w1/\bC W.heap.size W w1/\w1.heap[W.heap.size]?=bO (.cells (kb (fun i=>x.getD i 0) x.length++Z).toArray 5 ((kb (fun i=>x.getD i 0) x.length++Z).length,(kb (fun i=>x.getD i 0) x.length++Z).length+1)):=by
 have a:=run_bytes_of_string (P:=prog) W 9 100 5 (st x) underlying9 underlying100 underlying5;obtain⟨cap,b⟩:∃cap,grownCap W (st x).size 0 5=cap:=⟨_,rfl⟩;have c:x.length<=cap:=by rw[<-b];exact grownCap_ge W _ _ _
 rw[b,xe]at a;obtain⟨Z,d⟩:∃Z:Ze,bytesRow (st x) cap=(bv x++Z).toArray:=⟨aM (cap-x.length)<|zb 0,by
  unfold bytesRow;rw[xe];apply Array.toList_inj.1;simp[bv,st]⟩
 rw[d]at a;rw[NJ]at a;exact⟨cap,Z,_,c,a,((zr _ _).drew).alloc (ze _) _,jw W.drew _⟩
def xT(k c x:Zl)(hk:k.length=16)(X:c.length=8)(hx:x.length<=5000)(w:Zy):bE prog 115 #[zs k,zs c,zs x] w fun en w'=>en= .returned (zs<|iK k c x)/\bC w.heap.size w w':=by
 go_enter func115.1,Tryz.ntmps115
 go_wp2
 refine(zre k hk _).mono ?_;rintro en w1 ⟨g,rfl,hg,C,y⟩;obtain⟨I,Z,w2,ba,B,z,R⟩:=xql x w1;have M:g<w1.heap.size:=qz (C.cell (k:=0)<|by decide);generalize hkey:(fun i=>k.getD i 0)=key at*;have s:OI w g w1.heap.size key (sF key c x 0) x.length Z w2:=⟨y.trans<|z.mono y.size,hg,y.size,by omega,C.below z M,by rw[R];rfl⟩;have V:Hid<|(fun i=>k.getD i 0)=key:=hkey;clear hkey R z C M hg y;obtain⟨o,ho⟩:∃o,w1.heap.size=o:=⟨_,rfl⟩;rw[ho]at s B
 go_wp2
 clear B ho
 go_loopw [9] (fun i wr=>∃p:Nat,p<x.length+16/\p%16=0/\i=zi p/\OI w g o key (sF key c x p) x.length Z wr) (fun i _=>(x.length+16-aJ i).toNat)
 case atStart=>exact⟨0,by omega,by omega,rfl,s⟩
 case round=>
  clear s;obtain⟨p,hp,bd,rfl,inv⟩:=hrel;by_cases bc:p<x.length
  ·have i1:(p:Int)<(x.length:Nat):=by omega
   obtain⟨m,hm⟩:∃m,p/16=m:=⟨_,rfl⟩;have e1:(p:Int).tdiv 16=(m:Nat):=by rw[Int.tdiv_eq_ediv_of_nonneg<|by omega];omega
   have E:IntKind.u64.wrap (m:Int)=(m:Int):=by simp[IntKind.wrap,IntKind.bits,IntKind.signed];omega
   have m1:m<=100000:=by omega
   have D:Hid<|OI w g o key (sF key c x p) x.length Z wr:=inv;have hd:decide ((p:Int)<((x.length:Nat):Int))=bL:=decide_eq_true i1;have HP:Hid<|∀j,j<16->wD key c (p+j)=jI key (gH c m) j:=fun j O=>by
    unfold wD;rw[show(p+j)/16=m by omega,show(p+j)%16=j by omega]
   clear inv
   go_wp2
   refine(zwo c X m m1 _ rfl _).mono ?_;rintro en w3 ⟨rfl,J⟩;have t:=D.o.then J
   go_wp2
   refine(zws key (gH c m) g _ t.rc).mono ?_;rintro en F ⟨rfl,L⟩;have v:=t.then L;have r:=v.then<|(zr _ _).alloc (ze _)<|.cells (kb (jI key<|gH c m) 16).toArray 184;have n:Wz (F.alloc<|.cells (kb (jI key<|gH c m) 16).toArray 184) F.heap.size (jI key<|gH c m) 16 184:=jw _ _;have q1:o<F.heap.size:=v.Ak;have U:=yV<|jI key<|gH c m;have h1:=yT (jI key<|gH c m) 16;have T:(#[zb 0,zb 0,zb 0,zb 0,zb 0,zb 0,zb 0,zb 0,zb 0,zb 0,zb 0,zb 0,zb 0,zb 0,zb 0,zb 0]:Za).size=(kb (jI key<|gH c m) 16).toArray.size:=by rw[wV];rfl
   clear t v D J L;generalize hKK:(kb (jI key<|gH c m) 16).toArray=K at*
   go_upto_region 7 with(refine Jj rfl 184 _ _ rfl F.heap.size _ rfl rfl 184 _ (jw _ _) U T h1 ?_;rw[World.setRow_alloc_new])
   clear U h1 T hKK;generalize hw5:F.alloc (.cells K 184)=w5 at*;clear hw5;obtain⟨q,hq⟩:∃q,F.heap.size=q:=⟨_,rfl⟩;rw[hq]at n q1⊢;clear hq;have e3:IntKind.i64.wrap ((p:Int)+16)=(p:Int)+16:=by rw[xn]<;>omega
   by_cases bb:p+16<=x.length
   ·have j1:(p:Int)+16<=(x.length:Nat):=by omega
    have j2:((p:Int)+16).toNat=p+16:=by omega
    go_wp2
    have f:OI w g o key (sF key c x<|p+0) x.length Z w5:=r;clear r
    go_loopw [40] (fun i wq=>∃j:Nat,j<=16/\i=zi j/\OI w g o key (sF key c x<|p+j) x.length Z wq/\Wz wq q (jI key<|gH c m) 16 184) (fun i _=>((16:Int)-aJ i).toNat)
    case atStart=>exact⟨0,by omega,rfl,f,n⟩
    case round=>
     clear f n;obtain⟨j,O,rfl,inv,d⟩:=hrel;by_cases W:j<16
     ·have Y:(j:Int)<((16:Nat):Int):=by omega
      have t2:(j:Int)<16:=by omega
      have c1:wr.cell? (zq o<|p+j)=bO (zc<|x.getD (p+j) 0):=by rw[inv.cell (p+j)<|by omega];unfold sF;rw[aB<|by omega]
      have f1:wr.frozen? (zq o<|p+j)=bK:=inv.frozen (p+j) (by omega);have c2:wr.cell? (zq q j)=bO (zc<|jI key (gH c m) j):=d.cell (by omega);have G:Hid<|OI w g o key (sF key c x<|p+(j+1)) x.length Z<|wr.drew.setCell (zq o<|p+j)<|zc<|x.getD (p+j) 0^^^jI key (gH c m) j:=by
       refine(inv.drew.set (p+j) (by omega) _).congr fun i _=>?_;unfold sF;by_cases e:i=p+j;subst e;rw[aA rfl,aA<|by omega,HP.o j<|by omega];rw[aB e];by_cases E:i<p+j;rw[aA E,aA<|by omega];rw[aB E,aB<|by omega]
      have H:Hid<|Wz (wr.drew.setCell (zq o<|p+j)<|zc<|x.getD (p+j) 0^^^jI key (gH c m) j) q (jI key<|gH c m) 16 184:=Wz.other (w:=wr.drew) d (by omega);clear inv d;generalize x.getD (p+j) 0=a at*;generalize jI key (gH c m) j=b at*
      go_wp2
      go_still_tail 9,(by kernel_rfl)
      go_wp2
      go_roundw
      case rel=>first|exact⟨j+1,by omega,by go_num,G.o,H.o⟩|((repeat apply Exists.intro);exact⟨⟨j+1,by omega,by go_num,G.o,H.o⟩,rfl⟩)
      case measure=>simp[aJ];omega
     have Q:j=16:=by omega
     have Y:¬(j:Int)<((16:Nat):Int):=by omega
     rw[Q]at inv;have D:Hid<|OI w g o key (sF key c x<|p+16) x.length Z wr:=inv;clear inv d
     go_wp2
     go_roundw
     case rel=>exact⟨p+16,by omega,by omega,by go_num,D.o⟩
     case measure=>simp[aJ];omega
   have j1:¬(p:Int)+16<=(x.length:Nat):=by omega
   have j3:(x.length:Int)<=(p:Int)+16:=by omega
   have j4:(x.length:Int)<(p:Int)+16:=by omega
   go_wp2
   obtain⟨l,S⟩:∃l,x.length-p=l:=⟨_,rfl⟩;have be:l<=16:=by omega
   have bf:p+l=x.length:=by omega
   rw[S];clear S j1 j3 j4;have f:OI w g o key (sF key c x<|p+0) x.length Z w5:=r;clear r
   go_loopw [40] (fun i wq=>∃j:Nat,j<=l/\i=zi j/\OI w g o key (sF key c x<|p+j) x.length Z wq/\Wz wq q (jI key<|gH c m) 16 184) (fun i _=>((l:Int)-aJ i).toNat)
   case atStart=>exact⟨0,by omega,rfl,f,n⟩
   case round=>
    clear f n;obtain⟨j,O,rfl,inv,d⟩:=hrel;by_cases W:j<l
    ·have Y:(j:Int)<((l:Nat):Int):=by omega
     have t2:(j:Int)<16:=by omega
     have c1:wr.cell? (zq o<|p+j)=bO (zc<|x.getD (p+j) 0):=by rw[inv.cell (p+j)<|by omega];unfold sF;rw[aB<|by omega]
     have f1:wr.frozen? (zq o<|p+j)=bK:=inv.frozen (p+j) (by omega);have c2:wr.cell? (zq q j)=bO (zc<|jI key (gH c m) j):=d.cell (by omega);have G:Hid<|OI w g o key (sF key c x<|p+(j+1)) x.length Z<|wr.drew.setCell (zq o<|p+j)<|zc<|x.getD (p+j) 0^^^jI key (gH c m) j:=by
      refine(inv.drew.set (p+j) (by omega) _).congr fun i _=>?_;unfold sF;by_cases e:i=p+j;subst e;rw[aA rfl,aA<|by omega,HP.o j<|by omega];rw[aB e];by_cases E:i<p+j;rw[aA E,aA<|by omega];rw[aB E,aB<|by omega]
     have H:Hid<|Wz (wr.drew.setCell (zq o<|p+j)<|zc<|x.getD (p+j) 0^^^jI key (gH c m) j) q (jI key<|gH c m) 16 184:=Wz.other (w:=wr.drew) d (by omega);clear inv d;generalize x.getD (p+j) 0=a at*;generalize jI key (gH c m) j=b at*
     go_wp2
     go_still_tail 9,(by kernel_rfl)
     go_wp2
     go_roundw
     case rel=>first|exact⟨j+1,by omega,by go_num,G.o,H.o⟩|((repeat apply Exists.intro);exact⟨⟨j+1,by omega,by go_num,G.o,H.o⟩,rfl⟩)
     case measure=>simp[aJ];omega
    have Q:j=l:=by omega
    have Y:¬(j:Int)<((l:Nat):Int):=by omega
    have inv:=inv.congr (fy:=sF key c x<|p+16) (fun i U=>by
     unfold sF;rw[aA<|by omega,aA<|by omega])
    have D:Hid<|OI w g o key (sF key c x<|p+16) x.length Z wr:=inv;clear inv d
    go_wp2
    go_roundw
    case rel=>exact⟨p+16,by omega,by omega,by go_num,D.o⟩
    case measure=>simp[aJ];omega
  have i1:¬(p:Int)<(x.length:Nat):=by omega
  have inv:=inv.congr (fy:=fun i=>x.getD i 0^^^wD key c i) (fun i U=>by unfold sF;rw[aA<|by omega]);have B:(convert 100 9<|.slice (bO ⟨o,0,bN⟩) x.length I).run prog wr= .ok (zs<|iK k c x) wr:=by
   have e:iK k c x=kl (fun i=>x.getD i 0^^^wD key c i) x.length:=by show kl (fun i=>x.getD i 0^^^wD (fun j=>k.getD j 0) c i) x.length=_;rw[V.o]
   rw[e];have h:=run_convert_bytes_back (P:=prog) wr 100 9 5 (zq o 0) I (kl (fun i=>x.getD i 0^^^wD key c i) x.length) underlying100 underlying5 underlying9 (fun j O=>by
    rw[Addr.add_mid,jy];rw[UC]at O;rw[inv.cell j O];simp[kl,e8])
   rw[UC]at h;exact h
  have hb:=inv.dI;clear inv
  go_wp2
  go_ret
  exact⟨rfl,hb⟩
def BW(k a x:Zl)(hk:k.length=16)(b:a.length=8)(hx:x.length<=4096)(w:Zy):bE prog 61 #[zs k,zs a,zs x] w fun en w'=>en= .returned (.tuple #[zs<|iK k a x,zi 0])/\bC w.heap.size w w':=by
 have d:¬(4096:Int)<(x.length:Nat):=by omega
 go_enter func61.1,Tryz.ntmps61
 go_wp2
 refine(xT k a x hk b (by omega) _).mono ?_;rintro en w1 ⟨rfl,c⟩
 go_wp2
 go_ret2
 exact⟨rfl,c⟩
def zv0(k a x:Zl)(hk:k.length=16)(b:a.length=8)(hx:4096<x.length)(w:Zy):bE prog 61 #[zs k,zs a,zs x] w fun en w'=>en= .returned (.tuple #[.string<|st [],zi 1])/\w'=w:=by
 have c:(4096:Int)<(x.length:Nat):=by omega
 go_enter func61.1,Tryz.ntmps61
 go_wp2
 go_ret2
 exact⟨rfl,rfl⟩
end
end
section
attribute [local go_sem] xe zv
section
variable {tv:Zv} {w:Zy} {l:Zl} {b:Nat}
def Wh.of_below{w w':Zy}(h:Wh tv w)(b:bC w.heap.size w w'):Wh tv w':=by
 obtain⟨t,x,rfl,a⟩:=h;exact⟨t,x,rfl,(b.cell (p:=zq 1 0)<|qz a).trans a⟩
def Wh.alloc(h:Wh tv w)(o:Obj):Wh tv<|w.alloc o:=h.of_below<|(zr _ _).alloc (ze _) _
def Wh.but{S:ZP}{w w':Zy}(h:Wh tv w)(b:xb S w w')(a:¬S 1):Wh tv w':=by
 obtain⟨t,x,rfl,c⟩:=h;exact⟨t,x,rfl,b.cell a c⟩
def KQ(s:ByteArray)(w:Zy):bE prog 94 #[.string s,zi 0] w fun e w'=>e= .returned (.string s)/\w'=w:=by
 go_enter func94.1,Tryz.ntmps94
 go_wp2
 refine(Yb _ (by simp) _).mono ?_;rintro e w1 ⟨rfl,rfl⟩
 go_wp2
 go_ret
 exact⟨rfl,rfl⟩
def Uw(s:ByteArray)(n:Int)(b:n≠0)(w:Zy)(a:Wh tv w):bE prog 94 #[.string s,zi n] w fun e w'=>e=eF tv/\w'=w:=by
 go_enter func94.1,Tryz.ntmps94
 go_wp2
 refine(Xu _ (by simp[b]) _ a).mono ?_;rintro e w1 ⟨rfl,rfl⟩;exact⟨rfl,rfl,rfl⟩
def SI:Zl:=[99,105,112,104,101,114]
def PG:Zl:=[116,97,103]
def Xz(m:Zl)(ep:Nat):Zl:=vZ (V1 [] m) (SI++nb ep 1) 16
def Jm(m:Zl)(ep:Nat):Zl:=vZ (V1 [] m) (PG++nb ep 1) 32
def Qz(l:Zl):(⟨#[99,105,112,104,101,114]⟩:ByteArray)++st l=st (SI++l):=zv SI l
def Ev(l:Zl):(⟨#[116,97,103]⟩:ByteArray)++st l=st (PG++l):=zv PG l
def xxk(h:l.length=1):((⟨#[99,105,112,104,101,114]⟩:ByteArray)++st l).size<=4063:=by rw[Qz,xe];simp[SI,h]
def xxl(h:l.length=1):((⟨#[116,97,103]⟩:ByteArray)++st l).size<=4063:=by rw[Ev,xe];simp[PG,h]
def E4{w1:Zy}{a b p:Addr}{x y:Zv}(c:p.block≠a.block)(d:p.block≠b.block):((w1.setCell a x).setCell b y).cell? p=w1.cell? p:=by
 rw[World.cell?_setCell_other _ _ _ _ fun e=>d<|by rw[e],World.cell?_setCell_other _ _ _ _ fun e=>c<|by rw[e]]
def dv(m:Zl)(x:ByteArray)(n:Int):Zl:=vZ (V1 [] m) x.data.toList n.toNat
def CI(m:Zl)(d:m.length=32)(x:ByteArray)(n:Int)(w1:Zy)(h:dF w1)(a:x.size<=4063)(b:0<=n)(c:n<=255):bE prog 55 #[.string<|st m,.string ⟨#[]⟩,.string x,.int .i64 n] w1 fun en w'=>en= .returned (.tuple #[.string<|st<|dv m x n,.int .i64 0])/\bC w1.heap.size w1 w':=by
 have:=CD m [] x.data.toList (by omega) (by simp) (by simpa using a) n.toNat (by omega) w1 h;rw[xvp,show((n.toNat:Nat):Int)=n by omega]at this;exact this
def CN(m:Zl)(ep:Nat):dv m (⟨#[99,105,112,104,101,114]⟩++st (nb ep 1)) 16=Xz m ep:=by
 unfold dv Xz;rw[Qz];rfl
def xqz(m:Zl)(ep:Nat):dv m (⟨#[116,97,103]⟩++st (nb ep 1)) 32=Jm m ep:=by
 unfold dv Jm;rw[Ev];rfl
def EO(m q:Zl)(c o:Int)(ep:Nat)(L:m.length=32)(w:Zy)(C:dF w):bE prog 90 #[.agg #[zs m,zi c,zs q,zi o],zi ep] w fun e w'=>e= .returned (.agg #[zs<|Xz m ep,zs<|Jm m ep])/\bC w.heap.size w w':=by
 have r:=zl C;clear C;have i:=qt ep 1;have F:Hid<|∀(x:ByteArray) (n:Int) (w1:Zy),dF w1->x.size<=4063->0<=n->n<=255->bE prog 55 #[zs m,.string ⟨#[]⟩,.string x,zi n] w1 fun H w'=>H= .returned (.tuple #[zs<|dv m x n,zi 0])/\bC w1.heap.size w1 w':=fun x n w1 h I J K=>CI m L x n w1 h I J K;go_enter func90.1,Tryz.ntmps90
 go_wp2
 obtain⟨W,f⟩:∃W,(w.alloc<|.cells #[zs m,zi c,zs q,zi o] 91).alloc (.cells #[.string ⟨#[]⟩,.string ⟨#[]⟩] 145)=W:=⟨_,rfl⟩;have k:W.cell? (zq w.heap.size 0)=bO (zs m):=by rw[<-f];simp[go_sem]
 have z:W.heap[w.heap.size+1]?=bO (.cells #[.string ⟨#[]⟩,.string ⟨#[]⟩] 145):=by rw[<-f];have:=jw (w.alloc<|.cells #[zs m,zi c,zs q,zi o] 91)<|.cells #[.string ⟨#[]⟩,.string ⟨#[]⟩] 145;rwa[xh]at this
 have d:bC w.heap.size w W:=by rw[<-f];exact((zr _ _).alloc (ze _) _).alloc (by simp) _
 have l:W.heap.size=w.heap.size+2:=by rw[<-f];simp
 rw[f];clear f;have a:Hid<|bC W.heap.size W W.drew:=(zr _ _).drew;have y:=zl<|r.o.below r.o.pos d;have s:=zl d;have B:∀w1,bC W.heap.size W w1->w1.cell? (zq w.heap.size 0)=bO (zs m):=fun w1 h=>(h.cell (p:=zq w.heap.size 0)<|by show w.heap.size<_;omega).trans k;have g:=zl B;have t:Hid<|∀w1,bC W.heap.size W w1->w1.cell? (zq (w.heap.size+1) 0)=bO (.string ⟨#[]⟩)/\w1.frozen? (zq (w.heap.size+1) 0)=bK/\w1.cell? (zq (w.heap.size+1) 1)=bO (.string ⟨#[]⟩)/\w1.frozen? (zq (w.heap.size+1) 1)=bK:=fun w1 h=>by
  have b:=(h.block _<|by omega).trans z;exact⟨by simp[aQ,b],by simp[World.frozen?,b],by simp[aQ,b],by simp[World.frozen?,b]⟩
 have G:=k;clear d z l k B
 go_region_held3 (fun w'=>w'.cell? (zq w.heap.size 0)=bO (zs m)) (first|exact G|exact j|exact(E4 (by show w.heap.size≠w.heap.size+1;omega)<|by show w.heap.size≠w.heap.size+1;omega).trans j)
  (first
   |(go_at_call 148;refine(NG _ ep rfl _).mono ?_;rintro e w1 ⟨rfl,b⟩;replace a:=zl<|Yg a.o b;have j:=g.o _ a.o;obtain⟨D,M,E,O⟩:=t.o _ a.o)
   |(go_at_call 55;refine(F.o _ _ _ (y.o.below y.o.pos a.o) (by first|exact xxk i|exact xxl i) (by decide)<|by decide).mono ?_;rintro e w1 ⟨rfl,b⟩;replace a:=zl<|Yg a.o b;have j:=g.o _ a.o;obtain⟨D,M,E,O⟩:=t.o _ a.o)
   |(go_at_call 94;refine(KQ _ _).mono ?_;rintro e w1 ⟨rfl,rfl⟩))
 simp only[CN,xqz]
 go_wp2
 refine jz (v:= .agg #[zs<|Xz m ep,zs<|Jm m ep]) (by simp[results,Tryz.results90,go_sem,D,E]) rfl ⟨rfl,?_⟩;exact((s.o.trans<|a.o.mono s.o.size).setCell (by show w.heap.size<=w.heap.size+1;omega) _).setCell (by show w.heap.size<=w.heap.size+1;omega) _
def ZI(c t a x:Zl)(hk:c.length=16)(b:a.length=8)(hx:x.length<=4096)(w:Zy):bE prog 150 #[.agg #[zs c,zs t],zs a,zs x] w fun e w'=>e= .returned (zs<|iK c a x)/\bC w.heap.size w w':=by
 have d:Hid<|∀w1:Zy,bE prog 61 #[zs c,zs a,zs x] w1 fun f w'=>f= .returned (.tuple #[zs<|iK c a x,zi 0])/\bC w1.heap.size w1 w':=fun w1=>BW c a x hk b hx w1;go_enter func150.1,Tryz.ntmps150
 go_wp2
 refine(d.o _).mono ?_;rintro e w1 ⟨rfl,g⟩
 go_wp2
 refine(KQ _ _).mono ?_;rintro e h ⟨rfl,rfl⟩
 go_wp2
 go_ret
 exact⟨rfl,Yg ((zr _ _).alloc (ze _) _) g⟩
def zuk(c t a x:Zl)(hk:c.length=16)(b:a.length=8)(hx:4096<x.length)(w:Zy)(d:Wh tv w):bE prog 150 #[.agg #[zs c,zs t],zs a,zs x] w fun e w'=>e=eF tv/\bC w.heap.size w w':=by
 have g:Hid<|∀w1:Zy,bE prog 61 #[zs c,zs a,zs x] w1 fun h w'=>h= .returned (.tuple #[.string<|st [],zi 1])/\w'=w1:=fun w1=>zv0 c a x hk b hx w1;have f:=zl d;clear d;go_enter func150.1,Tryz.ntmps150
 go_wp2
 refine(g.o _).mono ?_;rintro e w1 ⟨rfl,rfl⟩
 go_wp2
 refine(Uw _ 1 (by decide) _<|f.o.alloc _).mono ?_;rintro e i ⟨rfl,rfl⟩;exact⟨rfl,rfl,(zr _ _).alloc (ze _) _⟩
def TC(c t x:Zl)(i:t.length<=4096)(hx:x.length<=4096)(w:Zy)(b:dF w):bE prog 159 #[.agg #[zs c,zs t],zs x] w fun e w'=>e= .returned (zs<|V1 t x)/\bC w.heap.size w w':=by
 have a:=zl b;have d:Hid<|∀w1:Zy,dF w1->bE prog 53 #[zs t,zs x] w1 fun f w'=>f= .returned (.tuple #[zs<|V1 t x,zi 0])/\bC w1.heap.size w1 w':=fun w1 h=>xpv t x i hx w1 h;clear b;go_enter func159.1,Tryz.ntmps159
 go_wp2
 refine(d.o _<|a.o.below a.o.pos<|(zr _ _).alloc (ze _) _).mono ?_;rintro e w1 ⟨rfl,g⟩
 go_wp2
 refine(KQ _ _).mono ?_;rintro e j ⟨rfl,rfl⟩
 go_wp2
 go_ret
 exact⟨rfl,Yg ((zr _ _).alloc (ze _) _) g⟩
def OF(c t x:Zl)(g:t.length<=4096)(hx:4096<x.length)(w:Zy)(a:Wh tv w):bE prog 159 #[.agg #[zs c,zs t],zs x] w fun e w'=>e=eF tv/\bC w.heap.size w w':=by
 have d:Hid<|∀w1:Zy,bE prog 53 #[zs t,zs x] w1 fun f w'=>f= .returned (.tuple #[.string<|st [],zi 1])/\w'=w1:=fun w1=>AS t x g hx w1;have b:=zl a;clear a;go_enter func159.1,Tryz.ntmps159
 go_wp2
 refine(d.o _).mono ?_;rintro e w1 ⟨rfl,rfl⟩
 go_wp2
 refine(Uw _ 1 (by decide) _<|b.o.alloc _).mono ?_;rintro e h ⟨rfl,rfl⟩;exact⟨rfl,rfl,(zr _ _).alloc (ze _) _⟩
def Lf(n c:Nat)(w:Zy):bE prog 222 #[.int .i64 n,.int .i64 c] w fun e w'=>e= .returned (.string<|st (83::(nb n 4++nb c 4)))/\bC w.heap.size w w':=by
 have l1:=qt n 4;have f:=qt c 4;have d:Hid<|(⟨#[83]⟩:ByteArray)++st (nb n 4)++st (nb c 4)=st (83::(nb n 4++nb c 4)):=by
  show _=_;rw[show(⟨#[83]⟩:ByteArray)=st [83]from rfl,zv,zv];simp
 go_enter func222.1,Tryz.ntmps222
 go_wp2
 refine(XK _ n rfl _).mono ?_;rintro e w1 ⟨rfl,a⟩
 go_wp2
 refine(XK _ c rfl _).mono ?_;rintro e g ⟨rfl,b⟩
 go_wp2
 go_ret
 exact⟨by rw[<-d.o];rfl,Yg a b⟩
def xx(w:Zy)(r:Nat)(cs:Za)(t:Zt):Prop:=w.heap[r]?=bO (.cells cs t (0,0))
section
variable {w w':World} {r r':Nat} {cs:Array Value} {t:TypeId} {S:Nat->Prop}
def xx.lt(h:xx w r cs t):r<w.heap.size:=(za.1 h).1
def xx.cell(h:xx w r cs t)(i:Nat){v:Zv}(a:cs[i]?=bO v):w.cell? (zq r i)=bO v:=by
 unfold xx at h;simp only[aQ,h];exact a
def xx.bT(h:xx w r cs t)(i:Nat):w.frozen? (zq r i)=bK:=by
 unfold xx at h;simp[World.frozen?,h]
def xx.set(h:xx w r cs t)(i:Nat)(v:Zv):xx (w.setCell (zq r i) v) r (cs.setIfInBounds i v) t:=by
 unfold xx at h⊢;rw[setCell_eq_setRow _ _ _ _ _ _ _ h,Yv _ _ _ _ _ _ h]
def xx.other(h:xx w r cs t){p:Addr}(a:r≠p.block)(v:Zv):xx (w.setCell p v) r cs t:=by
 unfold xx at h⊢;rw[V8 _ _ _ _ a];exact h
def xx.but(h:xx w r cs t)(a:xb S w w')(b:¬S r):xx w' r cs t:=(a.block r h.lt b).trans h
def xx.below(h:xx w r cs t)(a:bC w.heap.size w w'):xx w' r cs t:=(a.block r h.lt).trans h
def xx.alloc(h:xx w r cs t)(o:Obj):xx (w.alloc o) r cs t:=h.below<|(zr _ _).alloc (ze _) _
def xx.new(w:Zy)(cs:Za)(t:Zt):xx (w.alloc<|.cells cs t) w.heap.size cs t:=jw w _
def xb.set(w:Zy)(p:Addr)(v:Zv):xb (·=p.block) w<|w.setCell p v:=⟨rfl,rfl,by simp,fun k _ hk=>V8 _ _ _ _ hk⟩
def xb.alloc(o:Obj):xb S w<|w.alloc o:= .of_below ((zr _ _).alloc (ze _) _)
abbrev Nw(w w':Zy):Prop:=xb (fun _=>False) w w'
def xb.fresh{w0:Zy}(h:xb S w0 w)(c:w0.heap.size<=r)(k:xb (·=r) w w'):xb S w0 w':=
 ⟨k.os.trans h.os,k.output.trans h.output,xz h.size k.size,fun i a b=>(k.block i (zn a h.size)<|by omega).trans<|h.block i a b⟩
end
def rJ{t:Zt}(h:xx w b #[.string<|st l] t)(m:Int)(n:Nat)(d:m=(n:Int))(f:n<=l.length):bE prog 207 #[.pointer<|bO ⟨b,0,bN⟩,.int .i64 m] w fun e w'=>e= .returned (.string<|st<|l.take n)/\xb (·=b) w w'/\xx w' b #[.string<|st<|l.drop n] t:=
 (Gb b l m n d f w (h.cell 0 rfl)<|h.bT 0).mono fun e w' ⟨c,a⟩=>⟨c,by subst a;exact xb.set w ⟨b,0,bN⟩ _,by subst a;have:=h.set 0<|.string<|st<|l.drop n;simpa using this⟩
def VM{t:Zt}(h:xx w b #[.string<|st l] t)(a:Wh tv w)(m:Int)(n:Nat)(c:m=(n:Int))(d:l.length<n):bE prog 207 #[.pointer<|bO ⟨b,0,bN⟩,.int .i64 m] w fun e w'=>e=eF tv/\w'=w:=Ga b l m n c d w (h.cell 0 rfl) a
def V3{t:Zt}(h:xx w b #[.string<|st l] t)(m:Int)(n:Nat)(g:m=(n:Int))(f:n<=6)(i:n<=l.length):bE prog 208 #[.pointer<|bO ⟨b,0,bN⟩,.int .i64 m] w fun e w'=>e= .returned (.int .i64 (Zk (l.take n):Nat))/\xb (·=b) w w'/\xx w' b #[.string<|st<|l.drop n] t:=by
 subst g;refine(QP b l n f i w (h.cell 0 rfl)<|h.bT 0).mono fun e w' ⟨c,d⟩=>?_;have a:bC (w.setCell ⟨b,0,bN⟩<|.string<|st<|l.drop n).heap.size (w.setCell ⟨b,0,bN⟩<|.string<|st<|l.drop n) w':=by
  rw[show(w.setCell ⟨b,0,bN⟩<|.string<|st<|l.drop n).heap.size=w.heap.size by simp];exact d
 refine⟨c,?_,?_⟩;exact(xb.set w ⟨b,0,bN⟩<|.string<|st<|l.drop n).trans (.of_below (S:=(·=b)) a);have:=(h.set 0<|.string<|st<|l.drop n).below a;simpa using this
def E8{t:Zt}(h:xx w b #[.string<|st l] t)(a:Wh tv w)(m:Int)(n:Nat)(c:m=(n:Int))(d:l.length<n):bE prog 208 #[.pointer<|bO ⟨b,0,bN⟩,.int .i64 m] w fun e w'=>e=eF tv/\w'=w:=by subst c;exact sY b l n d w (h.cell 0 rfl) a
def eT(l:Zl):Nat:=Zk<|(l.drop 8).take 2
def xok(l:Zl)(a b:Nat):(st l).extract a b=st ((l.take b).drop a):=by
 apply IP;simp only[st,ByteArray.data_extract,List.extract_toArray,XQ];rw[List.drop_take]
def Nf(l:Zl)(f:10<=l.length)(w:Zy):bE prog 301 #[zs l] w fun e w'=>e= .returned (zi (eT l:Nat))/\Nw w w':=by
 have a:Hid<|(st l).extract 8 10=st ((l.drop 8).take 2):=by show _=_;rw[xok,List.drop_take]
 have b:Hid<|((l.drop 8).take 2).take 2=(l.drop 8).take 2:=qj (by simp;omega);have c:2<=((l.drop 8).take 2).length:=by simp;omega
 go_enter func301.1,Tryz.ntmps301
 go_wp2
 rw[a.o];refine(V3 (xx.new w #[zs<|(l.drop 8).take 2] 277) 2 2 rfl (by decide) c).mono ?_;rintro e w1 ⟨rfl,d,hk⟩
 go_wp2
 go_ret
 exact⟨by rw[b.o];rfl,xb.fresh (xb.alloc _) (ze _) d⟩
def IT(x:ByteArray)(l:Zl)(hx:x=st l)(a:10<=l.length)(w:Zy):bE prog 301 #[.string x] w fun e w'=>e= .returned (zi (eT l:Nat))/\Nw w w':=by subst hx;exact Nf l a w
def xqk(l:Zl):eT l<65536:=by
 unfold eT;have:=LF<|(l.drop 8).take 2;have a:((l.drop 8).take 2).length<=2:=by rw[xt];omega
 have:256^((l.drop 8).take 2).length<=256^2:=PM (by decide) a;omega
def X7(l:Zl):Bool:=decide (10<=l.length/\42+eT l<=l.length)
def zug(l:Zl)(w:Zy):bE prog 260 #[zs l] w fun e w'=>e= .returned (.bool<|X7 l)/\Nw w w':=by
 have i:=xqk l;by_cases a:10<=l.length
 ·have d:(10:Int)<=(l.length:Nat):=by omega
  have f:IntKind.i64.wrap (10+(eT l:Int))=10+(eT l:Int):=by rw[xn];omega
  have g:IntKind.i64.wrap (10+(eT l:Int)+32)=10+(eT l:Int)+32:=by rw[xn];omega
  have b:Hid<|X7 l=decide ((10+(eT l:Int)+32)<=(l.length:Nat)):=by
   show _=_;unfold X7;exact decide_eq_decide.2 ⟨fun h=>by omega,fun h=>⟨a,by omega⟩⟩
  go_enter func260.1,Tryz.ntmps260
  go_wp2
  refine(Nf l a _).mono ?_;rintro e w1 ⟨rfl,c⟩
  go_wp2
  go_ret
  exact⟨by rw[b.o];rfl,c⟩
 have d:(l.length:Int)<10:=by omega
 have b:Hid<|X7 l=bK:=by show _=_;unfold X7;simp;omega
 go_enter func260.1,Tryz.ntmps260
 go_wp2
 go_ret
 exact⟨by rw[b.o];rfl,xb.refl _ _⟩
end
end
section
variable {R:Ending→Zy→Prop}
section
variable {w x v:World} {r b i:Nat} {cs:Array Value} {t:TypeId} {S:Nat->Prop} {o:Obj} {u:Value}
def kN{P:Zp}{f:FuncId}{a:Za}{W:Zy}(h:∀v,W=v->bE P f a v R):bE P f a W R:=h _ rfl
def Gv{P:Zp}{f:Func}{W:Zy}{e:Exit}{a:Act}(h:∀v,W=v->bodyPost P f R e a v):bodyPost P f R e a W:=h _ rfl
def xx.al(h:xx x r cs t)(e:x.alloc o=v):xx v r cs t:=e▸h.alloc o
def xx.nu(e:x.alloc (.cells cs t)=v):xx v x.heap.size cs t:=e▸xx.new x cs t
def xx.st(h:xx x r cs t)(e:x.setCell (zq r i) u=v):xx v r (cs.setIfInBounds i u) t:=e▸h.set i u
def xx.ot(h:xx x r cs t)(e:x.setCell (zq b i) u=v)(n:r≠b):xx v r cs t:=e▸h.other (p:=zq b i) n u
def xb.al(h:xb S w x)(e:x.alloc o=v):xb S w v:=e▸h.trans (xb.alloc o)
def xb.st(h:xb S w x)(e:x.setCell (zq b i) u=v)(n:w.heap.size<=b):xb S w v:=h.fresh n<|e▸xb.set x (zq b i) u
def xoe(x:Zy)(p:Addr)(u:Zv):(x.setCell p u).heap.size=x.heap.size:=by simp
def xoc(e:x.alloc o=v):v.heap.size=x.heap.size+1:=e▸xh x o
end
end
section
attribute [local go_sem] xe zv
section
variable {t:Zt} {b:Nat} {tv:Zv} {w:Zy} {l:Zl}
def OQ(l:Zl):Zv:= .agg #[.string<|st<|l.take 1,.int .i64 (Zk ((l.drop 1).take 1):Nat),.int .i64 (Zk ((l.drop 4).take 4):Nat),.string<|st<|l.take 10,.string<|st<|(l.drop 10).take<|eT l,.string<|st<|(l.drop<|10+eT l).take 32]
def D3(l:Zl):eT (l.take 10)=eT l:=by
 unfold eT;rw[List.drop_take,List.take_take];rfl
structure RS(w v:Zy)(b:Nat)(l:Zl)(c:Za):Prop where
 B:xx v b #[zs l] 277
 X:xx v w.heap.size #[.string ⟨#[]⟩,zi 0,zi 0,.string ⟨#[]⟩,.string ⟨#[]⟩,.string ⟨#[]⟩] 342
 R:xx v (w.heap.size+1) c 342
 A:xb (·=b) w v
section
variable {w v v':World} {b h i:Nat} {l l':List UInt8} {c:Array Value} {u:Value} {o:Obj} {S:Nat->Prop}
def RS.cut(s:RS w v b l c)(lb:b<w.heap.size)(k:xb (·=b) v v')(a:xx v' b #[zs l'] 277):RS w v' b l' c:=⟨a,s.X.but k<|by omega,s.R.but k<|by omega,s.A.trans k⟩
def RS.nw(s:RS w v b l c)(k:Nw v v'):RS w v' b l c:=⟨s.B.but k id,s.X.but k id,s.R.but k id,s.A.trans<|k.mono fun _ h=>h.elim⟩
def RS.fr(s:RS w v b l c)(lb:b<w.heap.size)(a:w.heap.size+1<h)(k:xb (·=h) v v'):RS w v' b l c:=⟨s.B.but k<|by omega,s.X.but k<|by omega,s.R.but k<|by omega,s.A.fresh (by omega) k⟩
def RS.set(s:RS w v b l c)(lb:b<w.heap.size)(e:v.setCell (zq (w.heap.size+1) i) u=v'):RS w v' b l<|c.setIfInBounds i u:=⟨s.B.ot e<|by omega,s.X.ot e<|by omega,s.R.st e,s.A.st e<|by omega⟩
def RS.al(s:RS w v b l c)(e:v.alloc o=v'):RS w v' b l c:=s.nw<|e▸xb.alloc o
end
def zyc(b:Nat)(l l1 l2 hd:Zl)(n:Nat)(q3:hd.length=10)(D:eT hd=n)(q2:32<=l2.length)(w:Zy)(t:xx w b #[zs l] 277)
  (J:∀w0,xx w0 b #[zs l] 277->bE prog 207 #[zo b,zi 10] w0 fun e w'=>e= .returned (zs hd)/\xb (·=b) w0 w'/\xx w' b #[zs l1] 277)
  (K:∀w0,xx w0 b #[zs l1] 277->bE prog 207 #[zo b,zi n] w0 fun e w'=>e= .returned (zs<|l1.take n)/\xb (·=b) w0 w'/\xx w' b #[zs l2] 277):
  bE prog 262 #[zo b] w fun e w'=>e= .returned (.agg #[zs<|hd.take 1,zi (Zk ((hd.drop 1).take 1):Nat),zi (Zk ((hd.drop 4).take 4):Nat),zs hd,zs<|l1.take n,zs<|l2.take 32])/\xb (·=b) w w'/\xx w' b #[zs<|l2.drop 32] 277:=by
 have d:=t.lt;have U:=zl t;have W:=zl J;have Y:=zl K;have V:=zl D;clear t J K D;go_enter func262.1,Tryz.ntmps262
 go_wp2
 refine kN fun v a=>?_;have S:Hid<|RS w v b l _:=⟨(U.o.alloc _).al a,(xx.new w _ _).al a,xh w _▸xx.nu a,(xb.alloc _).al a⟩;clear a;refine(W.o _ S.o.B).mono ?_;rintro e w1 ⟨rfl,L,E⟩;replace S:=zl<|S.o.cut d L E;clear L E;have Z:=S.o.R.cell 3 rfl;have f1:=S.o.R.bT 3
 go_wp2
 refine kN fun v a=>?_;replace S:=zl<|S.o.set d a;clear a Z f1;refine(IT _ hd rfl (by omega) _).mono ?_;rintro e w3 ⟨rfl,M⟩;replace S:=zl<|S.o.nw M;clear M;rw[V.o]
 go_wp2
 refine(Y.o _ S.o.B).mono ?_;rintro e w4 ⟨rfl,O,F⟩;replace S:=zl<|S.o.cut d O F;clear O F;have c2:=S.o.R.cell 4 rfl;have f2:=S.o.R.bT 4
 go_wp2
 refine kN fun v a=>?_;replace S:=zl<|S.o.set d a;clear a c2 f2;refine(rJ S.o.B 32 32 rfl<|by omega).mono ?_;rintro e w6 ⟨rfl,Q,G⟩;replace S:=zl<|S.o.cut d Q G;clear Q G;have s:=S.o.R.lt;have c3:=S.o.R.cell 5 rfl;have f3:=S.o.R.bT 5;have c4:=S.o.R.cell (v:=zs hd) 3 rfl
 go_wp2
 refine kN fun v a=>?_;have H:=zl<|xx.nu a;rw[xoe]at H;replace S:=zl<|(S.o.set d rfl).al a;clear a c3 f3 c4;refine(rJ H.o 1 1 rfl<|by omega).mono ?_;rintro e w8 ⟨rfl,T,I⟩;replace S:=zl<|S.o.fr d s T;replace H:=zl I;clear T I;have c5:=S.o.R.cell 0 rfl;have f5:=S.o.R.bT 0
 go_wp2
 refine kN fun v a=>?_;replace S:=zl<|S.o.set d a;replace H:=zl (H.o.ot a<|by omega);clear a c5 f5;refine(V3 H.o 1 1 rfl (by decide)<|by simp;omega).mono ?_;rintro e bm ⟨rfl,o,i⟩;replace S:=zl<|S.o.fr d s o;replace H:=zl i;generalize f:Zk (List.take 1<|List.drop 1 hd)=v1;replace f:=zl f;clear o i;have c6:=S.o.R.cell 1 rfl;have f6:=S.o.R.bT 1
 go_wp2
 refine kN fun v a=>?_;replace S:=zl<|S.o.set d a;replace H:=zl (H.o.ot a<|by omega);clear a c6 f6;refine(rJ H.o 2 2 rfl<|by simp;omega).mono ?_;rintro e bn ⟨rfl,q,m⟩;replace S:=zl<|S.o.fr d s q;replace H:=zl m;clear q m
 go_wp2
 refine(V3 H.o 4 4 rfl (by decide)<|by simp;omega).mono ?_;rintro e C ⟨rfl,r,z⟩;replace S:=zl<|S.o.fr d s r;generalize g:Zk (List.take 4<|List.drop 2<|List.drop 1<|List.drop 1 hd)=v2;replace g:=zl g;clear r z H;have c:=fun j u h=>S.o.R.cell (v:=u) j h;have x:=fun j u h=>S.o.X.cell (v:=u) j h;have c7:=c 2 _ rfl;have bd:=c 0 (zs<|hd.take 1) rfl;have be:=c 1 (zi v1) rfl;have bf:=c 3 (zs hd) rfl;have bg:=c 4 (zs<|l1.take n) rfl;have bh:=c 5 (zs<|l2.take 32) rfl;have f7:=S.o.R.bT 2;have c8:=x 0 _ rfl;have c9:=x 1 _ rfl;have ba:=x 2 _ rfl;have bb:=x 3 _ rfl;have bc:=x 4 _ rfl;have c13:=x 5 _ rfl;have f8:=S.o.X.bT 0;have f9:=S.o.X.bT 1;have bi:=S.o.X.bT 2;have bj:=S.o.X.bT 3;have bk:=S.o.X.bT 4;have bl:=S.o.X.bT 5;clear c x
 go_wp2
 refine Gv fun v a=>?_;have X:=(((((((S.o.X.other (p:=zq (w.heap.size+1) 2) (by simp) _).set 0 _).set 1 _).set 2 _).set 3 _).set 4 _).st a);have A:xb (fun y=>y=w.heap.size\/y=w.heap.size+1) C v:=by
  subst a
  iterate 7 refine xb.trans ?_<|(xb.set _ _ _).mono<|by simp
  exact xb.refl _ _
 clear a;have y0:=X.cell (v:=zs<|hd.take 1) 0 rfl;have y1:=X.cell (v:=zi v1) 1 rfl;have y2:=X.cell (v:=zi v2) 2 rfl;have y3:=X.cell (v:=zs hd) 3 rfl;have y4:=X.cell (v:=zs<|l1.take n) 4 rfl;have y5:=X.cell (v:=zs<|l2.take 32) 5 rfl;refine jz (v:= .agg #[zs<|hd.take 1,zi v1,zi v2,zs hd,zs<|l1.take n,zs<|l2.take 32]) (by simp[results,Tryz.results262,go_sem,y0,y1,y2,y3,y4,y5]) rfl ⟨?_,⟨A.os.trans S.o.A.os,A.output.trans S.o.A.output,xz S.o.A.size A.size,fun k hk hn=>(A.block k (zn hk S.o.A.size)<|by omega).trans<|S.o.A.block k hk hn⟩,S.o.B.but A<|by omega⟩;rw[<-f.o,<-g.o];simp only[Vx,Nat.reduceAdd]
def LN(b:Nat)(l:Zl)(i:X7 l=bL)(w:Zy)(g:xx w b #[zs l] 277):bE prog 262 #[zo b] w fun e w'=>e= .returned (OQ l)/\xb (·=b) w w'/\xx w' b #[zs<|l.drop<|42+eT l] 277:=by
 obtain⟨a,f⟩:10<=l.length/\42+eT l<=l.length:=by simpa[X7]using i
 have h:=zyc b l (l.drop 10) ((l.drop 10).drop<|eT l) (l.take 10) (eT l) (by rw[xt];omega) (D3 l) (by rw[jb,jb];omega) w g
  (fun j h=>rJ h 10 10 rfl a) (fun j h=>rJ h _ (eT l) rfl<|by rw[jb];omega)
 have c:((l.drop 10).drop<|eT l).drop 32=l.drop (42+eT l):=by rw[Vx,Vx];congr 1;omega
 have d:OQ l= .agg #[zs<|(l.take 10).take 1,zi (Zk (((l.take 10).drop 1).take 1):Nat),zi (Zk (((l.take 10).drop 4).take 4):Nat),zs<|l.take 10,zs<|(l.drop 10).take<|eT l,.string<|st<|((l.drop 10).drop<|eT l).take 32]:=by
  unfold OQ;simp only[Vx,List.take_take,List.drop_take,Nat.reduceSub];rfl
 rw[c]at h;rw[d];exact h
def F5(l:Zl):(st l).toList=[]↔l=[]:=by
 rw[toList_nil_iff_emptyBytes];constructor;intro h;have:=congrArg ByteArray.size h;rw[xe]at this;exact xa this;rintro rfl;rfl
def Kx(l:Zl):(st l).toList.isEmpty=l.isEmpty:=by
 cases l with
 |nil=>rw[(F5 []).2 rfl]
 |cons a l=>
  cases h:(st (a::l)).toList with
  |nil=>exact absurd ((F5 _).1 h)<|by simp
  |cons=>rfl
def KD(l:Zl)(w:Zy):bE prog 46 #[zs l] w fun e w'=>e= .returned (.bool (decide (0<l.length/\l.length<=16)))/\w'=w:=by
 have b:Hid<|(!l.isEmpty&&decide ((l.length:Int)<=16))=decide (0<l.length/\l.length<=16):=by
  show _=_;cases l<;>simp
  omega
 have c:Hid<|l=[]->decide (0<l.length/\l.length<=16)=bK:=fun h=>by subst h;rfl
 have a:=zl<|Kx l;have d:=zl<|F5 l;go_enter func46.1,Tryz.ntmps46
 go_wp2
 ·rename_i h
  go_ret
  exact⟨by rw[c.o<|d.o.1 h];rfl,rfl⟩
 go_ret
 refine⟨?_,rfl⟩;rw[<-b.o,<-a.o];rfl
def Ou(l:Zl)(w:Zy):bE prog 47 #[zs l] w fun e w'=>e= .returned (.bool (decide (l.length<=32)))/\w'=w:=by
 have a:Hid (decide (l.length<=32)=decide ((l.length:Int)<=32)):=decide_eq_decide.2 (by omega);go_enter func47.1,Tryz.ntmps47
 go_wp2
 all_goals go_ret
 all_goals exact⟨by rw[a.o];rfl,rfl⟩
def Fs(h:xx w b #[.string<|st l] t)(m:Int)(n:Nat)(d:m=(n:Int))(j:0<n)(c:n<=16)(f:n<=l.length):bE prog 315 #[.pointer<|bO ⟨b,0,bN⟩,.int .i64 m] w fun e w'=>e= .returned (.string<|st<|l.take n)/\xb (·=b) w w'/\xx w' b #[.string<|st<|l.drop n] t:=by
 subst d;have a:=zl h;clear h;go_enter func315.1,Tryz.ntmps315
 go_wp2
 refine(rJ a.o _ n rfl f).mono ?_;rintro e w1 ⟨rfl,i,g⟩
 go_wp2
 refine(KD (l.take n) _).mono ?_;rintro e k ⟨rfl,rfl⟩
 go_wp2
 refine(Yb _ (by simp) _).mono ?_;rintro e o ⟨rfl,rfl⟩
 go_wp2
 go_ret
 exact⟨rfl,i,g⟩
def Fu(h:xx w b #[.string<|st l] t)(d:Wh tv w)(j:b≠1)(m:Int)(n:Nat)(k:m=(n:Int))(f:¬(0<n/\n<=16/\n<=l.length)):bE prog 315 #[.pointer<|bO ⟨b,0,bN⟩,.int .i64 m] w fun e w'=>e=eF tv/\xb (·=b) w w':=by
 subst k;have a:=zl h;have c:=zl d;clear h d;go_enter func315.1,Tryz.ntmps315
 go_wp2
 by_cases o:n<=l.length
 ·refine(rJ a.o _ n rfl o).mono ?_
  rintro e w1 ⟨rfl,g,p⟩;have i:=zl<|c.o.but g<|by omega
  go_wp2
  refine(KD (l.take n) _).mono ?_;rintro e q ⟨rfl,rfl⟩
  go_wp2
  refine(Xu _ (by simp;omega) _ i.o).mono ?_;rintro e r ⟨rfl,rfl⟩;exact⟨rfl,rfl,g⟩
 refine(VM a.o c.o _ n rfl<|by omega).mono ?_;rintro e w1 ⟨rfl,rfl⟩;exact⟨rfl,rfl,xb.refl _ _⟩
def jS(l:Zl):Option<|(Zl×Zl)×Zl:=
 if 2<=l.length then
  let k:=Zk<|l.take 1;let v:=Zk<|(l.drop 1).take 1;let r:=(l.drop 1).drop 1
  if(0<k/\k<=16/\k<=r.length)/\v<=(r.drop k).length/\v<=32 then bO ((r.take k,(r.drop k).take v),(r.drop k).drop v)else bN
 else bN
def AJ(tv:Zv)(b:Nat)(t:Zt)(l:Zl)(w:Zy)(e:Ending)(w':Zy):Prop:=
 xb (·=b) w w'/\(match jS l with|some ((k,v),r)=>e= .returned (.agg #[zs k,zs v])/\xx w' b #[zs r] t|none=>e=eF tv)
def zrg{l k v r:Zl}{w w':Zy}(h:jS l=bO ((k,v),r))(a:xb (·=b) w w')(hk:xx w' b #[zs r] t):AJ tv b t l w (.returned<|.agg #[zs k,zs v]) w':=by
 unfold AJ;rw[h];exact⟨a,rfl,hk⟩
def HY{w w':Zy}(h:jS l=bN)(a:xb (·=b) w w'):AJ tv b t l w (eF tv) w':=by
 unfold AJ;rw[h];exact⟨a,rfl⟩
def Ry(l:Zl)(I:b≠1)(h:xx w b #[.string<|st l] t)(W:Wh tv w):
  bE prog 295 #[.pointer<|bO ⟨b,0,bN⟩] w (AJ tv b t l w):=by
 have HB:=zl h;have HG:=zl W;have ba:=h.lt;have c:Hid (jS l=if 2<=l.length then
  (if(0<Zk (l.take 1)/\Zk (l.take 1)<=16/\Zk (l.take 1)<=((l.drop 1).drop 1).length)/\Zk ((l.drop 1).take 1)<=(((l.drop 1).drop 1).drop<|Zk<|l.take 1).length/\Zk ((l.drop 1).take 1)<=32 then bO ((((l.drop 1).drop 1).take<|Zk<|l.take 1,(((l.drop 1).drop 1).drop<|Zk<|l.take 1).take<|Zk<|(l.drop 1).take 1),(((l.drop 1).drop 1).drop<|Zk<|l.take 1).drop<|Zk<|(l.drop 1).take 1)else bN)else bN):=rfl
 clear h W;go_enter func295.1,Tryz.ntmps295
 go_wp2
 have J:Hid (xb (·=b) w<|w.alloc<|.cells #[.string ⟨#[]⟩,.string ⟨#[]⟩] 104):=xb.alloc _;have Q:=zl<|HB.o.alloc<|.cells #[.string ⟨#[]⟩,.string ⟨#[]⟩] 104;have R:=zl<|HG.o.alloc<|.cells #[.string ⟨#[]⟩,.string ⟨#[]⟩] 104;have X0:Hid<|xx (w.alloc<|.cells #[.string ⟨#[]⟩,.string ⟨#[]⟩] 104) w.heap.size #[.string ⟨#[]⟩,.string ⟨#[]⟩] 104:=xx.new _ _ _;generalize w.alloc (.cells #[.string ⟨#[]⟩,.string ⟨#[]⟩] 104)=w0 at*;by_cases h1:1<=l.length
 ·refine(V3 Q.o 1 1 rfl (by decide) h1).mono ?_
  rintro e w1 ⟨rfl,z,Y⟩;have S:=zl (R.o.but z<|by omega);have X1:=zl (X0.o.but z<|by omega);have E:=zl Y;have K:=zl<|J.o.trans z;clear Y z;obtain⟨k,hk⟩:∃k,Zk (List.take 1 l)=k:=⟨_,rfl⟩;rw[hk]at c⊢;clear hk;obtain⟨l1,f⟩:∃l1,l.drop 1=l1:=⟨_,rfl⟩;have q1:l1.length=l.length-1:=by rw[<-f,jb]
  rw[f]at c E;clear f
  go_wp2
  by_cases h2:1<=l1.length
  ·refine(V3 E.o 1 1 rfl (by decide) h2).mono ?_
   rintro e w2 ⟨rfl,B,Z⟩;have T:=zl (S.o.but B<|by omega);have X2:=zl (X1.o.but B<|by omega);have F:=zl Z;have L:=zl<|K.o.trans B;clear Z B;obtain⟨v,X⟩:∃v,Zk (List.take 1 l1)=v:=⟨_,rfl⟩;rw[X]at c⊢;clear X;obtain⟨y,q⟩:∃y,l1.drop 1=y:=⟨_,rfl⟩;rw[q]at c F;clear q
   go_wp2
   by_cases i:0<k/\k<=16/\k<=y.length
   ·refine(Fs F.o _ k rfl i.1 i.2.1 i.2.2).mono ?_
    rintro e w3 ⟨rfl,C,k3⟩;have G3:=zl (T.o.but C<|by omega);have X3:=zl (X2.o.but C<|by omega);have G:=zl k3;have M:=zl<|L.o.trans C;clear k3 C;obtain⟨j,s⟩:∃j,y.drop k=j:=⟨_,rfl⟩;rw[s]at c G;clear s;obtain⟨g,o⟩:∃g,y.take k=g:=⟨_,rfl⟩;rw[o]at c⊢;clear o
    go_wp2
    by_cases V:v<=j.length
    ·refine(rJ G.o _ v rfl V).mono ?_
     rintro e D ⟨rfl,m,k4⟩;have G4:=zl (G3.o.but m<|by omega);have n:=zl (X3.o.but m<|by omega);have B4:=zl k4;have O:=zl<|M.o.trans m;clear k4 m;have q4:(j.take v).length=v:=by rw[xt];omega
     obtain⟨d,x⟩:∃d,j.take v=d:=⟨_,rfl⟩;rw[x]at c q4⊢;clear x
     go_wp2
     refine(Ou d _).mono ?_;rintro e w5 ⟨rfl,rfl⟩
     go_wp2
     by_cases H:v<=32
     ·have a:Hid<|jS l=bO ((g,d),j.drop v):=by show _=_;rw[c.o,aA<|by omega,aA ⟨i,V,H⟩]
      clear c;refine(Yb _ (by simp[H]) _).mono ?_;rintro e w6 ⟨rfl,rfl⟩;have c0:=n.o.cell 0 rfl;have f0:=n.o.bT 0;have c1:=n.o.cell 1 rfl;have f1:=n.o.bT 1
      go_wp2
      have U:=(n.o.set 0<|.string<|st g).set 1<|.string<|st d;have BE:=(B4.o.other (p:=⟨w.heap.size,0,bN⟩) (by show b≠w.heap.size;omega)<|.string<|st g).other (p:=⟨w.heap.size,1,bN⟩) (by show b≠w.heap.size;omega)<|.string<|st d;have AE:=(O.o.fresh (r:=w.heap.size) (ze _)<|xb.set _ ⟨w.heap.size,0,bN⟩<|.string<|st g).fresh (r:=w.heap.size) (ze _)<|xb.set _ ⟨w.heap.size,1,bN⟩<|.string<|st d;have y0:=U.cell 0 rfl;have y1:=U.cell 1 rfl;refine jz (v:= .agg #[.string<|st g,.string<|st d]) (by simp[results,Tryz.results295,go_sem,y0,y1]) rfl ?_;exact zrg a.o AE BE
     have a:Hid<|jS l=bN:=by show _=_;rw[c.o,aA<|by omega,aB<|by omega]
     refine(Xu _ (by simp[H]) _ G4.o).mono ?_;rintro e w6 ⟨rfl,rfl⟩;exact⟨rfl,HY a.o<|O.o⟩
    have a:Hid<|jS l=bN:=by show _=_;rw[c.o,aA<|by omega,aB<|by omega]
    refine(VM G.o G3.o _ v rfl<|by omega).mono ?_;rintro e D ⟨rfl,rfl⟩;exact⟨rfl,HY a.o<|M.o⟩
   have a:Hid<|jS l=bN:=by show _=_;rw[c.o,aA<|by omega,aB fun h=>i h.1]
   refine(Fu F.o T.o I _ k rfl i).mono ?_;rintro e D ⟨rfl,m⟩;exact⟨rfl,HY a.o<|L.o.trans m⟩
  have a:Hid<|jS l=bN:=by show _=_;rw[c.o,aB<|by omega]
  refine(E8 E.o S.o 1 1 rfl<|by omega).mono ?_;rintro e D ⟨rfl,rfl⟩;exact⟨rfl,HY a.o<|K.o⟩
 have a:Hid<|jS l=bN:=by show _=_;rw[c.o,aB<|by omega]
 refine(E8 Q.o R.o 1 1 rfl<|by omega).mono ?_;rintro e D ⟨rfl,rfl⟩;exact⟨rfl,HY a.o<|J.o⟩
inductive dM where
 |put (k v:Zl)
 |del (k:Zl)
def iC:dM->Zv
 | .put k v=> .iface 104 (.agg #[.string<|st k,.string<|st v])
 | .del k=> .iface 106 (.agg #[.string<|st k])
def kP:Zl->Option (dM×Zl)
 |[]=>bN
 |a::l=>
  if a=80 then(match jS l with|some ((k,v),r)=>bO (.put k v,r)|none=>bN)
  else if a=68 then
   (match l with
   |[]=>bN
   |b::r=>if 0<b.toNat/\b.toNat<=16/\b.toNat<=r.length then bO (.del<|r.take b.toNat,r.drop b.toNat)else bN)
  else bN
def EN(tv:Zv)(b:Nat)(t:Zt)(l:Zl)(w:Zy)(e:Ending)(w':Zy):Prop:=
 xb (·=b) w w'/\(match kP l with|some (c,r)=>e= .returned (iC c)/\xx w' b #[zs r] t|none=>e=eF tv)
def Ma{l r:Zl}{c:dM}{w w':Zy}(h:kP l=bO (c,r))(a:xb (·=b) w w')(hk:xx w' b #[zs r] t):EN tv b t l w (.returned<|iC c) w':=by
 unfold EN;rw[h];exact⟨a,rfl,hk⟩
def IK{w w':Zy}(h:kP l=bN)(a:xb (·=b) w w'):EN tv b t l w (eF tv) w':=by
 unfold EN;rw[h];exact⟨a,rfl⟩
def xo(l:Zl):(st l).toList=l:=by rw[ByteArray.toList_eq];rfl
def RJ(a:Z8):Zk [a]=a.toNat:=by simp[Zk]
def zwl(l:Zl)(z:b≠1)(h:xx w b #[.string<|st l] t)(O:Wh tv w):
  bE prog 316 #[.pointer<|bO ⟨b,0,bN⟩] w (EN tv b t l w):=by
 have F:=zl h;have G:=zl O;clear h O;go_enter func316.1,Tryz.ntmps316
 go_wp2
 cases l with
 |nil=>
  refine(VM F.o G.o 1 1 rfl<|by simp).mono ?_;rintro e w1 ⟨rfl,rfl⟩;exact⟨rfl,IK rfl<|xb.refl _ _⟩
 |cons a l=>
  refine(rJ F.o 1 1 rfl<|by simp).mono ?_;rintro e w1 ⟨rfl,K,Q⟩;have p:=zl (G.o.but K<|by omega);have D:Hid<|xx w1 b #[.string<|st l] t:=Q;have m:=zl K;clear Q K F G;have i:((st<|List.take 1 (a::l)).toList==[80])=decide (a=80):=by rw[xo];by_cases h:a=80<;>simp[h]
  have g:((st<|List.take 1 (a::l)).toList==[68])=decide (a=68):=by rw[xo];by_cases h:a=68<;>simp[h]
  generalize st (List.take 1 (a::l))=x at*;by_cases f:a=80
  ·have y:(x.toList==[80])=bL:=by rw[i];simp[f]
   clear i g
   go_wp2
   refine(Ry (tv:=tv) l z D.o p.o).mono ?_;intro e L B;unfold AJ at B;cases hq:jS l with
   |none=>
    rw[hq]at B;obtain⟨j,rfl⟩:=B;exact⟨rfl,IK (by simp[kP,f,hq])<|m.o.trans j⟩
   |some q=>
    obtain⟨⟨k,v⟩,r⟩:=q;rw[hq]at B;obtain⟨j,rfl,C⟩:=B;have H:Hid<|kP (a::l)=bO (.put k v,r):=by show _=_;simp[kP,f,hq]
    have n:=zl<|m.o.trans j;have o:=zl C;clear j C hq
    go_wp2
    go_ret
    exact Ma H.o n.o o.o
  have y:(x.toList==[80])=bK:=by rw[i];simp[f]
  by_cases d:a=68
  ·have s:(x.toList==[68])=bL:=by rw[g];simp[d]
   clear i g
   go_wp2
   cases l with
   |nil=>
    refine(E8 D.o p.o 1 1 rfl<|by simp).mono ?_;rintro e L ⟨rfl,rfl⟩;exact⟨rfl,IK (by simp[kP,f,d]) m.o⟩
   |cons c r=>
    refine(V3 D.o 1 1 rfl (by decide)<|by simp).mono ?_;rintro e L ⟨rfl,j,C⟩;have M:=zl (p.o.but j<|by omega);have o:Hid<|xx L b #[.string<|st r] t:=C;have n:=zl<|m.o.trans j;clear j C m D p;rw[show Zk (List.take 1 (c::r))=c.toNat from RJ c]
    go_wp2
    by_cases hk:0<c.toNat/\c.toNat<=16/\c.toNat<=r.length
    ·have H:Hid<|kP (a::c::r)=bO (.del<|r.take c.toNat,r.drop c.toNat):=by show _=_;simp[kP,d,hk]
     refine(Fs o.o _ c.toNat rfl hk.1 hk.2.1 hk.2.2).mono ?_;rintro e U ⟨rfl,E,R⟩;have T:=zl R;have S:=zl<|n.o.trans E;clear E R n o M
     go_wp2
     go_ret
     exact Ma H.o S.o T.o
    refine(Fu o.o M.o z _ c.toNat rfl hk).mono ?_;rintro e U ⟨rfl,E⟩;exact⟨rfl,IK (by simp[kP,d,hk])<|n.o.trans E⟩
  have s:(x.toList==[68])=bK:=by rw[g];simp[d]
  clear i g;obtain⟨V,W,J,I⟩:=p.o
  go_wp2
  subst J;exact⟨rfl,IK (by simp[kP,f,d]) m.o⟩
def yU{S:ZP}{w i:Zy}{base e a:Nat}{v:Zv}{n:Nat}{xs:Ze}(h:w.ownsRow base e a v n xs)(l:xb S w i)(k:∀q,base<=q->¬S q):i.ownsRow base e a v n xs:=by
 refine⟨h.1,?_⟩;rcases h.2 with j|⟨g,b,c,m,d,f,r⟩
 exact .inl j;exact .inr ⟨g,b,c,m,d,(l.block g (za.1 f).1<|k g d).trans f,r⟩
def xb.dH{S:ZP}{a w w':Zy}(h:xb S a w)(k:bC a.heap.size w w'):xb S a w':=⟨k.os.trans h.os,k.output.trans h.output,xz h.size k.size,fun i b c=>(k.block i b).trans<|h.block i b c⟩
def jZ:Nat->Zl->Option (List dM)
 |_,[]=>bO []
 |0,_::_=>bN
 |n+1,a::l=>match kP (a::l)with
  |some (c,r)=>(jZ n r).map (c::·)
  |none=>bN
def RH{l k v r:Zl}(h:jS l=bO ((k,v),r)):r.length<l.length:=by
 unfold jS at h;split at h;simp only at h;split at h;cases h;simp only[jb];omega;cases h;cases h
def H_{l r:Zl}{c:dM}(h:kP l=bO (c,r)):r.length<l.length:=by
 cases l with
 |nil=>cases h
 |cons a l=>
  simp only[kP]at h;by_cases e:a=80;rw[aA e]at h;cases hp:jS l with
  |none=>rw[hp]at h;cases h
  |some q=>
   obtain⟨⟨k,v⟩,f⟩:=q;rw[hp]at h;simp only[zp,qg]at h;have:=RH hp;rw[<-h.2];simp only[zh];omega
  rw[aB e]at h;by_cases d:a=68;rw[aA d]at h;cases l with
  |nil=>cases h
  |cons b f=>
   simp only at h;by_cases hk:0<b.toNat/\b.toNat<=16/\b.toNat<=f.length;rw[aA hk]at h;simp only[zp,qg]at h;rw[<-h.2];simp only[jb,zh];omega;rw[aB hk]at h;cases h
  rw[aB d]at h;cases h
def KB:∀(n:Nat) (l:Zl),l.length<=n->jZ n l=jZ l.length l:=by
 intro n;induction n using Nat.strongRecOn with
 |_ n ih=>
  intro l d;cases l with
  |nil=>cases n<;>rfl
  |cons a l=>
   cases n with
   |zero=>simp at d
   |succ n=>
    show jZ (n+1) (a::l)=jZ (l.length+1) (a::l);simp only[jZ];cases h:kP (a::l)with
    |none=>rfl
    |some q=>
     obtain⟨c,r⟩:=q;have b:=H_ h;simp only[zh]at b d;simp only;rw[ih n (by omega) r<|by omega];by_cases e:r.length=l.length;rw[<-e];rw[ih l.length (by omega) r<|by omega]
def nZ(l:Zl):Option<|List dM:=match jZ l.length l with
 |some D=>if 1<=D.length/\D.length<=20 then bO D else bN
 |none=>bN
def Qg{a:Z8}{l r:Zl}{c:dM}(h:kP (a::l)=bO (c,r)):jZ (a::l).length (a::l)=(jZ r.length r).map (c::·):=by
 have b:=H_ h;simp only[zh]at b;show jZ (l.length+1) (a::l)=_;simp only[jZ,h];rw[KB l.length r<|by omega]
def m8{a:Z8}(h:kP (a::l)=bN):jZ (a::l).length (a::l)=bN:=by
 show jZ (l.length+1) (a::l)=_;simp only[jZ,h]
def Bq(c:dM):(iC c).oneCell'=bL:=by cases c<;>rfl
def Bz:∃i,prog.info? 173=bO i/\i.zero=bO .nilIface/\i.size=1/\i.bytes=16:=by
 have h:(prog.info? 173).map (fun i=>(i.zero,i.size,i.bytes))=bO (bO .nilIface,1,16):=by kernel_rfl
 cases hq:prog.info? 173 with
 |none=>rw[hq]at h;simp at h
 |some i=>rw[hq]at h;simp at h;exact⟨i,rfl,h.1,h.2.1,h.2.2⟩
def Dl:prog.underlying 150=bO (.slice 173):=(cK 150).trans Tryz.underlying150
def Ok(tv:Zv)(l:Zl)(w:Zy)(e:Ending)(w':Zy):Prop:=
 Nw w w'/\(match nZ l with|some D=>∃v,e= .returned v/\w'.ownsRow w.heap.size 173 1 v D.length (D.map iC)|none=>e=eF tv)
def leftOf(c:Nat)(w:Zy):Nat:=match w.cell? (zq c 0)with
 |some (.string s)=>s.size
 |_=>0
def DV{c:Nat}(h:xx w c #[zs l] t):leftOf c w=l.length:=by
 unfold leftOf;rw[h.cell 0 rfl];exact xe l
def EG{base base' e a:Nat}{v:Zv}{n:Nat}{xs:Ze}(h:w.ownsRow base e a v n xs)(d:base'<=base):w.ownsRow base' e a v n xs:=by
 refine⟨h.1,h.2.imp id ?_⟩;rintro⟨g,b,c,i,f,r⟩;exact⟨g,b,c,i,xz d f,r⟩
def zot(l:Zl)(hl:l.length<=100000)(w:Zy)(bd:1<w.heap.size)(hG:Wh tv w):bE prog 302 #[.string<|st l] w<|Ok tv l w:=by
 have HG:=zl hG;obtain⟨H,hi,X,Y,Z⟩:=Bz;have M:Hid<|nZ l=match jZ l.length l with|some D=>if 1<=D.length/\D.length<=20 then bO D else bN|none=>bN:=rfl;clear hG;go_enter func302.1,Tryz.ntmps302
 go_wp2
 have A0:Hid<|Nw w<|w.alloc<|.cells #[.string<|st l] 277:=xb.alloc _;have B0:Hid<|xx (w.alloc<|.cells #[.string<|st l] 277) w.heap.size #[.string<|st l] 277:=xx.new _ _ _;generalize w.alloc (.cells #[.string<|st l] 277)=w0 at*
 go_loopw [4] (fun v wr=>∃(D:List dM) (r:Zl),D.length+r.length<=l.length/\jZ l.length l=(jZ r.length r).map (D++·)/\wr.ownsRow (w.heap.size+1) 173 1 v D.length (D.map iC)/\xx wr w.heap.size #[.string<|st r] 277/\Nw w wr) (fun _ wr=>leftOf w.heap.size wr)
 case atStart=>exact⟨[],l,by simp,by simp,Vl _ _ _ _,B0.o,A0.o⟩
 case round=>
  obtain⟨D,r,b,C,d,a,m⟩:=hrel;have s:=zl C;obtain⟨a4,y,rfl,ba⟩:=Jh d;have V:=zl d;have HK:=zl a;have o:=zl m;have c0:wr.cell? ⟨w.heap.size,0,bN⟩=bO (.string<|st r):=a.cell 0 rfl;have R:=zl<|HG.o.but m id;have HZ:=zl<|DV a;clear C d a m;cases r with
  |nil=>
   have hn:=xo [];have T:Hid<|jZ l.length l=bO D:=by show _=_;rw[s.o];simp[jZ]
   clear s;by_cases E:1<=D.length
   ·have i1:(1:Int)<=(D.length:Nat):=by omega
    go_wp2
    by_cases hd:D.length<=20
    ·have i:Hid<|nZ l=bO D:=by show _=_;rw[M.o,T.o];simp[E,hd]
     refine(Yb _ (by simp;omega) _).mono ?_;rintro e n ⟨rfl,rfl⟩
     go_wp2
     go_ret
     refine⟨o.o,?_⟩;rw[i.o];exact⟨_,rfl,EG V.o<|by omega⟩
    have i:Hid<|nZ l=bN:=by show _=_;rw[M.o,T.o];simp[hd]
    refine(Xu _ (by simp;omega) _ R.o).mono ?_;rintro e n ⟨rfl,rfl⟩;refine⟨rfl,o.o,?_⟩;rw[i.o]
   have i1:(D.length:Int)<1:=by omega
   have i:Hid<|nZ l=bN:=by show _=_;rw[M.o,T.o];simp[E]
   go_wp2
   refine(Xu _ rfl _ R.o).mono ?_;rintro e n ⟨rfl,rfl⟩;refine⟨rfl,o.o,?_⟩;rw[i.o]
  |cons x r=>
   have hn:¬(st (x::r)).toList=[]:=by rw[xo];simp
   have bc:(st (x::r)).toList.isEmpty=bK:=by rw[xo];rfl
   go_wp2
   refine(zwl (tv:=tv) (x::r) (by omega) HK.o R.o).mono ?_;intro e n G;unfold EN at G;cases hq:kP (x::r)with
   |none=>
    rw[hq]at G;obtain⟨K,rfl⟩:=G;have i:nZ l=bN:=by rw[M.o,s.o,m8 hq];rfl
    refine⟨rfl,?_,?_⟩;exact o.o.fresh (ze _) K;rw[i]
   |some q=>
    obtain⟨c,O⟩:=q;rw[hq]at G;obtain⟨K,rfl,k2⟩:=G;have N2:Hid<|Nw w n:=o.o.fresh (ze _) K;have K2:=zl k2;have O2:=zl (yU V.o K fun q h=>by omega);have U:Hid (jZ l.length l=(jZ O.length O).map ((D++[c])++·)):=by
     show _=_;rw[s.o,Qg hq,Option.map_map]
     congr 1
     funext z;simp
    have F:=H_ hq;have HV:=Bq c;have sz2:=k2.lt;clear K k2 hq s V HK o;obtain⟨J,L,k⟩:∃J L,iC c= .iface J L:=by cases c<;>exact⟨_,_,rfl⟩
    rw[k]at HV⊢;have S:=zl k;clear k
    go_wp2_with (refine wpList_append_lies _ rfl _ _ 150 rfl (w.heap.size+1) 173 H .nilIface 1 16 Dl hi X Y Z rfl (by decide) (.slice a4 D.length y) D.length (D.map iC) rfl ?own ⟨n.heap.size,0,bN⟩ 1 1 [.iface J L] rfl rfl ?nw ?o1 (by decide) ?m1 ?m2 ?m3 (n.heap.size+1) ?m4 ?_)
    case own=>exact O2.o.alloc _
    case m1=>unfold maxLen;simp only[zh]at b;omega
    case m2=>simp only[zh]at b;omega
    case m3=>simp;omega
    case m4=>simp
    case o1=>intro z p;simp at p;rw[p];exact HV
    case nw=>intro j z p;cases j with
     |zero=>simp at p;subst p;simp[go_sem,Addr.add]
     |succ j=>simp at p
    intro g2 t w4 f g B bb;have Q:=(zr _<|n.alloc<|.cells #[.iface J L] 173).grown g (by simp;omega)<|Vs O2.o;have N4:Nw w w4:=(N2.o.trans<|xb.alloc _).dH (Q.mono<|by omega);have K4:xx w4 w.heap.size #[.string<|st O] 277:=(Q.block _<|by omega).trans<|K2.o.alloc<|.cells #[.iface J L] 173;have I:w4.ownsRow (w.heap.size+1) 173 1 (.slice (bO ⟨g2,0,bN⟩) (D++[c]).length t) (D++[c]).length<|(D++[c]).map iC:=by
     rw[Jd,zj];simp only[xq,DN,S.o];exact f
    have W:=zl<|DV K4;clear f g B Q
    go_wp2
    go_roundw
    case rel=>exact⟨D++[c],O,by simp at b F⊢;omega,U.o,by simpa using I,K4,N4⟩
    case measure=>rw[HZ.o,W.o];exact F
end
end
section
variable {es:List aK} {m:Nat} {p:Int×(Zl×Int)} {e:aK}
abbrev KV:=List<|Zl×Zl
def dA:KV->Zl->Zl->KV
 |[],k,v=>[(k,v)]
 |(k',v')::L,k,v=>if k=k' then(k,v)::L else(k',v')::dA L k v
def dO:KV->Zl->KV
 |[],_=>[]
 |(k',v')::L,k=>if k=k' then L else(k',v')::dO L k
def Zh:KV->Zl->Option Zl
 |[],_=>bN
 |(k',v')::L,k=>if k=k' then bO v' else Zh L k
def Eu{a b:Zl}(h:st a=st b):a=b:=by
 have:=congrArg (fun x=>x.data.toList) h;exact this
def BQ(a b:Zl):(st a==st b)=decide (a=b):=by
 rw[beq_toListBytes,xo,xo];by_cases h:a=b<;>simp[h]
def kF(v:Zl):Zv:= .agg #[.string<|st v]
def lJ(es:List aK)(L:KV):Prop:=es.map (fun e=>(e.key,e.val))=L.map fun p=>(zs p.1,kF p.2)
def h_{p:Zl×Zl}{L:KV}(h:lJ (e::es) (p::L)):e.key=zs p.1/\e.val=kF p.2/\lJ es L:=by
 unfold lJ at h⊢;simp only[xq,List.cons.injEq,qg]at h;exact⟨h.1.1,h.1.2,h.2⟩
def SK{p:Zl×Zl}{L:KV}(b:e.key=zs p.1)(c:e.val=kF p.2)(a:lJ es L):lJ (e::es) (p::L):=by
 unfold lJ at a⊢;simp only[xq,b,c,a]
def p4(h:lJ es []):es=[]:=by
 unfold lJ at h;simpa using h
def Rh{p:Zl×Zl}{L:KV}(h:lJ [] (p::L)):False:=by
 unfold lJ at h;simp at h
def JY(k:Zl):∀(L:KV) (es:List aK) (i:Nat),lJ es L->
  (Zh L k=bN/\Instr.findNow .string (zs k) es i=bO bN/\dO L k=L/\∀x born,lJ (es++[{key:=zs k,val:=kF x,born}])<|dA L k x)\/
  ∃j v e,Zh L k=bO v/\Instr.findNow .string (zs k) es i=bO (bO (i+j,kF v))/\es[j]?=bO e/\e.key=zs k/\lJ (es.eraseIdx j) (dO L k)/\∀x,lJ (es.modify j fun e=>{e with key:=zs k,val:=kF x})<|dA L k x
 |[],es,i,h=>by
  cases p4 h;exact .inl ⟨rfl,rfl,rfl,fun x born=>by unfold lJ;rfl⟩
 |p::L,[],i,h=>(Rh h).elim
 |(k',v')::L,e::es,i,h=>by
  obtain⟨a,b,l⟩:=h_ h;by_cases hk:k=k';subst hk;refine .inr ⟨0,v',e,by simp[Zh],?_,rfl,a,by simpa[dO]using l,fun x=>?_⟩;simp[Instr.findNow,Instr.sameNow,a,b,BQ];simp only[List.modify_zero_cons,dA,if_true];exact SK rfl rfl l;have r:Instr.sameNow .string (zs k) e.key=bO bK:=by
   rw[a];simp only[Instr.sameNow,BQ,hk,decide_false]
  have m:Instr.findNow .string (zs k) (e::es) i=Instr.findNow .string (zs k) es (i+1):=by simp only[Instr.findNow,r]
  rcases JY k L es (i+1) l with⟨c,d,f,g⟩|⟨j,v,q,c,d,f,g,n,o⟩;refine .inl ⟨by simpa[Zh,hk]using c,by rw[m];exact d,by simp[dO,hk,f],fun x born=>?_⟩;simp only[dA,hk,if_false,jc];exact SK a b<|g x born;refine .inr ⟨j+1,v,q,by simpa[Zh,hk]using c,by rw[m,d];simp only[zp,qg,and_true];omega,by simpa using f,g,?_,fun x=>?_⟩;simp only[List.eraseIdx_cons_succ,dO,hk,if_false];exact SK a b n;simp only[List.modify_succ_cons,dA,hk,if_false];exact SK a b<|o x
def Qs{k:Zl}:∀{L:KV},Zh L k=bN->∀p∈L,p.1≠k
 |[],_,_,hp=>by cases hp
 |(k',v')::L,h,p,hp=>by
  by_cases hk:k=k';simp[Zh,hk]at h;simp only[Zh,hk,if_false]at h;cases hp with
  |head=>exact fun e=>hk e.symm
  |tail _ hp=>exact Qs h p hp
def p9:∀{es:List aK} {L:KV},lJ es L->∀x∈es,∃p∈L,x.key=zs p.1/\x.val=kF p.2
 |[],_,_,_,hx=>by cases hx
 |e::es,[],h,_,_=>by unfold lJ at h;simp at h
 |e::es,p::L,h,x,hx=>by
  obtain⟨a,b,c⟩:=h_ h;cases hx with
  |head=>exact⟨p,.head _,a,b⟩
  |tail _ hx=>obtain⟨q,f,d⟩:=p9 c x hx;exact⟨q,.tail _ f,d⟩
def Xd(w:Zy)(m:Nat)(L:KV):Prop:=∃es clock,w.heap[m]?=bO (.map es clock)/\lJ es.toList L/\MapKept.Stamped es clock
def Xd.lt{w:Zy}{L:KV}(h:Xd w m L):m<w.heap.size:=by obtain⟨a,c,h,_⟩:=h;exact(za.1 h).1
def Xd.but{S:ZP}{w w':Zy}{L:KV}(h:Xd w m L)(f:xb S w w')(g:¬S m):Xd w' m L:=by
 have:=h.lt;obtain⟨a,c,b,d,e⟩:=h;exact⟨a,c,(f.block m this g).trans b,d,e⟩
def Jv{P:Zp}{w:Zy}{es:Array aK}{c:Nat}(h:w.heap[m]?=bO (.map es c)):(getObj m).run P w= .ok (.map es c) w:=by simp[getObj,Sem.run,h]
def wO{P:Zp}{w:Zy}{es:Array aK}{c:Nat}(h:w.heap[m]?=bO (.map es c))(o:Obj):(setObj m o).run P w= .ok () {w with heap:=w.heap.setIfInBounds m o}:=by simp[setObj,Sem.run,h]
section
variable {P:Program} {w:World} {t kt et:TypeId} {m:Nat} {L:KV}
def QN(hk:P.underlying kt=bO .string)(k:ByteArray)(n:Nat):∀w em,(Instr.checkKey em (n+1) kt<|.string k).run P w= .ok () w:=fun w em=>by simp[Instr.checkKey,xm hk,aY]
def Bf(G:P.underlying t=bO (.map kt et))(hk:P.underlying kt=bO .string)(h:Xd w m L)(k x:Zl):
  ∃w',(Instr.mapUpdate t (.map<|bO m) (zs k)<|kF x).run P w= .ok () w'/\xb (·=m) w w'/\Xd w' m (dA L k x):=by
 obtain⟨f,a,q,E,b⟩:=h;have z:=(za.1 q).1;have F:=Jv (P:=P) q;have D:=QN (P:=P) hk (st k) 9999;have c:∀o,xb (·=m) w {w with heap:=w.heap.setIfInBounds m o}:=fun o=>⟨rfl,rfl,by simp,fun j _ n=>by
  show(w.heap.setIfInBounds m o)[j]?=_;rw[zd<|Ne.symm n]⟩
 have d:∀o,(w.heap.setIfInBounds m o)[m]?=bO o:=fun o=>by rw[zx z]
 rcases JY k L f.toList 0 E with⟨H,s,_,i⟩|⟨j,v,e,_,s,I,i,_,J⟩;have l:(aT kt (zs k) f.toList).run P w= .ok bN w:=by simp[aT,xm hk,aY,s]
 refine⟨{w with heap:=w.heap.setIfInBounds m<|.map (f.push {key:=zs k,val:=kF x,born:=a})<|a+1},?_,c _,_,_,d _,by simpa using i x a,MapKept.stamped_push b fun y r g=>by obtain⟨p,K,B,_⟩:=p9 E y r;rw[B]at g;exact Qs H p K<|Eu<|by injection g⟩;simp[Instr.mapUpdate,xm G,aY,F,D,l,wO (P:=P) q];have l:(aT kt (zs k) f.toList).run P w= .ok (bO (0+j,kF v)) w:=by simp[aT,xm hk,aY,s]
 rw[jy]at l;have n:f[j]?=bO e:=by simpa using I
 have C:∀w,(Instr.keyThatStays ((f[j]?.map (·.key)).getD<|zs k)<|zs k).run P w= .ok (zs k) w:=fun w=>by
  rw[n];simp[Instr.keyThatStays,i,Instr.sameBits,BQ]
 refine⟨{w with heap:=w.heap.setIfInBounds m<|.map (f.modify j fun e=>{e with key:=zs k,val:=kF x}) a},?_,c _,_,_,d _,by simpa using J x,MapKept.stamped_modify b j _ (fun _ _=>rfl) fun y _ r=>by rw[n]at r;cases r;exact i.symm⟩;simp[Instr.mapUpdate,xm G,aY,F,D,l,C,wO (P:=P) q]
def xn5(x:P.underlying t=bO (.map kt et))(hk:P.underlying kt=bO .string)(h:Xd w m L)(ty p:Zt)(k:Zl):
  ∃w',(Builtin.delete_ #[t,p] ty #[.map<|bO m,zs k]).run P w= .ok (.tuple #[]) w'/\xb (·=m) w w'/\Xd w' m (dO L k):=by
 obtain⟨f,b,i,r,a⟩:=h;have n:=(za.1 i).1;have s:=Jv (P:=P) i;have q:=QN (P:=P) hk (st k) 9999;have c:∀o,xb (·=m) w {w with heap:=w.heap.setIfInBounds m o}:=fun o=>⟨rfl,rfl,by simp,fun j _ B=>by
  show(w.heap.setIfInBounds m o)[j]?=_;rw[zd<|Ne.symm B]⟩
 have d:∀o,(w.heap.setIfInBounds m o)[m]?=bO o:=fun o=>by rw[zx n]
 rcases JY k L f.toList 0 r with⟨_,l,y,_⟩|⟨j,v,e,_,l,_,_,z,_⟩;have g:(aT kt (zs k) f.toList).run P w= .ok bN w:=by simp[aT,xm hk,aY,l]
 refine⟨{w with heap:=w.heap.setIfInBounds m<|.map f b},?_,c _,_,_,d _,by rw[y];exact r,a⟩;simp[Builtin.delete_,xm x,aY,s,q,g,wO (P:=P) i];have g:(aT kt (zs k) f.toList).run P w= .ok (bO (0+j,kF v)) w:=by simp[aT,xm hk,aY,l]
 rw[jy]at g;refine⟨{w with heap:=w.heap.setIfInBounds m<|.map (f.eraseIdxIfInBounds j) b},?_,c _,_,_,d _,?_,MapKept.stamped_erase a j⟩;simp[Builtin.delete_,xm x,aY,s,q,g,wO (P:=P) i];have:(f.eraseIdxIfInBounds j).toList=f.toList.eraseIdx j:=by simp
 rw[this];exact z
def Be(n:P.underlying t=bO (.map kt et))(hk:P.underlying kt=bO .string)(q:∀w,(zeroValue et).run P w= .ok (kF []) w)(h:Xd w m L)(k:Zl):
  (Instr.lookup t (.map<|bO m) (zs k) bL).run P w= .ok (.tuple #[kF<|(Zh L k).getD [],.bool (Zh L k).isSome]) w:=by
 obtain⟨f,d,p,o,a⟩:=h;have l:=Jv (P:=P) p;have i:=QN (P:=P) hk (st k) 9999;rcases JY k L f.toList 0 o with⟨b,c,_,_⟩|⟨j,v,e,b,c,_,_,_,_⟩
 have g:(aT kt (zs k) f.toList).run P w= .ok bN w:=by simp[aT,xm hk,aY,c]
 simp[Instr.lookup,xm n,aY,l,i,g,q,b];have g:(aT kt (zs k) f.toList).run P w= .ok (bO (0+j,kF v)) w:=by simp[aT,xm hk,aY,c]
 simp[Instr.lookup,xm n,aY,l,i,g,b]
end
abbrev Ym:=List<|Int×(Zl×Int)
def fF:Ym->Int->(Zl×Int)->Ym
 |[],k,v=>[(k,v)]
 |(k',v')::L,k,v=>if k=k' then(k,v)::L else(k',v')::fF L k v
def V6:Ym->Int->Ym
 |[],_=>[]
 |(k',v')::L,k=>if k=k' then L else(k',v')::V6 L k
def J9:Ym->Int->Option (Zl×Int)
 |[],_=>bN
 |(k',v')::L,k=>if k=k' then bO v' else J9 L k
def fO(v:Zl×Int):Zv:= .agg #[.string<|st v.1,.int .i64 v.2]
def jB(es:List aK)(L:Ym):Prop:=es.map (fun e=>(e.key,e.val))=L.map fun p=>(zi p.1,fO p.2)
def EB{L:Ym}(h:jB (e::es) (p::L)):e.key=zi p.1/\e.val=fO p.2/\jB es L:=by
 unfold jB at h⊢;simp only[xq,List.cons.injEq,qg]at h;exact⟨h.1.1,h.1.2,h.2⟩
def SV{L:Ym}(b:e.key=zi p.1)(c:e.val=fO p.2)(a:jB es L):jB (e::es) (p::L):=by
 unfold jB at a⊢;simp only[xq,b,c,a]
def w_(h:jB es []):es=[]:=by
 unfold jB at h;simpa using h
def QR{L:Ym}(h:jB [] (p::L)):False:=by
 unfold jB at h;simp at h
def RG(k:Int):∀(L:Ym) (es:List aK) (i:Nat),jB es L->
  (J9 L k=bN/\Instr.findNow (.int .i64) (zi k) es i=bO bN/\V6 L k=L/\∀x born,jB (es++[{key:=zi k,val:=fO x,born}])<|fF L k x)\/
  ∃j v e,J9 L k=bO v/\Instr.findNow (.int .i64) (zi k) es i=bO (bO (i+j,fO v))/\es[j]?=bO e/\e.key=zi k/\jB (es.eraseIdx j) (V6 L k)/\∀x,jB (es.modify j fun e=>{e with key:=zi k,val:=fO x})<|fF L k x
 |[],es,i,h=>by
  cases w_ h;exact .inl ⟨rfl,rfl,rfl,fun x born=>by unfold jB;rfl⟩
 |p::L,[],i,h=>(QR h).elim
 |(k',v')::L,e::es,i,h=>by
  obtain⟨a,b,l⟩:=EB h;by_cases hk:k=k';subst hk;refine .inr ⟨0,v',e,by simp[J9],?_,rfl,a,by simpa[V6]using l,fun x=>?_⟩;simp[Instr.findNow,Instr.sameNow,a,b,BQ];simp only[List.modify_zero_cons,fF,if_true];exact SV rfl rfl l;have r:Instr.sameNow (.int .i64) (zi k) e.key=bO bK:=by
   rw[a];simp[Instr.sameNow,hk]
  have m:Instr.findNow (.int .i64) (zi k) (e::es) i=Instr.findNow (.int .i64) (zi k) es (i+1):=by simp only[Instr.findNow,r]
  rcases RG k L es (i+1) l with⟨c,d,f,g⟩|⟨j,v,q,c,d,f,g,n,o⟩;refine .inl ⟨by simpa[J9,hk]using c,by rw[m];exact d,by simp[V6,hk,f],fun x born=>?_⟩;simp only[fF,hk,if_false,jc];exact SV a b<|g x born;refine .inr ⟨j+1,v,q,by simpa[J9,hk]using c,by rw[m,d];simp only[zp,qg,and_true];omega,by simpa using f,g,?_,fun x=>?_⟩;simp only[List.eraseIdx_cons_succ,V6,hk,if_false];exact SV a b n;simp only[List.modify_succ_cons,fF,hk,if_false];exact SV a b<|o x
def Rj{k:Int}:∀{L:Ym},J9 L k=bN->∀p∈L,p.1≠k
 |[],_,_,hp=>by cases hp
 |(k',v')::L,h,p,hp=>by
  by_cases hk:k=k';simp[J9,hk]at h;simp only[J9,hk,if_false]at h;cases hp with
  |head=>exact fun e=>hk e.symm
  |tail _ hp=>exact Rj h p hp
def JZ:∀{es:List aK} {L:Ym},jB es L->∀x∈es,∃p∈L,x.key=zi p.1/\x.val=fO p.2
 |[],_,_,_,hx=>by cases hx
 |e::es,[],h,_,_=>by unfold jB at h;simp at h
 |e::es,p::L,h,x,hx=>by
  obtain⟨a,b,c⟩:=EB h;cases hx with
  |head=>exact⟨p,.head _,a,b⟩
  |tail _ hx=>obtain⟨q,f,d⟩:=JZ c x hx;exact⟨q,.tail _ f,d⟩
def mD(w:Zy)(m:Nat)(L:Ym):Prop:=∃es clock,w.heap[m]?=bO (.map es clock)/\jB es.toList L/\MapKept.Stamped es clock
def mD.lt{w:Zy}{L:Ym}(h:mD w m L):m<w.heap.size:=by obtain⟨a,c,h,_⟩:=h;exact(za.1 h).1
def mD.but{S:ZP}{w w':Zy}{L:Ym}(h:mD w m L)(f:xb S w w')(g:¬S m):mD w' m L:=by
 have:=h.lt;obtain⟨a,c,b,d,e⟩:=h;exact⟨a,c,(f.block m this g).trans b,d,e⟩
section
variable {P:Program} {w:World} {t kt et:TypeId} {m:Nat} {L:Ym}
def JE(hk:P.underlying kt=bO (.int .i64))(k:Int)(n:Nat):∀w em,(Instr.checkKey em (n+1) kt<|zi k).run P w= .ok () w:=fun w em=>by simp[Instr.checkKey,xm hk,aY]
def Eh(G:P.underlying t=bO (.map kt et))(hk:P.underlying kt=bO (.int .i64))(h:mD w m L)(k:Int)(x:Zl×Int):
  ∃w',(Instr.mapUpdate t (.map<|bO m) (zi k)<|fO x).run P w= .ok () w'/\xb (·=m) w w'/\mD w' m (fF L k x):=by
 obtain⟨f,a,q,E,b⟩:=h;have z:=(za.1 q).1;have F:=Jv (P:=P) q;have D:=JE (P:=P) hk k 9999;have c:∀o,xb (·=m) w {w with heap:=w.heap.setIfInBounds m o}:=fun o=>⟨rfl,rfl,by simp,fun j _ n=>by
  show(w.heap.setIfInBounds m o)[j]?=_;rw[zd<|Ne.symm n]⟩
 have d:∀o,(w.heap.setIfInBounds m o)[m]?=bO o:=fun o=>by rw[zx z]
 rcases RG k L f.toList 0 E with⟨H,s,_,i⟩|⟨j,v,e,_,s,I,i,_,J⟩;have l:(aT kt (zi k) f.toList).run P w= .ok bN w:=by simp[aT,xm hk,aY,s]
 refine⟨{w with heap:=w.heap.setIfInBounds m<|.map (f.push {key:=zi k,val:=fO x,born:=a})<|a+1},?_,c _,_,_,d _,by simpa using i x a,MapKept.stamped_push b fun y r g=>by obtain⟨p,K,B,_⟩:=JZ E y r;rw[B]at g;exact Rj H p K<|by injection g⟩;simp[Instr.mapUpdate,xm G,aY,F,D,l,wO (P:=P) q];have l:(aT kt (zi k) f.toList).run P w= .ok (bO (0+j,fO v)) w:=by simp[aT,xm hk,aY,s]
 rw[jy]at l;have n:f[j]?=bO e:=by simpa using I
 have C:∀w,(Instr.keyThatStays ((f[j]?.map (·.key)).getD<|zi k)<|zi k).run P w= .ok (zi k) w:=fun w=>by
  rw[n];simp[Instr.keyThatStays,i,Instr.sameBits,BQ]
 refine⟨{w with heap:=w.heap.setIfInBounds m<|.map (f.modify j fun e=>{e with key:=zi k,val:=fO x}) a},?_,c _,_,_,d _,by simpa using J x,MapKept.stamped_modify b j _ (fun _ _=>rfl) fun y _ r=>by rw[n]at r;cases r;exact i.symm⟩;simp[Instr.mapUpdate,xm G,aY,F,D,l,C,wO (P:=P) q]
def cP(x:P.underlying t=bO (.map kt et))(hk:P.underlying kt=bO (.int .i64))(h:mD w m L)(ty p:Zt)(k:Int):
  ∃w',(Builtin.delete_ #[t,p] ty #[.map<|bO m,zi k]).run P w= .ok (.tuple #[]) w'/\xb (·=m) w w'/\mD w' m (V6 L k):=by
 obtain⟨f,b,i,r,a⟩:=h;have n:=(za.1 i).1;have s:=Jv (P:=P) i;have q:=JE (P:=P) hk k 9999;have c:∀o,xb (·=m) w {w with heap:=w.heap.setIfInBounds m o}:=fun o=>⟨rfl,rfl,by simp,fun j _ B=>by
  show(w.heap.setIfInBounds m o)[j]?=_;rw[zd<|Ne.symm B]⟩
 have d:∀o,(w.heap.setIfInBounds m o)[m]?=bO o:=fun o=>by rw[zx n]
 rcases RG k L f.toList 0 r with⟨_,l,y,_⟩|⟨j,v,e,_,l,_,_,z,_⟩;have g:(aT kt (zi k) f.toList).run P w= .ok bN w:=by simp[aT,xm hk,aY,l]
 refine⟨{w with heap:=w.heap.setIfInBounds m<|.map f b},?_,c _,_,_,d _,by rw[y];exact r,a⟩;simp[Builtin.delete_,xm x,aY,s,q,g,wO (P:=P) i];have g:(aT kt (zi k) f.toList).run P w= .ok (bO (0+j,fO v)) w:=by simp[aT,xm hk,aY,l]
 rw[jy]at g;refine⟨{w with heap:=w.heap.setIfInBounds m<|.map (f.eraseIdxIfInBounds j) b},?_,c _,_,_,d _,?_,MapKept.stamped_erase a j⟩;simp[Builtin.delete_,xm x,aY,s,q,g,wO (P:=P) i];have:(f.eraseIdxIfInBounds j).toList=f.toList.eraseIdx j:=by simp
 rw[this];exact z
def KI(n:P.underlying t=bO (.map kt et))(hk:P.underlying kt=bO (.int .i64))(q:∀w,(zeroValue et).run P w= .ok (fO ([],0)) w)(h:mD w m L)(k:Int):
  (Instr.lookup t (.map<|bO m) (zi k) bK).run P w= .ok (fO<|(J9 L k).getD ([],0)) w:=by
 obtain⟨f,d,p,o,a⟩:=h;have l:=Jv (P:=P) p;have i:=JE (P:=P) hk k 9999;rcases RG k L f.toList 0 o with⟨b,c,_,_⟩|⟨j,v,e,b,c,_,_,_,_⟩
 have g:(aT kt (zi k) f.toList).run P w= .ok bN w:=by simp[aT,xm hk,aY,c]
 simp[Instr.lookup,xm n,aY,l,i,g,q,b];have g:(aT kt (zi k) f.toList).run P w= .ok (bO (0+j,fO v)) w:=by simp[aT,xm hk,aY,c]
 simp[Instr.lookup,xm n,aY,l,i,g,b]
end
end
section
attribute [local go_sem] xe zv
def app1(L:KV):dM->KV
 | .put k v=>dA L k v
 | .del k=>dO L k
def cO(L:KV)(D:List dM):KV:=D.foldl app1 L
def FF(L:KV)(D:List dM)(c:dM):cO L (D++[c])=app1 (cO L D) c:=by simp[cO]
def yO:prog.underlying 143=bO (.map 9 155):=(cK 143).trans Tryz.underlying143
def Ig(x:Zv)(w:Zy):(Instr.typeAssert (.iface 104 x) 173 104 bL).run prog w= .ok (.tuple #[x,.bool bL]) w:=by kernel_rfl
def Fz(x:Zv)(w:Zy):(Instr.typeAssert (.iface 106 x) 173 104 bL).run prog w= .ok (.tuple #[.agg #[.string ⟨#[]⟩,.string ⟨#[]⟩],.bool bK]) w:=by kernel_rfl
def Ih(x:Zv)(w:Zy):(Instr.typeAssert (.iface 106 x) 173 106 bL).run prog w= .ok (.tuple #[x,.bool bL]) w:=by kernel_rfl
def uU(w:Zy)(g:Nat)(D:List dM):Prop:=∀i (h:i<D.length),w.cell? (zq g i)=bO (iC D[i])
def uU.but{S:ZP}{w w':Zy}{g:Nat}{D:List dM}(h:uU w g D)(a:xb S w w')(c:¬S g):uU w' g D:=fun i b=>a.cell c<|h i b
def QY(m g cap:Nat)(L:KV)(D:List dM)(J:D.length<=1000000)(w:Zy)(C:Xd w m L)(f:uU w g D)(y:g≠m):
  bE prog 84 #[.map<|bO m,.slice (bO ⟨g,0,bN⟩) D.length cap] w fun e w'=>e= .returned (.tuple #[])/\xb (·=m) w w'/\Xd w' m (cO L D):=by
 have E:=zl C;have F:=zl f;clear C f;go_enter func84.1,Tryz.ntmps84
 go_wp2
 go_loopw [10] (fun i wr=>∃k:Nat,k<=D.length/\i=zi k/\Xd wr m (cO L<|D.take k)/\xb (·=m) w wr) (fun i _=>(D.length-aJ i).toNat)
 case atStart=>exact⟨0,by omega,rfl,by simpa[cO]using E.o,xb.refl _ _⟩
 case round=>
  obtain⟨k,hk,rfl,o,p⟩:=hrel;by_cases n:k<D.length
  ·have I:(k:Int)<(D.length:Nat):=by omega
   have K:(0:Int)<=(k:Int):=by omega
   have j:=(F.o.but p y) k n;have s:Hid<|cO L (D.take<|k+1)=app1 (cO L<|D.take k) D[k]:=by show _=_;rw[xy n,FF]
   have B:=zl p;obtain⟨c,l⟩:∃c,D[k]=c:=⟨_,rfl⟩;rw[l]at j s;clear l p;generalize cO L (D.take k)=L1 at*;have H:=o.lt;cases c with
   |put ky v=>
    have x:wr.cell? (zq g k)=bO (.iface 104<|.agg #[zs ky,zs v]):=j;obtain⟨q,b,a,d⟩:=Bf (P:=prog) yO underlying9 (o.but (S:=fun _=>False) (xb.alloc<|.cells #[zs ky,zs v] 104) id) ky v;have z:(Instr.mapUpdate 143 (.map<|bO m) (zs ky)<|.agg #[zs v]).run prog (wr.alloc<|.cells #[zs ky,zs v] 104)= .ok () q:=b;have t:=Ig (.agg #[zs ky,zs v]) wr;have r:=zl<|(B.o.trans<|xb.alloc _).trans a;have h:Hid<|Xd q m<|app1 L1<|.put ky v:=d;clear j b a d
    go_wp2
    go_roundw
    case rel=>exact⟨k+1,by omega,by go_num,by rw[s.o];exact h.o,r.o⟩
    case measure=>simp[aJ];omega
   |del ky=>
    have x:wr.cell? (zq g k)=bO (.iface 106<|.agg #[zs ky]):=j;obtain⟨q,b,a,d⟩:=xn5 (P:=prog) yO underlying9 (o.but (S:=fun _=>False) (xb.alloc<|.cells #[zs ky] 106) id) 0 9 ky;have t:=Fz (.agg #[zs ky]) wr;have G:=Ih (.agg #[zs ky]) wr;have r:=zl<|(B.o.trans<|xb.alloc _).trans a;have h:Hid<|Xd q m<|app1 L1<|.del ky:=d;clear j a d
    go_wp2
    go_roundw
    case rel=>exact⟨k+1,by omega,by go_num,by rw[s.o];exact h.o,r.o⟩
    case measure=>simp[aJ];omega
  obtain rfl:k=D.length:=by omega
  have I:¬(D.length:Int)<(D.length:Nat):=by omega
  rw[Yw]at o;have h:=zl o
  go_wp2
  go_end0
  exact⟨rfl,p,h.o⟩
structure Lk where
 m:Zl
 tc:Int
 mark:Zl
 op:Int
 mp:Nat
 ep:Nat
 cnt:Nat
 tag:Zl
 ahead:Zl
 base:Int
 last:Int
 named:Int
 dK:Int
 dD:Bool
 whole:Int
def Lk.cells(k:Lk)(ck tk:Zl):Za:=#[.string<|st k.m,.int .i64 k.tc,.string<|st k.mark,.int .i64 k.op,.map<|bO k.mp,.int .i64 (k.ep:Int),.string<|st ck,.string<|st tk,.int .i64 (k.cnt:Int),.string<|st k.tag,.string<|st k.ahead,.int .i64 k.base,.int .i64 k.last,.int .i64 k.named,.int .i64 k.dK,.bool k.dD,.int .i64 k.whole]
def Xa(w:Zy)(b:Nat)(k:Lk):Prop:=xx w b (k.cells (Xz k.m k.ep)<|Jm k.m k.ep) 147
def JX(b:Nat)(k:Lk)(l:k.m.length=32)(e':Nat)(w:Zy)(c:Xa w b k)(d:dF w):
  bE prog 205 #[zo b,zi e'] w fun e w'=>e= .returned (.tuple #[])/\xb (·=b) w w'/\Xa w' b {k with ep:=e'}:=by
 have i:=zl c;have j:=zl d;have p:w.cell? (zq b 0)=bO (zs k.m):=c.cell 0 rfl;have q:w.cell? (zq b 1)=bO (zi k.tc):=c.cell 1 rfl;have r:w.cell? (zq b 2)=bO (zs k.mark):=c.cell 2 rfl;have s:w.cell? (zq b 3)=bO (zi k.op):=c.cell 3 rfl;clear c d;go_enter func205.1,Tryz.ntmps205
 go_wp2
 refine(EO k.m k.mark k.tc k.op e' l _ j.o).mono ?_;rintro e w1 ⟨rfl,f⟩;have a:Hid<|Xa w1 b k:=xx.below i.o f;have n:w1.cell? (zq b 5)=bO (zi k.ep):=xx.cell a.o 5 rfl;have t:=xx.bT a.o 5;have o:w1.cell? (zq b 6)=bO (zs<|Xz k.m k.ep):=xx.cell a.o 6 rfl;have v:=xx.bT a.o 6;have c7:w1.cell? (zq b 7)=bO (zs<|Jm k.m k.ep):=xx.cell a.o 7 rfl;have x:=xx.bT a.o 7
 go_wp2
 have h:=((xx.set a.o 5<|zi e').set 6<|zs<|Xz k.m e').set 7<|zs<|Jm k.m e';have g:=((((xb.of_below (S:=(·=b)) f).trans<|xb.set w1 (zq b 5)<|zi e').trans<|xb.set _ (zq b 6)<|zs<|Xz k.m e').trans<|xb.set _ (zq b 7)<|zs<|Jm k.m e')
 go_end0
 exact⟨rfl,g,h⟩
end
end P
end Go.Proofs.YtjnbhiamaabbgabGreatDoor
