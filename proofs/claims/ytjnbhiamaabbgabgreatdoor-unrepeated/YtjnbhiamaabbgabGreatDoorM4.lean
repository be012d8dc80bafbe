import Derived.Test.YtjnbhiamaabbgabGreatDoorM3
import Derived.Shelf.SlMaps.Clone
import Derived.RangeFuncNested
import Derived.Shelf.Strings.Repeat
import Derived.Shelf.Strings.OnBuilder
import Derived.Shelf.Strings.BuilderK
set_option linter.all false
set_option maxRecDepth 100000
set_option maxHeartbeats 8000000
namespace Go.Proofs.YtjnbhiamaabbgabGreatDoor
open Bool renaming false->bK,true->bL
open Go renaming Calls->bE,Oper->aD,results->aN,undef->bJ
open Go.Instr renaming findKey->aT
open Go.Result renaming andThen->aY
open Go.RowKit renaming Below->bC,intOf->aJ
open Go.World renaming cell?->aQ
open Option renaming none->bN,some->bO
open _root_.List renaming replicate->aM
namespace P
open A.Tryq Go.RowKit
section
open Go.Maps Go.Sort Go.Shelf Go.MapKept
attribute [local go_sem] xe zv
def Xd.owns{w:Zy}{m:Nat}{L:KV}(h:Xd w m L)(hk:∀p∈L,p.1.length<=maxLen)(G:L.length<=maxLen):
  ∃D:DataW Nat,w.ownsMap prog 9 xZ m L.length D/\Maps.size D=L.length/\(strKeys D).Perm (L.map (·.1)):=by
 obtain⟨c,b,z,j,B⟩:=h;have f:c.size=L.length:=by
  have:=congrArg List.length j;simpa using this
 have i:∀x∈c.toList,∃p∈L,x.key=zs p.1/\WideElems.rd prog 9 xZ x=bO (.string p.1,.nil):=fun x n=>by
  obtain⟨p,o,g,_⟩:=p9 j x n;refine⟨p,o,g,?_⟩;have C:=hk p o;have k:(ByteArray.mk p.1.toArray).size<=maxLen:=by simpa[ByteArray.size]using C
  simp[WideElems.rd,g,keyOf,mapKey,underlying9,k,xZ,st]
 refine⟨_,⟨c,b,z,⟨by omega,B,fun x n=>by obtain⟨p,_,_,e⟩:=i x n;exact⟨_,e⟩⟩,by omega,rfl⟩,?_,?_⟩;simp only[Maps.size_eq];rw[(IW _).length_eq];simpa using f;simp only[strKeys];refine((IW _).map _).trans ?_;rw[uP];have:∀(l:List MapEntry) (L:KV),lJ l L->(∀x∈l,x∈c.toList)->l.map ((fun p=>Go.strOf p.1)∘WideElems.rg prog 9 xZ)=L.map (·.1):=by
  intro l;induction l with
  |nil=>intro L d _;cases L with
   |nil=>rfl
   |cons p L=>exact(Rh d).elim
  |cons x l ih=>
   intro L d a;cases L with
   |nil=>unfold lJ at d;simp at d
   |cons p L=>
    obtain⟨r,F,s⟩:=h_ d;obtain⟨q,_,t,v⟩:=i x (a x<|by simp);have:=Eu<|Value.string.inj<|r.symm.trans t;rw[xq,xq];refine congr (congrArg _ ?_) ?_;rw[Function.comp_apply,WideElems.rg_of v];exact this.symm;exact ih L s fun y E=>a y<|by simp[E]
 rw[this c.toList L j fun _ h=>h]
def wK(m:Nat):AnyZ.SortsIn prog fT Fence.wide m:=
 ⟨fun blk d a f W e b c=>callsIn_wide.2<|AnyM.slices_Sort_string lF blk d a f W e b c,
 fun p a W=>callsIn_wide.2<|AnyM.slices_Sort_string_none lF p a W⟩
abbrev lT:Zl->Zl->Bool:=fun x y=>decide (x<=y)
def Vp(L:KV):List Zl:=(L.map (·.1)).mergeSort lT
def Oz(m:Nat)(w:Zy):bE prog 86 #[.map<|bO m] w fun e w'=>e= .returned (.func (.func 144) #[] #[zo w.heap.size])/\w'=w.alloc (.cells #[.map<|bO m] 143):=
 (callsIn_wide (n:=5)).1 (AnyZ.keys_in kX Fence.wide 5 trivial rfl (bO m) w)
def Mr(m b:Nat)(L:KV)(w:Zy)(h:Xd w m L)(F:w.cell? (zq b 0)=bO (.map<|bO m))(z:b<w.heap.size)(hk:∀p∈L,p.1.length<=1000000)(I:L.length<=1000000):
  bE prog 85 #[.func (.func 144) #[] #[zo b]] w fun e w'=>∃v,e= .returned v/\w'.ownsRow w.heap.size 9 1 v (Vp L).length ((Vp L).map encStr)/\bC w.heap.size w w':=by
 obtain⟨j,l,q,g⟩:=h.owns (fun p H=>xz (hk p H)<|by simp only[maxLen];omega) (by simp only[maxLen];omega);have k:Maps.size j<=maxLen:=by rw[q];simp only[maxLen];omega
 have d:Maps.size j*16<=140737488355328:=by rw[q];omega
 have n:SeqGives Fence.wide 2 prog 144 #[zo b] encStr (fun i=>i.Perm<|strKeys j) (Maps.size j) w:=
  AnyZ.keys_gives {kX with} _ _ trivial rfl (by omega) b m _ j _ z F l
 have B:=AnyZ.sorted_in nD _ 5 trivial trivial trivial trivial rfl (by omega) (wK _) (enters_of func143.1 (by kernel_rfl) rfl) 144 _ trivial (enters_of func144.1 (by kernel_rfl) rfl) _ _ k d _ n;change CallsIn _ _ prog 85 _ _ _ at B;refine((callsIn_wide).1 B).mono ?_;rintro e w' ⟨v,i,rfl,E,f,C,z⟩;have D:∀a b c:Zl,lT a b=bL->lT b c=bL->lT a c=bL:=fun a b c s t=>by simp only[lT,X9]at*;exact List.le_trans s t
 have r:∀a b:Zl,(lT a b||lT b a)=bL:=fun a b=>by simp only[lT,Yk,X9];exact List.le_total a b
 have o:i.mergeSort (fun x y=>decide (x<=y))=Vp L:=by
  refine List.Perm.eq_of_pairwise (le:=fun a b=>lT a b=bL) (fun a b _ _ s t=>?_) (PR D r i) (PR D r _)<|((Xw i _).trans<|E.trans g).trans (Xw _ _).symm;simp only[lT,X9]at s t;exact List.le_antisymm s t
 have G:i.length=(Vp L).length:=by rw[<-o];exact(Xw i _).length_eq.symm
 rw[o,G]at f;exact⟨v,rfl,f,z⟩
end
section
attribute [local go_sem] xe zv
def FG(m:Nat)(w:Zy):bE prog 84 #[.map<|bO m,.slice bN 0 0] w fun e w'=>e= .returned (.tuple #[])/\w'=w:=by
 go_enter func84.1,Tryz.ntmps84
 go_wp2
 go_loopw [10] (fun i wr=>i=zi 0/\wr=w) (fun i _=>0)
 case atStart=>exact⟨rfl,rfl⟩
 case round=>
  obtain⟨rfl,rfl⟩:=hrel
  go_wp2
  go_end0
  exact⟨rfl,rfl⟩
def ZQ{w:Zy}{v:Zv}{D:List dM}(h:w.ownsRow 0 173 1 v D.length<|D.map iC):(v= .slice bN 0 0/\D=[])\/∃g cap,v= .slice (bO ⟨g,0,bN⟩) D.length cap/\uU w g D/\g<w.heap.size:=by
 rcases h.2 with⟨b,e⟩|⟨g,cap,a,j,l,c,m,k,n,f⟩;exact .inl ⟨b,xa e⟩;refine .inr ⟨g,cap,j,fun i d=>?_,(za.1 c).1⟩;have:a.toList[i]?=bO (iC D[i]):=by
  have b:(a.toList.take<|D.length*1)[i]?=bO (iC D[i]):=by
   rw[f];simp[d]
  rw[Jf]at b;simpa[d]using b
 simp only[aQ,c];simpa using this
def Qu(m:Nat)(L:KV)(v:Zv)(D:List dM)(j:D.length<=1000000)(w:Zy)(i:Xd w m L)(a:w.ownsRow 0 173 1 v D.length<|D.map iC):bE prog 84 #[.map<|bO m,v] w fun e w'=>e= .returned (.tuple #[])/\xb (·=m) w w'/\Xd w' m (cO L D):=by
 rcases ZQ a with⟨rfl,rfl⟩|⟨g,d,rfl,k,n⟩;exact(FG m w).mono fun e w' ⟨h,b⟩=>⟨h,by rw[b];exact xb.refl _ _,by rw[b];exact i⟩;refine QY m g d L D j w i k ?_;obtain⟨f,h,_⟩:=AC a rfl;obtain⟨l,c,b⟩:=i.blk;exact(show xx w g f 173 from h).cZ b
def Jo.now(s:Jo):KV:=cO s.L s.P
end
section
open Go.Shelf
attribute [local go_sem] Oper.semAt_some
def mO(D:List dM)(j:Nat):List<|Int×dM:=((List.range' j<|D.length-j).reverse).map fun(i:Nat)=>((i:Int),D[i]?.getD (.del []))
def B9(D:List dM)(j:Nat)(h:j<D.length):mO D j=mO D (j+1)++[((j:Int),D[j]?.getD (.del []))]:=by
 unfold mO;rw[show D.length-j=(D.length-(j+1))+1 by omega,IG,List.reverse_cons,Jd];rfl
def Mn(D:List dM)(j:Nat):(mO D j).length=D.length-j:=by simp[mO]
def Mp(D:List dM):mO D D.length=[]:=by simp[mO]
def xqg(n:Nat)(R:1<=n)(l Bs o b cap:Nat)(D:List dM)(O:D.length<=1000000)(H:b<o)(p:Bs<o)(J w:List (Int×dM)->Zy->Prop)
  (G:∀pre (x:Int×dM) W,J pre W->pre.length<D.length->YieldAt Fence.wide (n-1) prog l #[.int .i64 x.1,iC x.2] W fun e W'=>
   (e= .returned (.bool bL)/\J (pre++[x]) W'/\bC o W W')\/(e= .returned (.bool bK)/\w (pre++[x]) W'))
  (W:Zy)(q:W.cell? ⟨Bs,0,bN⟩=bO (.slice (bO ⟨b,0,bN⟩) D.length cap))(I:∀j,j<D.length->W.cell? ⟨b,j,bN⟩=bO (iC<|D[j]?.getD (.del [])))(E:J [] W):
  CallsIn Fence.wide n prog 199 #[.func (.yield l) #[] #[],.pointer<|bO ⟨Bs,0,bN⟩] W fun e W'=>(∃v,e= .returned v)/\
   ((∃ys,ys=mO D 0/\J ys W')\/(∃pre,(∃k,k<=D.length/\pre=mO D k)/\w pre W')):=by
 refine callsIn_of_wp func199.1 rfl trivial ?_ rfl;simp only[Tryz.ntmps199,jg,zh,jn,Nat.reduceAdd,Nat.reduceSub,qw,qx,Z7,Zi,jk,jc]
 gi_wp2
 gi_loopw [3] (fun i wr=>∃j:Nat,j<=D.length/\i= .int .i64 ((j:Int)-1)/\J (mO D j) wr/\bC o W wr)
  (fun i _=>(aJ i+1).toNat)
 case atStart=>exact⟨D.length,ze _,rfl,by rw[Mp];exact E,zr _ _⟩
 case round=>
  obtain⟨j,Q,rfl,f,a⟩:=hrel;cases j with
  |zero=>
   have t:((0:Nat):Int)-1= -1:=by omega
   rw[t]
   gi_wp2
   go_end0
   exact⟨⟨_,rfl⟩,.inl ⟨_,rfl,f⟩⟩
  |succ j=>
   have t:((j+1:Nat):Int)-1=(j:Int):=by omega
   rw[t];have h:j<D.length:=by omega
   have B:=(a.cell H).trans<|I j h;have z:=(a.cell p).trans q;have T:(j:Int)<(D.length:Nat):=by omega
   have S:(0:Int)<=(j:Int):=by omega
   obtain⟨M,C,m,y,K,F⟩:=G _ ((j:Int),D[j]?.getD (.del [])) wr f (by rw[Mn];omega);dsimp only at K;have d:=zl<|B9 D j h;generalize D[j]?.getD (.del [])=c at*
   gi_wp2
   refine F.mono ?_;rintro e L (⟨rfl,r,s⟩|⟨rfl,g⟩)
   ·gi_wp2
    go_roundw
    case rel=>exact⟨j,by omega,rfl,by rw[d.o];exact r,a.trans s⟩
    case measure=>simp[aJ]
   gi_wp2
   refine jz (results_none rfl _ _ _) rfl ?_;exact⟨⟨_,rfl⟩,.inr ⟨_,⟨j,by omega,d.o.symm⟩,g⟩⟩
def zzr(n:Nat)(l Bs:Nat)(J:List (Int×dM)->Zy->Prop)(W:Zy)(c:W.cell? (zq Bs 0)=bO (.slice bN 0 0))(b:J [] W):
  CallsIn Fence.wide n prog 199 #[.func (.yield l) #[] #[],zo Bs] W fun e W'=>(∃v,e= .returned v)/\J [] W':=by
 refine callsIn_of_wp func199.1 rfl trivial ?_ rfl;simp only[Tryz.ntmps199,jg,zh,jn,Nat.reduceAdd,Nat.reduceSub,qw,qx,Z7,Zi,jk,jc]
 gi_wp2
 gi_loopw [3] (fun i wr=>i=zi (-1)/\J [] wr) (fun _ _=>0)
 case atStart=>exact⟨rfl,b⟩
 case round=>
  obtain⟨rfl,a⟩:=hrel
  gi_wp2
  go_end0
  exact⟨⟨_,rfl⟩,a⟩
def zvp(a:Option Addr)(len cap:Nat)(w:Zy):bE prog 130 #[.slice a len cap] w fun e w'=>e= .returned (.func (.func 199) #[] #[zo w.heap.size])/\w'=w.alloc (.cells #[.slice a len cap] 150):=by
 go_enter func130.1,Tryz.ntmps130
 go_wp2
 go_ret
 exact⟨rfl,rfl⟩
def C0(n:Nat)(z:1<=n)(Bs f:Nat)(sv:Zv)(D:List dM)(r:D.length<=1000000)(w:Zy)(b:Bs<f)(i:f<=w.heap.size)(y:w.cell? (zq Bs 0)=bO sv)(s:(sv= .slice bN 0 0/\D=[])\/∃g cap,sv= .slice (bO ⟨g,0,bN⟩) D.length cap/\uU w g D/\g<f):
  SeqStopsK Fence.wide n prog 199 #[zo Bs] (fun x:Int×dM=>#[zi x.1,iC x.2]) (bC f) (fun ys=>ys=mO D 0) (fun pre=>∃k,k<=D.length/\pre=mO D k) D.length w:=fun l J p W t _ _ v m=>by
 have c:=t.mono i;have d:=(c.cell b).trans y;rcases s with⟨rfl,rfl⟩|⟨g,cap,rfl,B,o⟩
 exact(zzr n l Bs J W d m).mono fun e q ⟨h,a⟩=>⟨h,.inl ⟨_,rfl,a⟩⟩;refine(xqg n z l Bs f g cap D r o b J p v W d (fun j a=>?_) m).mono ?_;have:=(c.cell o).trans<|B j a;rw[this];simp[a];rintro e q ⟨h,⟨ys,rfl,a⟩|⟨pre,hk,a⟩⟩;exact⟨h,.inl ⟨_,rfl,a⟩⟩;exact⟨h,.inr ⟨_,hk,a⟩⟩
end
section
variable {L:KV} {x:Zl} {D:List dM}
def Nd(L:KV):Prop:=(L.map (·.1)).Nodup
def H4{k v:Zl}:x∈(dA L k v).map (·.1)↔x=k\/x∈L.map (·.1):=by
 induction L with
 |nil=>simp[dA]
 |cons p L ih=>
  obtain⟨a,b⟩:=p;by_cases hk:k=a;subst hk;simp[dA];simp only[dA,hk,if_false,xq,xf,ih];constructor;rintro(h|h|h);exact .inr<|.inl h;exact .inl h;exact .inr<|.inr h;rintro(h|h|h);exact .inr<|.inl h;exact .inl h;exact .inr<|.inr h
def Ek{k:Zl}:x∈(dO L k).map (·.1)->x∈L.map (·.1):=by
 induction L with
 |nil=>exact id
 |cons p L ih=>
  obtain⟨a,b⟩:=p;by_cases hk:k=a;simp only[dO,hk,if_true];exact fun h=>xj _ h;simp only[dO,hk,if_false,xq,xf];rintro(h|h);exact .inl h;exact .inr<|ih h
def Nd.dA(h:Nd L)(k v:Zl):Nd<|dA L k v:=by
 induction L with
 |nil=>simp[Nd,P.dA]
 |cons p L ih=>
  obtain⟨c,d⟩:=p;have a:=Zr.1 h;by_cases hk:k=c;subst hk;simp only[Nd,P.dA,if_true,xq];exact Zr.2 a;simp only[Nd,P.dA,hk,if_false,xq];refine Zr.2 ⟨fun b=>?_,ih a.2⟩;rcases H4.1 b with e|e
  exact hk e.symm;exact a.1 e
def Nd.dO(h:Nd L)(k:Zl):Nd<|dO L k:=by
 induction L with
 |nil=>exact h
 |cons p L ih=>
  obtain⟨c,d⟩:=p;have a:=Zr.1 h;by_cases hk:k=c;simp only[Nd,P.dO,hk,if_true];exact a.2;simp only[Nd,P.dO,hk,if_false,xq];exact Zr.2 ⟨fun b=>a.1<|Ek b,ih a.2⟩
def Nd.app1(h:Nd L)(c:dM):Nd<|app1 L c:=by
 cases c with
 |put k v=>exact h.dA k v
 |del k=>exact h.dO k
def Nd.cO(h:Nd L)(D:List dM):Nd<|cO L D:=by
 induction D generalizing L with
 |nil=>exact h
 |cons c D ih=>exact ih<|h.app1 c
def Xd.nd{w:Zy}{m:Nat}(h:Xd w m L):Nd L:=by
 obtain⟨b,c,_,d,f⟩:=h;have e:b.toList.map (·.key)=L.map fun p=>zs p.1:=by
  have:=congrArg (List.map Prod.fst) d;simpa[uP,PS]using this
 have a:=f.2.2;rw[e]at a;have:(L.map fun p=>zs p.1)=(L.map (·.1)).map fun k=>zs k:=by simp
 rw[this]at a;unfold List.Nodup at a;rw[List.pairwise_map]at a;exact a.imp fun h e=>h<|by rw[e]
def Qq(k v x:Zl):Zh (dA L k v) x=if x=k then bO v else Zh L x:=by
 induction L with
 |nil=>by_cases h:x=k<;>simp[dA,Zh,h]
 |cons p L ih=>
  obtain⟨a,b⟩:=p;by_cases hk:k=a;subst hk;by_cases h:x=k<;>simp[dA,Zh,h]
  simp only[dA,hk,if_false,Zh,ih];by_cases h:x=a;subst h;simp[fun e=>hk<|Eq.symm e,Ne.symm hk];simp[h]
def QC(h:x∉L.map (·.1)):Zh L x=bN:=by
 induction L with
 |nil=>rfl
 |cons p L ih=>
  obtain⟨a,b⟩:=p;simp only[xq,xf,not_or]at h;simp[Zh,h.1,ih h.2]
def Qp(c:Nd L)(k x:Zl):Zh (dO L k) x=if x=k then bN else Zh L x:=by
 induction L with
 |nil=>by_cases h:x=k<;>simp[dO,Zh]
 |cons p L ih=>
  obtain⟨b,d⟩:=p;have a:=Zr.1 c;by_cases hk:k=b;subst hk;by_cases h:x=k;subst h;simp[dO,QC a.1];simp[dO,Zh,h];simp only[dO,hk,if_false,Zh,ih a.2];by_cases h:x=b;subst h;simp[Ne.symm hk];simp[h]
def nU(c:dM)(x:Zl):Option<|Option Zl:=match c with
 | .put k v=>if k=x then bO (bO v)else bN
 | .del k=>if k=x then bO bN else bN
def QL(a:Nd L)(c:dM)(x:Zl):Zh (app1 L c) x=(nU c x).getD (Zh L x):=by
 cases c with
 |put k v=>
  show Zh (dA L k v) x=_;rw[Qq];by_cases h:k=x;subst h;simp[nU];simp[nU,h,Ne.symm h]
 |del k=>
  show Zh (dO L k) x=_;rw[Qp a];by_cases h:k=x;subst h;simp[nU];simp[nU,h,Ne.symm h]
def Lc(a:Nd L)(h:∀c∈D,nU c x=bN):Zh (cO L D) x=Zh L x:=by
 induction D generalizing L with
 |nil=>rfl
 |cons c D ih=>
  show Zh (cO (app1 L c) D) x=_;rw[ih (a.app1 c) fun y b=>h y<|xj _ b,QL a,h c<|jo ..];rfl
def Av(D:List dM)(j:Nat)(h:j<=D.length):(mO D j).map (·.2)=(D.drop j).reverse:=by
 unfold mO;rw[uP,List.map_reverse]
 congr 1
 apply List.ext_getElem;simp;intro i a b;simp at a b⊢;have:j+i<D.length:=by omega
 simp[Yh this]
def SU(d:Nd L){k:Nat}(hk:k<=D.length){q:List<|Int×dM}{y:Int×dM}{o:Option Zl}(h:mO D k=q++[y])(i:∀z∈q,nU z.2 x=bN)(hy:nU y.2 x=bO o):Zh (cO L D) x=o:=by
 have a:=Av D k hk;rw[h,Jd,xq,DN]at a;have e:D.drop k=y.2::(q.map (·.2)).reverse:=by
  have:=congrArg List.reverse a;simpa using this.symm
 have f:D=D.take k++(y.2::(q.map (·.2)).reverse):=by rw[<-e,PW]
 have g:cO L D=cO (app1 (cO L<|D.take k) y.2) (q.map (·.2)).reverse:=by
  conv=>lhs;rw[f]
  simp[cO,IJ]
 rw[g,Lc<|(d.cO _).app1 _,QL<|d.cO _,hy];rfl;intro c b;rw[List.mem_reverse,qp]at b;obtain⟨z,j,rfl⟩:=b;exact i z j
def FA(d:Nd L)(e:∀z∈mO D 0,nU z.2 x=bN):Zh (cO L D) x=Zh L x:=by
 refine Lc d fun c b=>?_;have a:=Av D 0<|Vj _;have:c∈(mO D 0).map (·.2):=by rw[a];simpa using b
 obtain⟨z,f,rfl⟩:=qp.1 this;exact e z f
end
section
open Go.Shelf
attribute [local go_sem] xe zv
attribute [local go_sem] Oper.semAt_some
def xx.kept{W b:Zy}{a:Option Nat}{r:Nat}{cs:Za}{t:Zt}(h:xx W r cs t)(c:W.grownBy b a)(d:∀r,a=bO r->∃o:Obj,W.heap[r]?=bO o/\o.isCells=bK):xx b r cs t:=
 (grownBy_keeps_cells c d h rfl).trans h
def VS(w:Zy):(zeroValue 155).run prog w= .ok (kF []) w:=by kernel_rfl
structure xws(w:Zy)(key:Zl)(pre:List<|Int×dM)(W:Zy):Prop where
 k:xx W w.heap.size #[zs key] 9
 v:xx W (w.heap.size+1) #[.string ⟨#[]⟩] 9
 b:xx W (w.heap.size+1+1) #[.bool bK] 4
 below:bC w.heap.size w W
 sz:w.heap.size+1+1+1+1<=W.heap.size
 no:∀z∈pre,nU z.2 key=bN
structure xwt(w:Zy)(key:Zl)(c:Code)(pre:List<|Int×dM)(W:Zy):Prop where
 ret:c= .ret
 hit:∃q y o,pre=q++[y]/\(∀z∈q,nU z.2 key=bN)/\nU y.2 key=bO o/\xx W (w.heap.size+1) #[zs<|o.getD []] 9/\xx W (w.heap.size+1+1) #[.bool o.isSome] 4
 below:bC w.heap.size w W
def xmr(s:Jo)(key:List UInt8)(w:World)(h:xE w s)(hP:s.P.length<=20):bE prog 74 #[.pointer<|bO ⟨s.S,0,bN⟩,.string<|st key] w fun e w'=>e= .returned (.tuple #[.string<|st<|(Zh s.now key).getD [],.bool (Zh s.now key).isSome])/\Nw w w':=by
 refine(callsIn_wide (n:=4)).1 ?_;obtain⟨a,cap,hpv,hcap⟩:=Jh h.pend;have HA:=zl h;have HPV:=zl hpv;have c1:w.cell? ⟨s.S,1,bN⟩=bO (.slice a s.P.length cap):=by rw[<-hpv];exact h.blk.cell 1 rfl
 have hSl:=h.blk.lt;have c1':(((w.alloc<|.cells #[.string<|st key] 9).alloc<|.cells #[.string ⟨#[]⟩] 9).alloc<|.cells #[.bool bK] 4).cell? ⟨s.S,1,bN⟩=bO (.slice a s.P.length cap):=(xb.alloc (S:=fun _=>False) _).cell id<|(xb.alloc (S:=fun _=>False) _).cell id<|(xb.alloc (S:=fun _=>False) _).cell id c1;clear h hpv c1;have hfB:Fence.wide.fn 130:=trivial;refine callsIn_of_wp_marks func74.1 rfl trivial ?_ rfl;simp only[Tryz.ntmps74,jg,zh,jn,Nat.reduceAdd,Nat.reduceSub,qw,qx,Z7,Zi,jk,jc]
 gi_wp2_with (gi_at_call 130;refine(callsIn_wide.2<|zvp _ _ _ _).mono ?_;rintro e w' ⟨rfl,rfl⟩)
 obtain⟨W0,hW0⟩:∃W0,(((w.alloc<|.cells #[.string<|st key] 9).alloc<|.cells #[.string ⟨#[]⟩] 9).alloc<|.cells #[.bool bK] 4).alloc (.cells #[.slice a s.P.length cap] 150)=W0:=⟨_,rfl⟩;rw[hW0];have B0:bC w.heap.size w W0:=by
  rw[<-hW0];exact((((zr _ w).alloc (ze _) _).alloc (by simp) _).alloc (by simp;omega) _).alloc (by simp;omega) _
 have S0:W0.heap.size=w.heap.size+1+1+1+1:=by rw[<-hW0];simp
 have K0:xx W0 w.heap.size #[.string<|st key] 9:=by
  rw[<-hW0];exact(((xx.new w #[.string<|st key] 9).alloc _).alloc _).alloc _
 have V0:xx W0 (w.heap.size+1) #[.string ⟨#[]⟩] 9:=by
  rw[<-hW0];have:=xx.new (w.alloc<|.cells #[.string<|st key] 9) #[.string ⟨#[]⟩] 9;simp only[xh]at this;exact(this.alloc _).alloc _
 have L0:xx W0 (w.heap.size+1+1) #[.bool bK] 4:=by
  rw[<-hW0];have:=xx.new ((w.alloc<|.cells #[.string<|st key] 9).alloc<|.cells #[.string ⟨#[]⟩] 9) #[.bool bK] 4;simp only[xh]at this;exact this.alloc _
 have X0:xx W0 (w.heap.size+1+1+1) #[.slice a s.P.length cap] 150:=by
  rw[<-hW0];have:=xx.new (((w.alloc<|.cells #[.string<|st key] 9).alloc<|.cells #[.string ⟨#[]⟩] 9).alloc<|.cells #[.bool bK] 4) #[.slice a s.P.length cap] 150;simp only[xh]at this;exact this
 have HW0:=zl<|HA.o.but (S:=fun _=>False) (xb.of_below B0) fun _ _=>id;have hrows:=ZQ HW0.o.pend;rw[HPV.o]at hrows;clear hW0 c1';refine wpIn_rangeFunc_ownF rfl (by omega) (gf:=199) (lb:=#[.pointer<|bO ⟨w.heap.size+1+1+1,0,bN⟩]) rfl trivial (enters_of func199.1 (by kernel_rfl) rfl)
  (C0 3 (by omega) (w.heap.size+1+1+1) W0.heap.size (.slice a s.P.length cap) s.P (by omega) W0 (by omega) (ze _) (X0.cell 0 rfl) hrows) belowK_t (belowK_b<|ze _) (zr _ _) (fun _=>rfl)
  (xws w key) (xwt w key)
  (fun pre A B row hs hg hr=>⟨hs.k.kept hg fun r e=>(hr r e).2,hs.v.kept hg fun r e=>(hr r e).2,hs.b.kept hg fun r e=>(hr r e).2,hs.below.grown hg hs.below.size fun k e=>by have:=(hr k e).1;omega,xz hs.sz hg.size,hs.no⟩)
  (fun c pre A B row hs hg hr=>⟨hs.ret,by
   obtain⟨q,y,o,h1,h2,h3,h4,h5⟩:=hs.hit;exact⟨q,y,o,h1,h2,h3,h4.kept hg fun r e=>(hr r e).2,h5.kept hg fun r e=>(hr r e).2⟩,hs.below.grown hg hs.below.size fun k e=>by have:=(hr k e).1;omega⟩)
  ⟨K0,V0,L0,B0,by omega,fun z hz=>by cases hz⟩
  (fun x=>{tmps:=#[.pointer<|bO ⟨s.S,0,bN⟩,.string<|st key,bJ,.pointer<|bO ⟨w.heap.size,0,bN⟩,.pointer<|bO ⟨w.heap.size+1,0,bN⟩,.pointer<|bO ⟨w.heap.size+1+1,0,bN⟩,bJ,iC x.2,bJ,bJ,bJ,bJ,
   .pointer (bO ⟨s.S,0,bN⟩),.pointer<|bO ⟨s.S,0,bN⟩,.pointer<|bO ⟨s.S,1,bN⟩,.slice a s.P.length cap,.func (.func 199) #[] #[.pointer<|bO ⟨w.heap.size+1+1+1,0,bN⟩],.int .i64 x.1,iC x.2,
   bJ,bJ,bJ,bJ,bJ,bJ,bJ,bJ,bJ,bJ,bJ,bJ,bJ,bJ,bJ,bJ,bJ,bJ,bJ,bJ,bJ,bJ,bJ,bJ,bJ,bJ,bJ,bJ,bJ],defers:=[]}) ?assign ?body ?done ?stop
 case assign=>
  intro l x W K hK
  gi_wp2
  exact hK
 case body=>
  rintro l pre ⟨ix,c⟩ W ⟨hk,hv,hb,hbel,hsz,hno⟩ _;have HK:=zl hk;have HV:=zl hv;have HB:=zl hb;have HE:=zl hbel;have HN:=zl hno;have hlt:w.heap.size+1+1<W.heap.size:=by omega
  clear hk hv hb hbel hno K0 V0 L0 X0 B0 hrows;cases c with
  |put ky vl=>
   have h86:=Ig (.agg #[.string<|st ky,.string<|st vl]) W;simp only[iC];by_cases hm:ky=key
   ·subst hm
    have A1:=HK.o.alloc<|.cells #[.string<|st ky,.string<|st vl] 104;have A2:=HV.o.alloc<|.cells #[.string<|st ky,.string<|st vl] 104;have A3:=HB.o.alloc<|.cells #[.string<|st ky,.string<|st vl] 104;have ck:=A1.cell 0 rfl;have cv:=A2.cell 0 rfl;have fv:=A2.bT 0;have cb:=A3.cell 0 rfl;have fb:=A3.bT 0;have cn0:(W.alloc<|.cells #[.string<|st ky,.string<|st vl] 104).cell? ⟨W.heap.size,0,bN⟩=bO (.string<|st ky):=(xx.new W #[.string<|st ky,.string<|st vl] 104).cell 0 rfl;have cn1:(W.alloc<|.cells #[.string<|st ky,.string<|st vl] 104).cell? ⟨W.heap.size,1,bN⟩=bO (.string<|st vl):=(xx.new W #[.string<|st ky,.string<|st vl] 104).cell 1 rfl;clear A1 A2 A3
    gi_wp2
    refine⟨?_,rfl,⟨pre,(ix,.put ky vl),bO vl,rfl,HN.o,by simp[nU],?_,?_⟩,?_⟩
    ·exact((KeepsOthers.alloc _ _).trans<|KeepsOthers.setCell _ _ _).trans<|KeepsOthers.setCell _ _ _
    ·exact((HV.o.alloc _).set 0 _).other (by simp) _
    ·exact((HB.o.alloc _).other (by simp) _).set 0 _
    ·exact HE.o.trans<|(((zr _ W).alloc (by omega) _).setCell (p:=⟨w.heap.size+1,0,bN⟩) (by simp) _).setCell (p:=⟨w.heap.size+1+1,0,bN⟩) (by simp;omega) _
   ·have hmb:((st ky).toList==(st key).toList)=bK:=by rw[xo,xo,Xy];exact hm
    have A1:=HK.o.alloc<|.cells #[.string<|st ky,.string<|st vl] 104;have A2:=HV.o.alloc<|.cells #[.string<|st ky,.string<|st vl] 104;have A3:=HB.o.alloc<|.cells #[.string<|st ky,.string<|st vl] 104;have ck:=A1.cell 0 rfl;have cv:=A2.cell 0 rfl;have fv:=A2.bT 0;have cb:=A3.cell 0 rfl;have fb:=A3.bT 0;have cn0:(W.alloc<|.cells #[.string<|st ky,.string<|st vl] 104).cell? ⟨W.heap.size,0,bN⟩=bO (.string<|st ky):=(xx.new W #[.string<|st ky,.string<|st vl] 104).cell 0 rfl;have cn1:(W.alloc<|.cells #[.string<|st ky,.string<|st vl] 104).cell? ⟨W.heap.size,1,bN⟩=bO (.string<|st vl):=(xx.new W #[.string<|st ky,.string<|st vl] 104).cell 1 rfl;clear A1 A2 A3
    gi_wp2
    refine⟨KeepsOthers.alloc _ _,(zr _ W).alloc (by omega) _,HK.o.alloc _,HV.o.alloc _,HB.o.alloc _,HE.o.trans<|(zr _ W).alloc (by omega) _,by simp;omega,fun z hz=>?_⟩;rcases Je.1 hz with hz|hz
    ·exact HN.o z hz
    ·simp only[jp]at hz
     subst hz;simp[nU,hm]
  |del ky=>
   have h86:=Fz (.agg #[.string<|st ky]) W;have h88:=Ih (.agg #[.string<|st ky]) W;simp only[iC];by_cases hm:ky=key
   ·subst hm
    have A1:=HK.o.alloc<|.cells #[.string<|st ky] 106;have A2:=HV.o.alloc<|.cells #[.string<|st ky] 106;have A3:=HB.o.alloc<|.cells #[.string<|st ky] 106;have ck:=A1.cell 0 rfl;have cv:=A2.cell 0 rfl;have fv:=A2.bT 0;have cb:=A3.cell 0 rfl;have fb:=A3.bT 0;have cn0:(W.alloc<|.cells #[.string<|st ky] 106).cell? ⟨W.heap.size,0,bN⟩=bO (.string<|st ky):=(xx.new W #[.string<|st ky] 106).cell 0 rfl;clear A1 A2 A3
    gi_wp2
    refine⟨?_,rfl,⟨pre,(ix,.del ky),bN,rfl,HN.o,by simp[nU],?_,?_⟩,?_⟩
    ·exact((KeepsOthers.alloc _ _).trans<|KeepsOthers.setCell _ _ _).trans<|KeepsOthers.setCell _ _ _
    ·exact((HV.o.alloc _).set 0 _).other (by simp) _
    ·exact((HB.o.alloc _).other (by simp) _).set 0 _
    ·exact HE.o.trans<|(((zr _ W).alloc (by omega) _).setCell (p:=⟨w.heap.size+1,0,bN⟩) (by simp) _).setCell (p:=⟨w.heap.size+1+1,0,bN⟩) (by simp;omega) _
   ·have hmb:((st ky).toList==(st key).toList)=bK:=by rw[xo,xo,Xy];exact hm
    have A1:=HK.o.alloc<|.cells #[.string<|st ky] 106;have A2:=HV.o.alloc<|.cells #[.string<|st ky] 106;have A3:=HB.o.alloc<|.cells #[.string<|st ky] 106;have ck:=A1.cell 0 rfl;have cv:=A2.cell 0 rfl;have fv:=A2.bT 0;have cb:=A3.cell 0 rfl;have fb:=A3.bT 0;have cn0:(W.alloc<|.cells #[.string<|st ky] 106).cell? ⟨W.heap.size,0,bN⟩=bO (.string<|st ky):=(xx.new W #[.string<|st ky] 106).cell 0 rfl;clear A1 A2 A3
    gi_wp2
    refine⟨KeepsOthers.alloc _ _,(zr _ W).alloc (by omega) _,HK.o.alloc _,HV.o.alloc _,HB.o.alloc _,HE.o.trans<|(zr _ W).alloc (by omega) _,by simp;omega,fun z hz=>?_⟩;rcases Je.1 hz with hz|hz
    ·exact HN.o z hz
    ·simp only[jp]at hz
     subst hz;simp[nU,hm]
 case done=>
  rintro D xs W hD rfl ⟨hk,hv,hb,hbel,hsz,hno⟩ hK;have HM:Hid<|Zh s.now key=Zh s.L key:=FA HA.o.map.nd hno;have HV:=zl hv;have HB:=zl hb;have HE:=zl hbel;have HD:=zl hK;have AW:=HA.o.but (S:=fun _=>False) (xb.of_below hbel) fun _ _=>id;have ck:=hk.cell 0 rfl;have cm:W.cell? ⟨s.S,0,bN⟩=bO (.map<|bO s.mp):=AW.blk.cell 0 rfl;have hget:=Be (P:=prog) (w:=W.drew) yO underlying9 VS AW.map key;have AW2:=AW.but (S:=fun _=>False) (xb.alloc<|.cells #[.string ⟨#[]⟩] 155) fun _ _=>id;have hget2:=Be (P:=prog) (w:=(W.alloc<|.cells #[.string ⟨#[]⟩] 155).drew) yO underlying9 VS AW2.map key;have cm2:(W.alloc<|.cells #[.string ⟨#[]⟩] 155).cell? ⟨s.S,0,bN⟩=bO (.map<|bO s.mp):=AW2.blk.cell 0 rfl;have ck2:=(hk.alloc<|.cells #[.string ⟨#[]⟩] 155).cell 0 rfl;unfold kF at hget hget2;clear AW2;clear hk hv hb hbel hno hK AW K0 V0 L0 X0 B0 hrows
  gi_wp2
  refine wpIn_wide.2 ?_
  go_region
  all_goals
   have VA:=(HV.o.alloc<|.cells #[.string<|st<|(Zh s.L key).getD []] 155).drew;have BA:=(HB.o.alloc<|.cells #[.string<|st<|(Zh s.L key).getD []] 155).drew;have NA:=(xx.new W #[.string<|st<|(Zh s.L key).getD []] 155).drew;have DA:(W.alloc<|.cells #[.string<|st<|(Zh s.L key).getD []] 155).drew.heap[D]?=bO (.deferred<|bO []):=(qy W _ D (za.1 HD.o).1).trans HD.o;have EA:Hid<|Nw w (W.alloc<|.cells #[.string<|st<|(Zh s.L key).getD []] 155).drew:=((xb.of_below HE.o).trans<|xb.alloc _).drew;generalize(W.alloc<|.cells #[.string<|st<|(Zh s.L key).getD []] 155).drew=WA at*;obtain⟨vl,hvl⟩:∃vl,(Zh s.L key).getD []=vl:=⟨_,rfl⟩;have HVL:=zl hvl;rw[hvl]at NA⊢;clear hvl hget hget2;have ca:=NA.cell 0 rfl;have cv:=VA.cell 0 rfl;have fv:=VA.bT 0;have cb:=BA.cell 0 rfl;have fb:=BA.bT 0
   gi_wp2
   have VC:=(VA.set 0<|.string<|st vl).other (p:=⟨w.heap.size+1+1,0,bN⟩) (by simp)<|.bool (Zh s.L key).isSome;have BC:=(BA.other (p:=⟨w.heap.size+1,0,bN⟩) (by simp)<|.string<|st vl).set 0<|.bool (Zh s.L key).isSome;have DC:((WA.setCell ⟨w.heap.size+1,0,bN⟩<|.string<|st vl).setCell ⟨w.heap.size+1+1,0,bN⟩<|.bool (Zh s.L key).isSome).heap[D]?=bO (.deferred<|bO []):=(V8 _ _ _ _<|by simp;omega).trans<|(V8 _ _ _ _<|by simp;omega).trans DA;have EC:Nw w<|(WA.setCell ⟨w.heap.size+1,0,bN⟩<|.string<|st vl).setCell ⟨w.heap.size+1+1,0,bN⟩<|.bool (Zh s.L key).isSome:=(EA.o.fresh (Nat.le_succ _)<|xb.set WA ⟨w.heap.size+1,0,bN⟩ _).fresh (show w.heap.size<=w.heap.size+1+1 by omega)<|xb.set _ ⟨w.heap.size+1+1,0,bN⟩ _;generalize(WA.setCell ⟨w.heap.size+1,0,bN⟩<|.string<|st vl).setCell ⟨w.heap.size+1+1,0,bN⟩ (.bool (Zh s.L key).isSome)=WC at*;refine⟨by simp,.inl ⟨_,_,rfl,run_takeDeferred DC,?_⟩⟩;have hkr:∀r,bO D=bO r->∃o:Obj,WC.heap[r]?=bO o/\o.isCells=bK:=fun r e=>by cases e;exact⟨_,DC,rfl⟩
   have r1:=(VC.kept (grownBy_putObj' WC D<|.deferred bN) hkr).cell 0 rfl;have r2:=(BC.kept (grownBy_putObj' WC D<|.deferred bN) hkr).cell 0 rfl;refine⟨.tuple #[.string<|st vl,.bool (Zh s.L key).isSome],by simp[aN,Tryz.results74,go_sem,r1,r2],by rw[HM.o,HVL.o],?_⟩;exact⟨EC.os,EC.output,by simpa using EC.size,fun k hk _=>(World.putObj_heap_other<|by omega).trans<|EC.block k hk id⟩
 case stop=>
  rintro D c pre W hD ⟨k,hk,rfl⟩ ⟨rfl,⟨q,y,o,h1,h2,h3,h4,h5⟩,hbel⟩ hK;have HM:Hid<|Zh s.now key=o:=SU HA.o.map.nd hk h1 h2 h3
  gi_wp2
  refine⟨by simp,.inl ⟨_,_,rfl,run_takeDeferred hK,?_⟩⟩;have hkr:∀r,bO D=bO r->∃o:Obj,W.heap[r]?=bO o/\o.isCells=bK:=fun r e=>by cases e;exact⟨_,hK,rfl⟩
  have r1:=(h4.kept (grownBy_putObj' W D<|.deferred bN) hkr).cell 0 rfl;have r2:=(h5.kept (grownBy_putObj' W D<|.deferred bN) hkr).cell 0 rfl;refine⟨.tuple #[.string<|st<|o.getD [],.bool o.isSome],by simp[aN,Tryz.results74,go_sem,r1,r2],by rw[HM.o],?_⟩;exact⟨hbel.os,hbel.output,by simpa using hbel.size,fun k hk _=>(World.putObj_heap_other<|by omega).trans<|hbel.block k hk⟩
end
section
attribute [local go_sem] xe zv
def Sr.gets(r:Sr)(key:Zl):Zl×Int:=match r.sn with
 |none=>([],5)
 |some s=>if Ve key=bK then([],6)else match Zh s.now key with
  |none=>([],8)
  |some v=>(v,0)
def TM(B:Nat)(r:Sr)(a:Zl)(w:Zy)(h:Jq w B r)(j:∀s,r.sn=bO s->s.P.length<=20):bE prog 36 #[zo B,zs a] w fun e w'=>e= .returned (.tuple #[.string<|st (r.gets a).1,.int .i64 (r.gets a).2])/\Nw w w':=by
 have c7:=h.blk.cell 7 rfl;have m:=zl h;cases hs:r.sn with
 |none=>
  have i:w.cell? (zq B 7)=bO (.pointer bN):=by rw[c7];simp[Sr.cells,Sr.iJ,hs]
  have b:Hid<|r.gets a=([],5):=by show _=_;unfold Sr.gets;rw[hs]
  clear h c7 hs j;go_enter func36.1,Tryz.ntmps36
  go_wp2
  refine jz (v:= .tuple #[.string ⟨#[]⟩,zi 5]) (by simp[aN,Tryz.results36,go_sem]) rfl ⟨by rw[b.o];rfl,xb.refl _ _⟩
 |some s=>
  have i:w.cell? (zq B 7)=bO (zo s.S):=by rw[c7];simp[Sr.cells,Sr.iJ,hs]
  have g:=zl hs;have d:=j s hs;clear h c7 hs j;go_enter func36.1,Tryz.ntmps36
  go_wp2
  refine(KD a _).mono ?_;rintro e w1 ⟨rfl,k⟩;obtain rfl:=k.symm;cases hk:decide (0<a.length/\a.length<=16)with
  |false=>
   have b:Hid<|r.gets a=([],6):=by show _=_;unfold Sr.gets;rw[g.o];simp only[Ve,hk,if_true]
   clear hk
   go_wp2
   refine jz (v:= .tuple #[.string ⟨#[]⟩,zi 6]) (by simp[aN,Tryz.results36,go_sem]) rfl ⟨by rw[b.o];rfl,xb.refl _ _⟩
  |true=>
   have c:Hid<|Ve a=bL:=hk;clear hk
   go_wp2
   refine(xmr s a _ (m.o.bU s g.o).1 d).mono ?_;rintro e n ⟨rfl,f⟩;have l:=zl f;clear f;cases ha:Zh s.now a with
   |none=>
    have b:Hid<|r.gets a=([],8):=by show _=_;unfold Sr.gets;rw[g.o];simp only[c.o,ha];rfl
    simp only[Option.getD_none,Option.isSome_none];clear ha
    go_wp2
    refine jz (v:= .tuple #[.string ⟨#[]⟩,zi 8]) (by simp[aN,Tryz.results36,go_sem]) rfl ⟨by rw[b.o];rfl,l.o⟩
   |some v=>
    have b:Hid<|r.gets a=(v,0):=by show _=_;unfold Sr.gets;rw[g.o];simp only[c.o,ha];rfl
    simp only[jv,Option.isSome_some];clear ha
    go_wp2
    refine jz (v:= .tuple #[zs v,zi 0]) (by simp[aN,Tryz.results36,go_sem]) rfl ⟨by rw[b.o],l.o⟩
def A9(m:Zl)(ep:Nat):(Xz m ep).length=16:=SQ _ _ 16<|by decide
def F8(m:Zl)(ep:Nat):(Jm m ep).length=32:=SQ _ _ 32<|by decide
def Wv(kind:Zl)(ep op cnt n:Nat):Zl:=kind++(nb ep 1++(nb op 2++(nb (cnt+1) 4++nb n 2)))
def qE(m kind:Zl)(ep op cnt:Nat)(plain:Zl):Zl:=iK (Xz m ep) ((Wv kind ep op cnt plain.length).take 8) plain
def nH(m mark kind:Zl)(ep op cnt:Nat)(plain:Zl):Zl:=V1 (Jm m ep)<|mark++Wv kind ep op cnt plain.length++qE m kind ep op cnt plain
def Y5(m mark kind:Zl)(ep op cnt:Nat)(plain:Zl):Zl:=Wv kind ep op cnt plain.length++qE m kind ep op cnt plain++nH m mark kind ep op cnt plain
def MY(m mark kind:Zl)(ep op cnt:Nat)(plain:Zl)(hm:m.length=32)(t:mark.length=32)(X:kind.length=1)(v:plain.length<=4000)(bc:cnt<1000000000)(w:Zy)(J:dF w):
  bE prog 161 #[.agg #[.string<|st m,.int .i64 (cnt:Int),.string<|st mark,.int .i64 (op:Int)],.string<|st kind,.int .i64 (ep:Int),.string<|st plain] w fun e w'=>e= .returned (.string<|st<|Y5 m mark kind ep op cnt plain)/\bC w.heap.size w w':=by
 have I:=zl J;have HM:=zl hm;have R:=zl t;have E:=zl v;have l1:=qt ep 1;have l2:=qt op 2;have l3:=qt (cnt+1) 4;have l4:=qt plain.length 2;have D:Hid<|IntKind.i64.wrap ((cnt:Int)+1)=((cnt+1:Nat):Int):=by show _=_;simp[IntKind.wrap,IntKind.bits,IntKind.signed];omega
 have W0:Hid<|bC w.heap.size w<|w.alloc<|.cells #[.string<|st m,.int .i64 (cnt:Int),.string<|st mark,.int .i64 (op:Int)] 91:=(zr _ _).alloc (ze _) _;have H:Hid<|xx (w.alloc<|.cells #[.string<|st m,.int .i64 (cnt:Int),.string<|st mark,.int .i64 (op:Int)] 91) w.heap.size #[.string<|st m,.int .i64 (cnt:Int),.string<|st mark,.int .i64 (op:Int)] 91:=xx.new _ _ _;clear J hm t v;go_enter func161.1,Tryz.ntmps161
 go_wp2
 generalize w.alloc (.cells #[.string<|st m,.int .i64 (cnt:Int),.string<|st mark,.int .i64 (op:Int)] 91)=W at*;have b:Hid<|∀w1,bC W.heap.size W w1->w1.cell? ⟨w.heap.size,3,bN⟩=bO (.int .i64 (op:Int))/\w1.cell? ⟨w.heap.size,1,bN⟩=bO (.int .i64 (cnt:Int)):=fun w1 h=>⟨(H.o.below h).cell 3 rfl,(H.o.below h).cell 1 rfl⟩;have F:=b.o W<|zr _ _;have a:Hid<|bC W.heap.size W W.drew:=(zr _ _).drew
 go_region_held3 (fun w'=>w'.cell? ⟨w.heap.size,3,bN⟩=bO (.int .i64 (op:Int))/\w'.cell? ⟨w.heap.size,1,bN⟩=bO (.int .i64 (cnt:Int))) (first|exact F|exact p)
  (first
   |(go_at_call 148;refine(NG _ ep rfl _).mono ?_;rintro e w1 ⟨rfl,q⟩;replace a:=zl<|Yg a.o q;have p:=b.o _ a.o)
   |(go_at_call 157;refine(RV _ _).mono ?_;rintro e w1 ⟨rfl,q⟩;replace a:=zl<|Yg a.o q;have p:=b.o _ a.o)
   |(go_at_call 158;refine(XK _ _ D.o _).mono ?_;rintro e w1 ⟨rfl,q⟩;replace a:=zl<|Yg a.o q;have p:=b.o _ a.o))
 obtain⟨hd,k⟩:∃hd,kind++(nb ep 1++(nb op 2++(nb (cnt+1) 4++nb plain.length 2)))=hd:=⟨_,rfl⟩;have Q:Hid<|Wv kind ep op cnt plain.length=hd:=k;have be:hd.length=10:=by rw[<-k];simp[X,l1,l2,l3,l4]
 rw[k];have f:=zl<|H.o.below a.o;have U:=zl<|W0.o.trans<|a.o.mono W0.o.size;have T1:=zl<|I.o.below I.o.pos U.o;have d0:=f.o.cell 0 rfl;have d1:=f.o.cell 1 rfl;have d2:=f.o.cell 2 rfl;have d3:=f.o.cell 3 rfl;clear k F b a H W0 l1 l2 l3 l4 D;clear p
 try clear hHeld
 go_wp2
 refine(EO m mark _ _ ep HM.o _ T1.o).mono ?_;rintro e x ⟨rfl,r⟩;have W2:=zl<|Yg U.o r;have o:=zl<|f.o.below r;have ba:=o.o.lt;obtain⟨d,j⟩:∃d,Xz m ep=d:=⟨_,rfl⟩;obtain⟨c,l⟩:∃c,Jm m ep=c:=⟨_,rfl⟩;rw[j,l];have M:=zl j;have S:=zl l;have O:Hid<|d.length=16:=by show _=_;rw[<-j];exact A9 m ep
 have T:Hid<|c.length<=4096:=by show _<=_;rw[<-l,F8 m ep];omega
 clear r j l U f T1 d0 d1 d2 d3
 go_wp2
 have g:Hid<|xx (x.alloc<|.cells #[.string<|st d,.string<|st c] 145) x.heap.size #[.string<|st d,.string<|st c] 145:=xx.new _ _ _;have C:=zl<|o.o.alloc<|.cells #[.string<|st d,.string<|st c] 145;have V:=zl<|W2.o.alloc (by omega)<|.cells #[.string<|st d,.string<|st c] 145;have KS:Hid<|∀z s,s=st (hd.take 8)->bE prog 150 #[.agg #[.string<|st d,.string<|st c],.string s,.string<|st plain] z fun e w'=>e= .returned (.string<|st<|iK d (hd.take 8) plain)/\bC z.heap.size z w':=fun z s Y=>by rw[Y];exact ZI d c _ plain O.o (by rw[xt];omega) (by have:=E.o;omega) z
 generalize x.alloc (.cells #[.string<|st d,.string<|st c] 145)=W at*;have b:Hid<|∀w1,bC W.heap.size W w1->w1.cell? ⟨x.heap.size,0,bN⟩=bO (.string<|st d)/\w1.cell? ⟨x.heap.size,1,bN⟩=bO (.string<|st c):=fun w1 h=>⟨(g.o.below h).cell 0 rfl,(g.o.below h).cell 1 rfl⟩;have F:=b.o W<|zr _ _;have a:Hid<|bC W.heap.size W W.drew:=(zr _ _).drew;have h8:(8:Int)<=(hd.length:Nat):=by omega
 go_region_held3 (fun w'=>w'.cell? ⟨x.heap.size,0,bN⟩=bO (.string<|st d)/\w'.cell? ⟨x.heap.size,1,bN⟩=bO (.string<|st c)) (first|exact F|exact p)
  ((go_at_call 150;refine(KS.o _ _<|yN hd 8).mono ?_;rintro e z ⟨rfl,q⟩;replace a:=zl<|Yg a.o q;have p:=b.o _ a.o))
 obtain⟨n,i⟩:∃n,iK d (hd.take 8) plain=n:=⟨_,rfl⟩;rw[i];have L:=zl i;have bb:n.length=plain.length:=by rw[<-i];exact yJ _ _ _
 have K:=zl<|C.o.below a.o;have B:=zl<|g.o.below a.o;have W4:=zl<|V.o.trans<|a.o.mono V.o.size;have T4:=zl<|I.o.below I.o.pos W4.o;have d2:=K.o.cell 2 rfl;have e0:=B.o.cell 0 rfl;have e1:=B.o.cell 1 rfl;have t:=R.o;have v:=E.o;have Z:Hid<|∀y s,s=st (mark++(hd++n))->dF y->bE prog 159 #[.agg #[.string<|st d,.string<|st c],.string s] y fun e w'=>e= .returned (.string<|st<|V1 c<|mark++(hd++n))/\bC y.heap.size y w':=fun y s Y J=>by rw[Y];exact TC d c _ T.o (by simp only[zj];omega) y J
 clear i F b a C g V KS h8 W2 o;clear p
 try clear hHeld
 go_wp2
 refine(Z.o _ _ rfl T4.o).mono ?_;rintro e y ⟨rfl,G⟩;have bf:=wP c<|mark++(hd++n);have HE:Hid<|st (hd++(n++V1 c (mark++(hd++n))))=st (Y5 m mark kind ep op cnt plain):=by
  show _=_;simp only[Y5,nH,qE,Q.o,M.o,S.o,L.o,Zq]
 have W5:=zl<|Yg W4.o G;clear G Z
 go_wp2
 go_ret
 exact⟨by rw[<-HE.o];rfl,W5.o⟩
def xb.drewN'{S:ZP}{w w':Zy}{n:Nat}(h:xb S w w'):xb S w<|w'.drewN n:=⟨h.os,h.output,h.size,h.block⟩
def nE(n c:Nat):Zl:=83::(nb n 4++nb c 4)
def Sr.place(r:Sr)(s:Jo):Nat×Zl:=
 if s.base<s.last/\((qu r.d.L s.last).length:Int)<r.nW then(s.last.toNat,[])else(s.last.toNat+1,nE (s.last.toNat+1)<|r.cnt+1)
def Hh(B:Nat)(r:Sr)(s:Jo)(w:Zy)(h:Jq w B r)(U:r.sn=bO s)(J:0<=s.last)(K:s.last<=1000000000000)(H:r.cnt<1000000000):bE prog 160 #[zo B] w fun e w'=>e= .returned (.tuple #[zi<|(r.place s).1,.string<|st (r.place s).2])/\Nw w w':=by
 obtain⟨c,k⟩:∃c:Nat,s.last=(c:Int):=⟨s.last.toNat,by omega⟩;have c7:w.cell? (zq B 7)=bO (zo s.S):=by rw[h.blk.cell 7 rfl];simp[Sr.cells,Sr.iJ,U]
 have Q:w.cell? (zq B 0)=bO (zi r.nW):=h.blk.cell 0 rfl;have R:w.cell? (zq B 2)=bO (zo r.D):=h.blk.cell 2 rfl;have l:w.cell? (zq B 4)=bO (zi r.cnt):=h.blk.cell 4 rfl;have C:=(h.bU s U).1;have T:w.cell? (zq s.S 3)=bO (zi s.base):=C.blk.cell 3 rfl;have m:w.cell? (zq s.S 4)=bO (zi c):=by rw[<-k];exact C.blk.cell 4 rfl
 have f:Hid<|r.place s=if s.base<s.last/\((qu r.d.L s.last).length:Int)<r.nW then(s.last.toNat,[])else(s.last.toNat+1,nE (s.last.toNat+1)<|r.cnt+1):=rfl;rw[k]at f;have Z:(c:Int)<=1000000000000:=by omega
 have y:Hid<|∀n,bE prog 76 #[zo r.D,zi c] (w.drewN n) fun e w'=>e= .returned (zs<|qu r.d.L (c:Int))/\w'=w.drewN n:=fun n=>AV r.D r.d (c:Int) (w.drewN n) ⟨h.disk.blk,h.disk.map,h.disk.eU⟩;have o:Hid<|IntKind.i64.wrap ((r.cnt:Int)+1)=((r.cnt+1:Nat):Int):=by show _=_;simp[IntKind.wrap,IntKind.bits,IntKind.signed];omega
 have g:Hid<|IntKind.i64.wrap ((c:Int)+1)=((c+1:Nat):Int):=by show _=_;simp[IntKind.wrap,IntKind.bits,IntKind.signed];omega
 have O:Hid<|∀w1 a b,a=((c+1:Nat):Int)->b=((r.cnt+1:Nat):Int)->bE prog 222 #[zi a,zi b] w1 fun e w'=>e= .returned (zs<|nE (c+1)<|r.cnt+1)/\bC w1.heap.size w1 w':=fun w1 a b V i=>by subst V i;exact Lf (c+1) (r.cnt+1) w1
 obtain⟨z,t⟩:∃z,qu r.d.L (c:Int)=z:=⟨_,rfl⟩;rw[t]at y f;clear h C k t J K H;generalize r.nW=sg at*;generalize s.base=ba at*;go_enter func160.1,Tryz.ntmps160
 go_wp2
 by_cases i:ba<(c:Int)
 ·by_cases I:(z.length:Int)<sg
  ·have p:Hid<|r.place s=(c,[]):=by show _=_;rw[f.o,aA ⟨i,I⟩];simp
   go_quiet ((go_at_call 76;refine Calls.quiet_of_same<|y.o _))
   go_wp2
   refine jz (v:= .tuple #[zi c,.string ⟨#[]⟩]) (by simp[aN,Tryz.results160,go_sem]) rfl ⟨by rw[p.o];rfl,(xb.refl _ _).drewN'⟩
  have p:Hid<|r.place s=(c+1,nE (c+1)<|r.cnt+1):=by show _=_;rw[f.o,aB fun x=>I x.2];simp
  have Y:decide ((z.length:Int)<sg)=bK:=by simpa using I
  go_quiet ((go_at_call 76;refine Calls.quiet_of_same<|y.o _))
  go_wp2
  have F:(w.drewN nq).cell? (zq s.S 4)=bO (zi c)/\(w.drewN nq).cell? (zq B 4)=bO (zi r.cnt):=⟨m,l⟩;have E:Hid<|Nw w<|w.drewN nq:=(xb.refl _ _).drewN';have j:Hid<|∀w1,Nw w w1->w1.cell? (zq s.S 4)=bO (zi c)/\w1.cell? (zq B 4)=bO (zi r.cnt):=fun w1 h=>⟨h.cell id m,h.cell id l⟩;clear m l Q R T c7;generalize w.drewN nq=W at*
  go_region_held3 (fun w'=>w'.cell? (zq s.S 4)=bO (zi c)/\w'.cell? (zq B 4)=bO (zi r.cnt)) (first|exact F|exact G)
  ((go_at_call 222;refine(O.o _ _ _ g.o o.o).mono ?_;rintro e M ⟨rfl,i⟩;have q:Hid<|Nw w M:=E.o.drew.trans<|xb.of_below i;have G:=j.o _ q.o))
  go_wp2
  refine jz (v:= .tuple #[zi<|IntKind.i64.wrap<|(c:Int)+1,zs<|nE (c+1)<|r.cnt+1]) (by simp[aN,Tryz.results160,go_sem]) rfl ⟨by rw[p.o,g.o],q.o⟩
 have p:Hid<|r.place s=(c+1,nE (c+1)<|r.cnt+1):=by show _=_;rw[f.o,aB fun x=>i x.1];simp
 have X:decide (ba<(c:Int))=bK:=by simpa using i
 go_quiet ((go_at_call 76;refine Calls.quiet_of_same<|y.o _))
 go_wp2
 have F:(w.drewN nq).cell? (zq s.S 4)=bO (zi c)/\(w.drewN nq).cell? (zq B 4)=bO (zi r.cnt):=⟨m,l⟩;have E:Hid<|Nw w<|w.drewN nq:=(xb.refl _ _).drewN';have j:Hid<|∀w1,Nw w w1->w1.cell? (zq s.S 4)=bO (zi c)/\w1.cell? (zq B 4)=bO (zi r.cnt):=fun w1 h=>⟨h.cell id m,h.cell id l⟩;clear m l Q R T c7;generalize w.drewN nq=W at*
 go_region_held3 (fun w'=>w'.cell? (zq s.S 4)=bO (zi c)/\w'.cell? (zq B 4)=bO (zi r.cnt)) (first|exact F|exact G)
 ((go_at_call 222;refine(O.o _ _ _ g.o o.o).mono ?_;rintro e M ⟨rfl,i⟩;have q:Hid<|Nw w M:=E.o.drew.trans<|xb.of_below i;have G:=j.o _ q.o))
 go_wp2
 refine jz (v:= .tuple #[zi<|IntKind.i64.wrap<|(c:Int)+1,zs<|nE (c+1)<|r.cnt+1]) (by simp[aN,Tryz.results160,go_sem]) rfl ⟨by rw[p.o,g.o],q.o⟩
end
section
variable {B:Nat}
structure iA(cv tv:Zv)(w:Zy):Prop where
 FT:mJ cv w
 Am:Wh tv w
 tab:dF w
def iA.but{cv tv:Zv}{S:ZP}{w w':Zy}(h:iA cv tv w)(a:xb S w w')(b:∀x,S x->2<x):iA cv tv w':=
 ⟨h.FT.but a fun x=>by have:=b 0 x;omega,h.Am.but a fun x=>by have:=b 1 x;omega,h.tab.but a fun x=>by have:=b 2 x;omega⟩
def iA.pos{cv tv:Zv}{w:Zy}(h:iA cv tv w):2<w.heap.size:=h.tab.pos
structure fV(B:Nat)(r:Sr):Prop where
 m:r.m.length=32
 mark:r.mark.length=32
 cnt:r.cnt<1000000
 op:r.op<1000000
 room:0<=r.d.room/\r.d.room<=1000000
 files:mE r.d.L
 few:r.d.L.length<1000000
 nx:∀c,r.d.nx=bO c->i64 c.2.1/\0<=c.2.2/\i64 c.2.2
 own:∀x,r.own B x->2<x
 bU:∀s,r.sn=bO s->0<=s.last/\s.last<=1000000000000/\s.P.length<=20
def fV.FU{r:Sr}(h:fV B r):dL r.D r.d:=⟨h.files,h.nx,fun x=>by have:=h.own 0<|.inr<|.inl x;omega⟩
def jt.disk{r:Sr}{w w':Zy}{d':Dk}(h:Jq w B r)(b:xb (r.d.own r.D) w w')(hd:Xg w' r.D d')(g:d'.M=r.d.M)(ho:∀x,d'.own r.D x->r.d.own r.D x):jt B r w {r with d:=d'} w':=by
 refine⟨b.mono fun x a=> .inr (.inl a),⟨?_,hd,fun s c=>?_⟩,fun x a=>?_⟩;exact h.blk.but b h.fB;exact⟨(h.bU s c).1.but b fun x a f=>h.apart c a f,by rw[g];exact(h.bU s c).2⟩;rcases a with e|e|e
 exact .inl<|.inl e;exact .inl<|.inr<|.inl<|ho x e;exact .inl<|.inr<|.inr e
def Dk.gQ(d:Dk):d.lost.M=d.M:=by unfold Dk.lost;split<;>rfl
def Dk.dQ(d:Dk)(D x:Nat)(h:d.lost.own D x):d.own D x:=by
 rcases h with e|e|⟨c,a,e⟩;exact .inl e;exact .inr (.inl<|by rw[<-Dk.gQ];exact e);unfold Dk.lost at a;split at a;exact .inr<|.inr ⟨c,a,e⟩;cases a
def Yz.st{cv:Zv}{r:Sr}{L':Ym}{w w':Zy}{e:Ending}(h:Jq w B r)(g:Yz cv r.D r.d L' w e w'):
  (e= .returned (.tuple #[])/\r.d.stops=bK/\jt B r w {r with d:={r.d.tick with L:=L'}} w')\/(e=eF cv/\r.d.stops=bL/\jt B r w {r with d:=r.d.lost} w'):=by
 obtain⟨f,⟨a,hd,b⟩|⟨a,hd,b⟩⟩:=g;exact .inl ⟨a,b.o,jt.disk h f hd (Dk.eB r.d) fun x c=>(Dk.dS r.d r.D x).1 c⟩;exact .inr ⟨a,b.o,jt.disk h f hd (Dk.gQ r.d) fun x c=>Dk.dQ r.d r.D x c⟩
def Dk.app(d:Dk)(n:Int)(x:Zl):Dk:={d.tick with L:=Yx d.L n (qu d.L n++x,(Vu d.L n).2)}
def Dk.mR(d:Dk)(n:Int):Dk:={d.tick with L:=Yx d.L n (qu d.L n,(qu d.L n).length)}
def Dk.mG(d:Dk)(n:Int)(x:Zl):Dk:={d.tick with L:=Yx d.L n (x,x.length)}
def Dk.rem(d:Dk)(n:Int):Dk:={d.tick with L:=V6 d.L n}
def Dk.cut(d:Dk)(n:Int)(m:Nat):Dk:={d.tick with L:=Yx d.L n ((qu d.L n).take m,((qu d.L n).take m).length)}
def zud(L:Ym):0<=J6 L:=by
 induction L with
 |nil=>simp[J6]
 |cons p L ih=>simp only[J6,xq,Vq]at ih⊢;omega
def Eb(L:Ym)(n:Int):((qu L n).length:Int)<=J6 L:=by
 unfold qu;induction L with
 |nil=>simp[J9,J6]
 |cons p L ih=>
  obtain⟨k,v⟩:=p;have:=zud L;have e:J6 ((k,v)::L)=(v.1.length:Int)+J6 L:=by simp[J6]
  by_cases hk:n=k;simp only[J9,hk,if_true,jv];omega;simp only[J9,hk,if_false];omega
def mE.lay{L:Ym}(h:mE L){n:Int}{f:Zl×Int}(b:i64 n)(a:0<=f.2/\f.2<=(f.1.length:Nat)/\f.1.length<=1000000)(c:L.length<1000000):mE<|Yx L n f:=by
 refine⟨h.each.lay b a,?_⟩;unfold Yx;split;exact xz (RF _ _) h.cnt;have:=TI L n f;omega
end
section
attribute [local go_sem] xe zv
def Sr.wrote(r:Sr)(s:Jo)(kind:Zl)(ep:Nat)(plain:Zl):Sr:=
 {r with d:=(r.d.app (r.place s).1<|(r.place s).2++Y5 r.m r.mark kind ep r.op r.cnt plain).mR (r.place s).1,cnt:=r.cnt+1,mark:=nH r.m r.mark kind ep r.op r.cnt plain,sn:=bO {s with last:=(r.place s).1}}
def Sr.writes(r:Sr)(s:Jo)(kind:Zl)(ep:Nat)(plain:Zl):Option Int×Sr:=
 if(r.cnt:Int)=r.lim then(bO 10,r)
 else if r.d.room-J6 r.d.L<((r.place s).2.length:Int)+10+plain.length+32 then(bO 9,r)
 else if r.d.stops=bL then(bN,{r with d:=r.d.lost})
 else if(r.d.app (r.place s).1<|(r.place s).2++Y5 r.m r.mark kind ep r.op r.cnt plain).stops=bL then(bN,{r with d:=(r.d.app (r.place s).1<|(r.place s).2++Y5 r.m r.mark kind ep r.op r.cnt plain).lost})
 else(bO 0,r.wrote s kind ep plain)
def FD(cv:Zv):Option Int->Ending
 |some v=> .returned (zi v)
 |none=>eF cv
def b_(r:Sr)(s:Jo):(r.place s).2.length<=9:=by
 unfold Sr.place;split;simp;simp[nE,qt]
def QT(m mark kind:Zl)(ep op cnt:Nat)(plain:Zl)(hk:kind.length=1):(Y5 m mark kind ep op cnt plain).length=42+plain.length:=by
 simp[Y5,Wv,qE,nH,qt,yJ,wP,hk];omega
def MD(m mark kind:Zl)(ep op cnt:Nat)(plain:Zl)(hk:kind.length=1):(Y5 m mark kind ep op cnt plain).drop (10+plain.length)=nH m mark kind ep op cnt plain:=by
 have h:(Wv kind ep op cnt plain.length++qE m kind ep op cnt plain).length=10+plain.length:=by simp[Wv,qE,qt,yJ,hk];omega
 unfold Y5;rw[<-h,Z6];rfl
def dL.step{D:Nat}{d:Dk}(h:dL D d){L':Ym}(b:d.stops=bK)(e:mE L'):dL D {d.tick with L:=L'} where
 files:=e
 nx:=fun c a=>by
  have a:d.tick.nx=bO c:=a;unfold Dk.tick at a;unfold Dk.stops at b;split at a;exact h.nx c a
  rename_i c' hc'
  rw[hc']at b;have:=h.nx c' hc';cases a;simp at b;unfold i64 at*;simp only;omega
 zero:=fun x=>h.zero<|(Dk.dS d D 0).1 x
def jt.counted{B:Nat}{r:Sr}{s:Jo}{w:Zy}{n:Int}{c:Nat}{t:Zl}(h:Jq w B r)(i:r.sn=bO s):
  jt B r w {r with cnt:=c,mark:=t,sn:=bO {s with last:=n}} (((w.setCell (zq s.S 4)<|zi n).setCell (zq B 4)<|zi c).setCell (zq B 5)<|zs t):=by
 obtain⟨k,o⟩:=h.bU s i;have b:s.S≠B:=fun e=>k.blk.ne h.blk (by decide) e;have j:xb (fun x=>x=s.S\/x=B) w<|((w.setCell (zq s.S 4)<|zi n).setCell (zq B 4)<|zi c).setCell (zq B 5)<|zs t:=
  (((xb.set w _ _).mono fun x a=> .inl a).trans<|(xb.set _ _ _).mono fun x a=> .inr a).trans ((xb.set _ _ _).mono fun x a=> .inr a)
 refine⟨j.mono fun x a=>?_,⟨?_,?_,fun F d=>?_⟩,fun x a=>?_⟩;rcases a with e|e
 exact .inr<|.inr ⟨s,i,.inl e⟩;exact .inl e;have:=((h.blk.other (p:=zq s.S 4) (Ne.symm b)<|zi n).set 4<|zi c).set 5<|zs t;have e:((r.cells).setIfInBounds 4<|zi c).setIfInBounds 5 (zs t)=Sr.cells {r with cnt:=c,mark:=t,sn:=bO {s with last:=n}}:=by
  simp[Sr.cells,Sr.iJ,i]
 rw[e]at this;exact this;refine h.disk.but j fun x a q=>?_;rcases q with e|e
 exact h.apart i (.inl e) a;exact h.fB (by rw[<-e];exact a);cases d;refine⟨⟨?_,?_,?_⟩,o⟩;have:=((k.blk.set 4<|zi n).other (p:=zq B 4) b<|zi c).other (p:=zq B 5) b<|zs t;exact this;refine k.map.but j fun a=>?_;obtain⟨H,G,y⟩:=k.map.blk;rcases a with e|e
 exact k.blk.cZ y e.symm;exact h.blk.cZ y e.symm;refine⟨k.pend.1,?_⟩;rcases k.pend.2 with z|⟨g,l,f,D,C,m,E⟩
 exact .inl z;refine .inr ⟨g,l,f,D,C,(j.block g (za.1 m).1 fun a=>?_).trans m,E⟩;have v:xx w g f 173:=m;rcases a with e|e
 exact k.blk.ne v (by decide) e.symm;exact h.blk.ne v (by decide) e.symm;rcases a with e|e|⟨F,d,a⟩
 exact .inl<|.inl e;exact .inl<|.inr<|.inl e;cases d;exact .inl<|.inr<|.inr ⟨s,i,a⟩
def cH{cv tv:Zv}(B:Nat)(r:Sr)(s:Jo)(kind:Zl)(ep:Nat)(plain:Zl)(w:Zy)(h:Jq w B r)(hs:r.sn=bO s)(W:fV B r)(hG:iA cv tv w)(bb:kind.length=1)(bd:plain.length<=4000):
  bE prog 100 #[zo B,zs kind,zi ep,zs plain] w fun e w'=>∃a r',r.writes s kind ep plain=(a,r')/\e=FD cv a/\jt B r w r' w':=by
 have HH:=zl h;have i:=zl W;have HG:=zl hG;have J:=zl hs;have H:=zl bb;have c1:w.cell? (zq B 1)=bO (zi r.lim):=h.blk.cell 1 rfl;have c4:w.cell? (zq B 4)=bO (zi r.cnt):=h.blk.cell 4 rfl;clear h W hG hs;go_enter func100.1,Tryz.ntmps100;by_cases c:(r.cnt:Int)=r.lim
 ·have HR:Hid<|r.writes s kind ep plain=(bO 10,r):=by show _=_;unfold Sr.writes;rw[aA c]
  rw[<-c]at c1;clear c
  go_wp2
  go_quiet (fail)
  go_wp2
  go_ret
  exact⟨_,_,HR.o,rfl,⟨(xb.refl _ _).drewN',HH.o.but ((xb.refl _ _).drewN') fun _ _=>id,fun x G=> .inl G⟩⟩
 have bc:decide ((r.cnt:Int)=r.lim)=bK:=by simpa using c
 have p:=zl c
 go_wp2
 go_quiet (fail)
 have T0:Hid<|jt B r w r<|w.drewN nq:=⟨(xb.refl _ _).drewN',HH.o.but ((xb.refl _ _).drewN') fun _ _=>id,fun x G=> .inl G⟩;have G0:Hid<|iA cv tv<|w.drewN nq:=HG.o.but (S:=fun _=>False) ((xb.refl _ _).drewN') fun _ x=>x.elim;clear c1 c4;generalize w.drewN nq=w0 at*
 go_wp2
 refine(Hh B r s _ T0.o.at_ J.o (i.o.bU s J.o).1 (i.o.bU s J.o).2.1<|by have:=i.o.cnt;omega).mono ?_;rintro e w1 ⟨rfl,z⟩;have T1:=zl<|T0.o.trans ⟨z.mono fun _ x=>x.elim,T0.o.at_.but z fun _ _=>id,fun x G=> .inl G⟩;have G1:=zl<|G0.o.but z fun _ x=>x.elim;obtain⟨j,E⟩:∃j,(r.place s).1=j:=⟨_,rfl⟩;obtain⟨n,C⟩:∃n,(r.place s).2=n:=⟨_,rfl⟩;have bg:n.length<=9:=by rw[<-C];exact b_ r s
 rw[E,C];have I:=zl E;have T:Hid<|j<=2000000000000:=by
  show j<=_;rw[<-E];have:=(i.o.bU s J.o).2.1;unfold Sr.place;split<;>simp only<;>omega
 have k:=zl C;have c2:w1.cell? (zq B 2)=bO (zo r.D):=T1.o.at_.blk.cell 2 rfl;clear z T0 G0 E C bc c
 go_wp2
 refine(Az r.D r.d _ T1.o.at_.disk i.o.files (by have:=i.o.room;omega)<|by have:=i.o.room;omega).mono ?_;rintro e w2 ⟨rfl,v⟩;have T2:=zl<|T1.o.trans ⟨xb.of_below v,T1.o.at_.but (xb.of_below v) fun _ _=>id,fun x G=> .inl G⟩;have G2:=zl<|G1.o.but (S:=fun _=>False) (xb.of_below v) fun _ x=>x.elim;clear v T1 G1 c2;obtain⟨fr,O⟩:∃fr,r.d.room-J6 r.d.L=fr:=⟨_,rfl⟩;have l:=zl O;rw[O];clear O;by_cases Z:fr<(n.length:Int)+10+plain.length+32
 ·have HR:Hid<|r.writes s kind ep plain=(bO 9,r):=by show _=_;unfold Sr.writes;rw[aB p.o,aA<|by rw[l.o,k.o];exact Z]
  go_wp2
  go_ret
  exact⟨_,_,HR.o,rfl,T2.o⟩
 have bh:(n.length:Int)+10+plain.length+32<=fr:=by omega
 have d3:w2.cell? (zq B 3)=bO (zs r.m):=T2.o.at_.blk.cell 3 rfl;have d4:w2.cell? (zq B 4)=bO (zi r.cnt):=T2.o.at_.blk.cell 4 rfl;have d5:w2.cell? (zq B 5)=bO (zs r.mark):=T2.o.at_.blk.cell 5 rfl;have d6:w2.cell? (zq B 6)=bO (zi r.op):=T2.o.at_.blk.cell 6 rfl;clear Z
 go_wp2
 refine(MY r.m _ kind ep r.op r.cnt plain i.o.m i.o.mark H.o bd (by have:=i.o.cnt;omega) _ G2.o.tab).mono ?_;rintro e w3 ⟨rfl,y⟩;have Q:=zl<|T2.o.trans ⟨xb.of_below y,T2.o.at_.but (xb.of_below y) fun _ _=>id,fun x G=> .inl G⟩;have G3:=zl<|G2.o.but (S:=fun _=>False) (xb.of_below y) fun _ x=>x.elim;obtain⟨o,F⟩:∃o,Y5 r.m r.mark kind ep r.op r.cnt plain=o:=⟨_,rfl⟩;have be:o.length=42+plain.length:=by rw[<-F];exact QT _ _ _ _ _ _ _ H.o
 have q:=zl F;rw[F];have e2:w3.cell? (zq B 2)=bO (zo r.D):=Q.o.at_.blk.cell 2 rfl;clear y T2 G2 d3 d4 d5 d6 F
 go_wp2
 refine(Qm r.D r.d _ _ (by simp only[zj];omega) _ Q.o.at_.disk i.o.FU G3.o.FT).mono ?_;intro e w4 X;rcases X.st Q.o.at_ with⟨rfl,b,g⟩|⟨rfl,b,g⟩
 rotate_left;refine⟨rfl,bN,{r with d:=r.d.lost},?_,rfl,Q.o.trans g⟩;unfold Sr.writes;rw[aB p.o,aB<|by rw[l.o,k.o];omega,aA b];have K:Hid<|jt B r w {r with d:=r.d.app (j:Int)<|n++o} w4:=Q.o.trans g;have G4:=zl<|HG.o.but K.o.but i.o.own;have U:=zl b;have R:Hid<|dL r.D<|r.d.app (j:Int)<|n++o:=by
  refine i.o.FU.step b<|i.o.files.lay ⟨by omega,by have:=T.o;omega⟩ ?_ i.o.few;have h1:=i.o.files.each.dat (j:Int);have h2:=Eb r.d.L (j:Int);have h3:=l.o;have h4:=i.o.room;have h5:(Vu r.d.L (j:Int)).1.length=(qu r.d.L (j:Int)).length:=rfl;simp only[zj];omega
 have f2:w4.cell? (zq B 2)=bO (zo r.D):=K.o.at_.blk.cell 2 rfl;clear g b X Q G3 e2
 go_wp2
 refine(Tn r.D (r.d.app _ _) _ _ K.o.at_.disk R.o G4.o.FT).mono ?_;intro e w5 Y;rcases Y.st (r:={r with d:=r.d.app (j:Int)<|n++o}) K.o.at_ with⟨rfl,b,g⟩|⟨rfl,b,g⟩
 rotate_left;refine⟨rfl,bN,{r with d:=(r.d.app _ _).lost},?_,rfl,K.o.trans g⟩;unfold Sr.writes;rw[aB p.o,aB<|by rw[l.o,k.o];omega,aB<|by rw[U.o];decide,I.o,k.o,q.o,aA b];have t:Hid<|jt B r w {r with d:=(r.d.app (j:Int)<|n++o).mR (j:Int)} w5:=K.o.trans g;have V:Hid<|(r.d.app (j:Int)<|n++o).stops=bK:=b;clear g b Y K G4 f2;have f:=(t.o.at_.bU s J.o).1;have g7:w5.cell? (zq B 7)=bO (zo s.S):=by rw[t.o.at_.blk.cell 7 rfl];simp[Sr.cells,Sr.iJ,J.o]
 have g4:w5.cell? (zq B 4)=bO (zi r.cnt):=t.o.at_.blk.cell 4 rfl;have g5:w5.cell? (zq B 5)=bO (zs r.mark):=t.o.at_.blk.cell 5 rfl;have k4:=t.o.at_.blk.bT 4;have k5:=t.o.at_.blk.bT 5;have s4:w5.cell? (zq s.S 4)=bO (zi s.last):=f.blk.cell 4 rfl;have j4:=f.blk.bT 4;have ba:¬s.S=B:=fun e=>f.blk.ne t.o.at_.blk (by decide) e;have bi:¬B=s.S:=fun e=>ba e.symm;clear f
 go_wp2
 have bf:wrap64 ((r.cnt:Int)+1)=((r.cnt+1:Nat):Int):=by have:=i.o.cnt;unfold wrap64;omega
 have M:(st o).extract (42+plain.length-32) (42+plain.length)=st (nH r.m r.mark kind ep r.op r.cnt plain):=by
  rw[<-MD r.m r.mark kind ep r.op r.cnt plain H.o,q.o,<-be,J_,show o.length-32=10+plain.length by omega]
 rw[bf,M]
 go_ret
 refine⟨bO 0,r.wrote s kind ep plain,?_,rfl,t.o.trans ?_⟩;unfold Sr.writes;rw[aB p.o,aB<|by rw[l.o,k.o];omega,aB<|by rw[U.o];decide,I.o,k.o,q.o,aB<|by rw[V.o];decide];have hw:r.wrote s kind ep plain={{r with d:=(r.d.app (j:Int)<|n++o).mR (j:Int)}with cnt:=r.cnt+1,mark:=nH r.m r.mark kind ep r.op r.cnt plain,sn:=bO {s with last:=(j:Int)}}:=by
  unfold Sr.wrote;rw[I.o,k.o,q.o]
 rw[hw];exact jt.counted t.o.at_ J.o
def jA(k:Lk):List Int->Dk->Bool×Dk
 |[],d=>(bL,d)
 |n::ns,d=>if pJ k n=bL then jA k ns d else if d.stops=bL then(bK,d.lost)else jA k ns (d.rem n)
def mE.del{L:Ym}(h:mE L)(n:Int):mE<|V6 L n:=⟨fun p a=>h.each p<|EM a,xz (RF _ _) h.cnt⟩
def Dk.jE(d:Dk)(n:Int)(D x:Nat):(d.rem n).own D x↔d.own D x:=Dk.dS d D x
def Dk.GD(d:Dk)(n:Int):(d.rem n).M=d.M:=Dk.eB d
def qC(k:Lk)(d:Dk):Bool×Lk×Dk:=((jA k (Xs d.L) d).1,k,(jA k (Xs d.L) d).2)
def Xi(k:Lk)(d:Dk):Bool×Lk×Dk:=
 if k.dD=bL/\0<k.whole then(if d.stops=bL then(bK,k,d.lost)else qC k (d.cut k.last k.whole.toNat))
 else if k.dD=bL then(if d.stops=bL then(bK,k,d.lost)else qC {k with last:=k.last-1} (d.rem k.last))
 else qC k d
def E5(cv:Zv)(b:Nat)(D:Nat)(d0:Dk)(w:Zy)(x:Bool×Lk×Dk)(e:Ending)(w':Zy):Prop:=
 e=(if x.1=bL then .returned (.tuple #[])else eF cv)/\xb (fun y=>y=b\/d0.own D y) w w'/\Xa w' b x.2.1/\Xg w' D x.2.2/\(∀y,x.2.2.own D y->d0.own D y)
structure MJ(w:Zy)(b D:Nat)(d:Dk)(k kk:Lk)(dd:Dk)(ww:Zy):Prop where
 M:Xi k d=qC kk dd
 A:Xg ww D dd
 L:Xa ww b kk
 K:dL D dd
 O:∀y,dd.own D y->d.own D y
 B:xb (fun y=>y=b\/d.own D y) w ww
def xnf{cv:Zv}(b:Nat)(k:Lk)(D:Nat)(d:Dk)(w:Zy)(hl:Xa w b k)(hd:Xg w D d)(hk:dL D d)(cc:d.L.length<1000000)(hG:mJ cv w)(C:¬d.own D b)(cd:b≠0)
  (hw:k.dD=bL->0<=k.whole/\k.whole<=((qu d.L k.last).length:Nat))(cm:-1000000000000<=k.last/\k.last<=1000000000000):
  bE prog 82 #[.pointer<|bO ⟨b,0,bN⟩,.pointer<|bO ⟨D,0,bN⟩] w (E5 cv b D d w<|Xi k d):=by
 have HL:Hid<|Xa w b k:=hl;have HD:Hid<|Xg w D d:=hd;have Q:Hid<|dL D d:=hk;have HG:Hid<|mJ cv w:=hG;have HW:Hid<|k.dD=bL->0<=k.whole/\k.whole<=((qu d.L k.last).length:Nat):=hw;have bh:w.cell? ⟨b,15,bN⟩=bO (.bool k.dD):=hl.cell 15 rfl;have T:w.cell? ⟨b,16,bN⟩=bO (.int .i64 k.whole):=hl.cell 16 rfl;have br:w.cell? ⟨b,12,bN⟩=bO (.int .i64 k.last):=hl.cell 12 rfl;clear hl hd hk hG hw;go_enter func82.1,Tryz.ntmps82;cases htn:k.dD
 focus
  rw[htn]at bh;have Y:Hid<|Xi k d=qC k d:=by show _=_;unfold Xi;rw[aB<|by rw[htn];simp,aB<|by rw[htn];simp]
  have X:Hid<|Xg w D d:=HD.o;have LA:Hid<|Xa w b k:=HL.o;have Z:Hid<|dL D d:=Q.o;have OA:Hid<|∀y,d.own D y->d.own D y:=fun _ h=>h;have W:Hid<|xb (fun y=>y=b\/d.own D y) w w:=xb.refl _ _;clear htn
  go_wp2
  refine kN fun ww hw=>?_;obtain⟨o,s,H⟩:∃o s,MJ w b D d k o s ww:=⟨_,_,Y.o,hw▸X.o,hw▸LA.o,Z.o,OA.o,hw▸W.o⟩;clear hw Y X LA Z OA W
 rotate_left
 focus
  rw[htn]at bh;obtain⟨bz,b0⟩:=HW.o htn;by_cases E:0<k.whole
  focus
   obtain⟨z,bj⟩:∃z:Nat,k.whole=(z:Int):=⟨k.whole.toNat,by omega⟩;have ca:Hid<|k.whole.toNat=z:=by show _=_;omega
   rw[bj]at T;have I:Hid<|d.stops=bK->Xi k d=qC k (d.cut k.last z):=fun a=>by unfold Xi;rw[aA ⟨htn,E⟩,aB<|by rw[a];decide,ca.o]
   have v:Hid<|∀c,xb (d.own D) w c->Xg c D d.lost->d.stops=bL->E5 cv b D d w (Xi k d) (eF cv) c:=fun c h1 h2 h3=>by
    have:Xi k d=(bK,k,d.lost):=by unfold Xi;rw[aA ⟨htn,E⟩,aA h3]
    rw[this];exact⟨rfl,h1.mono fun y m=> .inr m,xx.but HL.o h1 C,h2,fun y m=>Dk.dQ d D y m⟩
   have CU:Hid<|∀w1,Nw w w1->bE prog 138 #[.pointer<|bO ⟨D,0,bN⟩,.int .i64 k.last,.int .i64 (z:Int)] w1 (Yz cv D d (Yx d.L k.last ((qu d.L k.last).take z,((qu d.L k.last).take z).length)) w1):=fun w1 h=>xpq D d _ z w1 (HD.o.but h fun _ _=>id) Q.o (HG.o.but h id) (by omega);have S0:w.cell? ⟨b,12,bN⟩=bO (.int .i64 k.last)/\w.cell? ⟨b,16,bN⟩=bO (.int .i64 (z:Int)):=⟨br,T⟩;have b1:(0:Int)<(z:Int):=by omega
   have bo:Hid<|Xa w b k:=HL.o;have bq:Hid<|∀c,Xa c b k->c.cell? ⟨b,12,bN⟩=bO (.int .i64 k.last)/\c.cell? ⟨b,16,bN⟩=bO (.int .i64 (z:Int)):=fun c J=>⟨J.cell 12 rfl,by rw[<-bj];exact J.cell 16 rfl⟩;clear bj bz b0
   go_wp2
   go_region_held2 (fun w'=>w'.cell? ⟨b,12,bN⟩=bO (.int .i64 k.last)/\w'.cell? ⟨b,16,bN⟩=bO (.int .i64 (z:Int))) (first|exact S0|exact S1)
    ((go_at_call 138;refine(CU.o _ (xb.refl _ _).drew).mono ?_;rintro e c ⟨f,⟨rfl,l,a⟩|⟨rfl,l,a⟩⟩;rotate_left;(exact⟨rfl,v.o _ ((xb.refl _ _).drew.trans f) l a.o⟩);have bd:Hid<|xb (d.own D) w c:=(xb.refl _ _).drew.trans f;have bk:Hid<|Xg c D<|d.cut k.last z:=l;have bg:Hid<|d.stops=bK:=a.o;have J:Xa c b k:=xx.but bo.o bd.o C;have S1:=bq.o c J))
   have Y:Hid<|Xi k d=qC k (d.cut k.last z):=I.o bg.o;have X:Hid<|Xg c D<|d.cut k.last z:=bk.o;have LA:Hid<|Xa c b k:=J;have Z:Hid<|dL D<|d.cut k.last z:=Q.o.step bg.o<|Q.o.files.lay (by unfold i64;omega) (by have h1:=Q.o.files.each.dat k.last;have h5:(Vu d.L k.last).1.length=(qu d.L k.last).length:=rfl;simp only[xt];omega) cc;have OA:Hid<|∀y,(d.cut k.last z).own D y->d.own D y:=fun y m=>(Dk.dS d D y).1 m;have W:Hid<|xb (fun y=>y=b\/d.own D y) w c:=bd.o.mono fun y m=> .inr m;clear v I CU S0 S1 bq J bk bd bg bo b1 E htn br bh T
   try clear hHeld
   go_wp2
   refine kN fun ww hw=>?_;obtain⟨o,s,H⟩:∃o s,MJ w b D d k o s ww:=⟨_,_,Y.o,hw▸X.o,hw▸LA.o,Z.o,OA.o,hw▸W.o⟩;clear hw Y X LA Z OA W
  rotate_left
  focus
   have bc:k.whole=0:=by omega
   rw[bc]at T;have I:Hid<|d.stops=bK->Xi k d=qC {k with last:=k.last-1} (d.rem k.last):=fun a=>by unfold Xi;rw[aB fun x=>E x.2,aA htn,aB<|by rw[a];decide]
   have v:Hid<|∀c,xb (d.own D) w c->Xg c D d.lost->d.stops=bL->E5 cv b D d w (Xi k d) (eF cv) c:=fun c h1 h2 h3=>by
    have:Xi k d=(bK,k,d.lost):=by unfold Xi;rw[aB fun x=>E x.2,aA htn,aA h3]
    rw[this];exact⟨rfl,h1.mono fun y m=> .inr m,xx.but HL.o h1 C,h2,fun y m=>Dk.dQ d D y m⟩
   clear bz b0 E bc htn
   go_wp2
   refine(f_ D d _ _ HD.o Q.o HG.o).mono ?_;rintro e c ⟨f,⟨rfl,l,a⟩|⟨rfl,l,a⟩⟩;rotate_left;exact⟨rfl,v.o _ f l a.o⟩;have J:Xa c b k:=xx.but HL.o f C;have Y:Hid<|Xi k d=qC {k with last:=k.last-1} (d.rem k.last):=I.o a.o;have ci:c.cell? ⟨b,12,bN⟩=bO (.int .i64 k.last):=J.cell 12 rfl;have cj:=J.bT 12;have X:Hid<|Xg (c.setCell ⟨b,12,bN⟩<|.int .i64<|k.last-1) D<|d.rem k.last:=l.but (xb.set c _ _) fun x hx e=>C (by have e:x=b:=e;rw[<-e];exact(Dk.jE d _ D x).1 hx);have LA:Hid<|Xa (c.setCell ⟨b,12,bN⟩<|.int .i64<|k.last-1) b {k with last:=k.last-1}:=xx.set J 12 _;have Z:Hid<|dL D<|d.rem k.last:=Q.o.step a.o<|Q.o.files.del _;have OA:Hid<|∀y,(d.rem k.last).own D y->d.own D y:=fun y m=>(Dk.jE d _ D y).1 m;have W:Hid<|xb (fun y=>y=b\/d.own D y) w<|c.setCell ⟨b,12,bN⟩<|.int .i64<|k.last-1:=(f.mono fun y m=> .inr m).trans<|(xb.set c _ _).mono fun y m=> .inl m;have i1:-9223372036854775808<=k.last-1:=by omega
   have i2:k.last-1<=9223372036854775807:=by omega
   clear f l a J v I
   go_wp2
   refine kN fun ww hw=>?_;obtain⟨o,s,H⟩:∃o s,MJ w b D d k o s ww:=⟨_,_,Y.o,hw▸X.o,hw▸LA.o,Z.o,OA.o,hw▸W.o⟩;clear hw Y X LA Z OA W
 all_goals
  replace H:=zl H;refine(QK D s ww H.o.A H.o.K.files).mono ?_;rintro e w1 ⟨p,g,ch,rfl,hp,hg,bb,U⟩;have HP:Hid<|Xs s.L≠[]->p=bO ⟨g,0,bN⟩:=hp;have HR:Hid<|DK w1 g<|Xs s.L:=bb;have b3:Hid<|xb (fun y=>y=b\/d.own D y) w w1:=H.o.B.trans<|xb.of_below U;have b2:Hid<|Xg w1 D s:=H.o.A.but (xb.of_below U) fun _ _=>id;have cb:Hid<|Xa w1 b o:=xx.below H.o.L U;have bn:Hid<|(Xs s.L).length<=1000000:=by show _<=_;rw[yZ];exact H.o.K.files.cnt
  have bu:¬d.own D g:=fun x=>by have:=Dk.bX HD.o x;have:=H.o.B.size;omega
  have cl:g≠b:=by have:=HL.o.lt;have:=H.o.B.size;omega
  have b6:Hid<|¬d.own D g:=bu;clear hp bb U bu;obtain⟨r,bi⟩:∃r,Xs s.L=r:=⟨_,rfl⟩;have bp:Hid<|Xs s.L=r:=bi;rw[bi]at HP HR bn⊢;clear bi
  go_wp2
  go_loopw [47] (fun i wr=>∃(j:Nat) (q:Dk),j<=r.length/\i= .int .i64 j/\xb (fun y=>y=b\/d.own D y) w wr/\xb (fun y=>d.own D y) w1 wr/\Xa wr b o/\Xg wr D q/\dL D q/\(∀y,q.own D y->d.own D y)/\jA o (r.drop j) q=jA o r s) (fun i _=>(r.length-aJ i).toNat)
  case atStart=>exact⟨0,s,by omega,rfl,b3.o,xb.refl _ _,cb.o,b2.o,H.o.K,H.o.O,rfl⟩
  case round=>
   obtain⟨j,q,hj,rfl,hb,bs,bv,bt,bx,ba,bw⟩:=hrel;have ck:=bn.o;have F:Hid<|xb (fun y=>y=b\/d.own D y) w wr:=hb;have be:Hid<|xb (fun y=>d.own D y) w1 wr:=bs;have G:Hid<|Xa wr b o:=bv;have bf:Hid<|Xg wr D q:=bt;have R:Hid<|dL D q:=bx;have t:Hid<|∀y,q.own D y->d.own D y:=ba;have S:Hid<|jA o (r.drop j) q=jA o r s:=bw;clear hb bs bv bt bx ba bw;by_cases V:j<r.length
   ·have i1:(j:Int)<(r.length:Nat):=by omega
    have i0:(0:Int)<=(j:Int):=by omega
    have cf:=HP.o (fun e=>by rw[e]at V;simp at V);subst cf;have hc:=(HR.o.but be.o b6.o) j V;have bm:Hid (r.drop j=r[j]::r.drop (j+1)):=Vd V;generalize r[j]=n at*
    go_wp2
    refine(zzq b o n _ G.o).mono ?_;rintro e w2 ⟨rfl,cg⟩;obtain rfl:wr=w2:=cg.symm;cases hbl:pJ o n with
    |true=>
     have HN:Hid<|jA o (r.drop<|j+1) q=jA o r s:=by
      show _=_;rw[<-S.o,bm.o];simp only[jA,hbl,if_true]
     clear hbl
     go_wp2
     go_roundw
     case rel=>exact⟨j+1,q,by omega,by go_num,F.o,be.o,G.o,bf.o,R.o,t.o,HN.o⟩
     case measure=>simp[aJ];omega
    |false=>
     have HN:Hid<|jA o (r.drop j) q=if q.stops=bL then(bK,q.lost)else jA o (r.drop<|j+1) (q.rem n):=by
      show _=_;rw[bm.o];simp only[jA,hbl,xu,if_false]
     clear hbl;have GR:Hid<|mJ cv wr:=HG.o.but F.o fun x=>by rcases x with x|x;exact cd x.symm;exact Q.o.zero x
     go_wp2
     refine(f_ D q n _ bf.o R.o GR.o).mono ?_;rintro e c ⟨f,⟨rfl,l,a⟩|⟨rfl,l,a⟩⟩;rotate_left;refine⟨rfl,?_⟩;rw[H.o.M];have hm:jA o r s=(bK,q.lost):=by rw[<-S.o,HN.o,aA a.o]
     unfold qC;rw[bp.o,hm];exact⟨rfl,F.o.trans<|f.mono fun y m=> .inr (t.o y m),xx.but G.o f fun x=>C<|t.o _ x,l,fun y m=>t.o y<|Dk.dQ q D y m⟩;have b4:Hid<|xb (fun y=>y=b\/d.own D y) w c:=F.o.trans<|f.mono fun y m=> .inr (t.o y m);have bl:Hid<|xb (fun y=>d.own D y) w1 c:=be.o.trans<|f.mono fun y m=>t.o y m;have b8:Hid<|Xa c b o:=xx.but G.o f fun x=>C<|t.o _ x;have b5:Hid<|Xg c D<|q.rem n:=l;have b7:Hid<|dL D<|q.rem n:=R.o.step a.o<|R.o.files.del n;have b9:Hid<|jA o (r.drop<|j+1) (q.rem n)=jA o r s:=by show _=_;rw[<-S.o,HN.o,aB<|by rw[a.o];decide]
     clear f l a
     go_wp2
     go_roundw
     case rel=>exact⟨j+1,q.rem n,by omega,by go_num,b4.o,bl.o,b8.o,b5.o,b7.o,fun y m=>t.o y<|(Dk.jE q n D y).1 m,b9.o⟩
     case measure=>simp[aJ];omega
   have ce:j=r.length:=by omega
   subst ce;have HF:Hid<|jA o r s=(bL,q):=by show _=_;rw[<-S.o,List.drop_length];rfl
   go_wp2
   go_end0
   rw[H.o.M];unfold qC;rw[bp.o,HF.o];exact⟨rfl,F.o,G.o,bf.o,t.o⟩
def lX(k v:Zl):Zl:=nb k.length 1++(nb v.length 1++(k++v))
def rA:dM->Zl
 | .put k v=>80::lX k v
 | .del k=>68::(nb k.length 1++k)
def Np(k v:Zl)(hk:k.length<=1000000)(t:v.length<=1000000)(w:Zy):bE prog 146 #[.agg #[zs k,zs v]] w fun e w'=>e= .returned (zs<|lX k v)/\bC w.heap.size w w':=by
 have l1:=qt k.length 1;have x:=qt v.length 1;have W0:Hid<|bC w.heap.size w<|w.alloc<|.cells #[zs k,zs v] 104:=(zr _ _).alloc (ze _) _;have c:Hid<|xx (w.alloc<|.cells #[zs k,zs v] 104) w.heap.size #[zs k,zs v] 104:=xx.new _ _ _;have g:¬9223372036854775807<1+1+k.length:=by omega
 have i:¬9223372036854775807<2+k.length:=by omega
 have j:¬9223372036854775807<1+(1+k.length):=by omega
 have l:¬9223372036854775807<1+1+k.length+v.length:=by omega
 have m:¬9223372036854775807<2+k.length+v.length:=by omega
 have n:¬9223372036854775807<1+(1+k.length)+v.length:=by omega
 have o:¬9223372036854775807<1+(1+(k.length+v.length)):=by omega
 have p:¬9223372036854775807<2+(k.length+v.length):=by omega
 have q:¬9223372036854775807<1+1+(k.length+v.length):=by omega
 go_enter func146.1,Tryz.ntmps146
 go_wp2
 generalize w.alloc (.cells #[zs k,zs v] 104)=W at*;have a:Hid<|∀w1,bC W.heap.size W w1->w1.cell? (zq w.heap.size 0)=bO (zs k)/\w1.cell? (zq w.heap.size 1)=bO (zs v):=fun w1 h=>⟨(c.o.below h).cell 0 rfl,(c.o.below h).cell 1 rfl⟩;have d:=a.o W<|zr _ _;have b:Hid<|bC W.heap.size W W.drew:=(zr _ _).drew
 go_region_held3 (fun w'=>w'.cell? (zq w.heap.size 0)=bO (zs k)/\w'.cell? (zq w.heap.size 1)=bO (zs v)) (first|exact d|exact f)
  ((go_at_call 148;refine(LV _ _).mono ?_;rintro e w1 ⟨rfl,s⟩;replace b:=zl<|Yg b.o s;have f:=a.o _ b.o))
 have r:=zl<|W0.o.trans<|b.o.mono W0.o.size;clear d a b c W0;clear f
 try clear hHeld
 go_wp2
 go_ret
 exact⟨by simp only[lX,Zq];rfl,r.o⟩
def tG(k v:Zl)(hk:k.length<=1000000)(c:v.length<=1000000)(w:Zy):bE prog 334 #[.agg #[.string<|st k,.string<|st v]] w fun e w'=>e= .returned (.string<|st (80::lX k v))/\bC w.heap.size w w':=by
 have b:Hid<|(⟨#[80]⟩:ByteArray)++st (lX k v)=st (80::lX k v):=by show _=_;rw[show(⟨#[80]⟩:ByteArray)=st [80]from rfl,zv];rfl
 have d:(lX k v).length<=2000002:=by simp[lX,qt];omega
 go_enter func334.1,Tryz.ntmps334
 go_wp2
 refine(Np k v hk c _).mono ?_;rintro e w1 ⟨rfl,a⟩
 go_wp2
 go_ret
 exact⟨by rw[<-b.o];rfl,((zr _ _).alloc (ze _) _).trans<|a.mono<|by simp⟩
def zz1(k:Zl)(hk:k.length<=1000000)(w:Zy):bE prog 335 #[.agg #[.string<|st k]] w fun e w'=>e= .returned (.string<|st (68::(nb k.length 1++k)))/\bC w.heap.size w w':=by
 have l1:=qt k.length 1;have l:Hid<|((⟨#[68]⟩:ByteArray)++st (nb k.length 1))++st k=st (68::(nb k.length 1++k)):=by show _=_;rw[show(⟨#[68]⟩:ByteArray)=st [68]from rfl,zv,zv];rfl
 have W0:Hid<|bC w.heap.size w<|w.alloc<|.cells #[.string<|st k] 106:=(zr _ _).alloc (ze _) _;have c:Hid<|xx (w.alloc<|.cells #[.string<|st k] 106) w.heap.size #[.string<|st k] 106:=xx.new _ _ _;have g:¬9223372036854775807<1+1+k.length:=by omega
 have i:¬9223372036854775807<2+k.length:=by omega
 have j:¬9223372036854775807<1+(1+k.length):=by omega
 go_enter func335.1,Tryz.ntmps335
 go_wp2
 generalize w.alloc (.cells #[.string<|st k] 106)=W at*;have a:Hid<|∀w1,bC W.heap.size W w1->w1.cell? ⟨w.heap.size,0,bN⟩=bO (.string<|st k):=fun w1 h=>(c.o.below h).cell 0 rfl;have d:=a.o W<|zr _ _;have b:Hid<|bC W.heap.size W W.drew:=(zr _ _).drew
 go_region_held3 (fun w'=>w'.cell? ⟨w.heap.size,0,bN⟩=bO (.string<|st k)) (first|exact d|exact f)
  ((go_at_call 148;refine(LV _ _).mono ?_;rintro e w1 ⟨rfl,n⟩;replace b:=zl<|Yg b.o n;have f:=a.o _ b.o))
 have m:=zl<|W0.o.trans<|b.o.mono W0.o.size;clear d a b c W0;clear f
 try clear hHeld
 go_wp2
 go_ret
 exact⟨by rw[<-l.o];rfl,m.o⟩
structure Mf where
 ep:Nat
 op:Nat
 cnt:Nat
 bP:Nat
 base:Nat
 file:Nat
 len:Nat
 root:Zl
 last:Zl
def Mf.cells(m:Mf):Za:=#[.int .i64 (m.ep:Int),.int .i64 (m.op:Int),.int .i64 (m.cnt:Int),.int .i64 (m.bP:Int),.int .i64 (m.base:Int),.int .i64 (m.file:Int),.int .i64 (m.len:Int),.string<|st m.root,.string<|st m.last]
def Mf.V(m:Mf):Zv:= .agg m.cells
def Mf.fH(m:Mf)(i:Nat):Zl:=67::(nb m.ep 1++(nb m.op 2++(nb m.bP 2++nb i 2)))
abbrev MC(b:Nat)(m:Mf)(rt:Zl)(w:Zy):Prop:=w.cell? (zq b 0)=bO (zi m.ep)/\w.cell? (zq b 1)=bO (zi m.op)/\w.cell? (zq b 2)=bO (zi m.cnt)/\w.cell? (zq b 3)=bO (zi m.bP)/\w.cell? (zq b 4)=bO (zi m.base)/\w.cell? (zq b 5)=bO (zi m.file)/\w.cell? (zq b 6)=bO (zi m.len)/\w.cell? (zq b 7)=bO (zs rt)/\w.cell? (zq b 8)=bO (zs m.last)
def xx.mc{w:Zy}{b:Nat}{m:Mf}{a:Zl}(h:xx w b #[zi m.ep,zi m.op,zi m.cnt,zi m.bP,zi m.base,zi m.file,zi m.len,zs a,zs m.last] 164):MC b m a w:=⟨h.cell 0 rfl,h.cell 1 rfl,h.cell 2 rfl,h.cell 3 rfl,h.cell 4 rfl,h.cell 5 rfl,h.cell 6 rfl,h.cell 7 rfl,h.cell 8 rfl⟩
def I2(m:Mf)(i:Nat)(w:Zy):bE prog 151 #[m.V,.int .i64 (i:Int)] w fun e w'=>e= .returned (.string<|st<|m.fH i)/\bC w.heap.size w w':=by
 have l1:=qt m.ep 1;have l:=qt m.op 2;have n:=qt m.bP 2;have o:=qt i 2;have j:Hid<|(⟨#[67]⟩:ByteArray)++st (nb m.ep 1)++st (nb m.op 2)++st (nb m.bP 2)++st (nb i 2)=st (m.fH i):=by show _=_;rw[show(⟨#[67]⟩:ByteArray)=st [67]from rfl];simp only[zv];simp[Mf.fH]
 have W0:Hid<|bC w.heap.size w<|w.alloc<|.cells m.cells 164:=(zr _ _).alloc (ze _) _;have c:Hid<|xx (w.alloc<|.cells m.cells 164) w.heap.size m.cells 164:=xx.new _ _ _;unfold Mf.V;unfold Mf.cells at*;go_enter func151.1,Tryz.ntmps151
 go_wp2
 generalize w.alloc (.cells _ 164)=W at*;have a:Hid<|∀w1,bC W.heap.size W w1->w1.cell? ⟨w.heap.size,0,bN⟩=bO (.int .i64 (m.ep:Int))/\w1.cell? ⟨w.heap.size,1,bN⟩=bO (.int .i64 (m.op:Int))/\w1.cell? ⟨w.heap.size,3,bN⟩=bO (.int .i64 (m.bP:Int)):=fun w1 h=>⟨(c.o.below h).cell 0 rfl,(c.o.below h).cell 1 rfl,(c.o.below h).cell 3 rfl⟩;have g:=a.o W<|zr _ _;have b:Hid<|bC W.heap.size W W.drew:=(zr _ _).drew
 go_region_held3 (fun w'=>w'.cell? ⟨w.heap.size,0,bN⟩=bO (.int .i64 (m.ep:Int))/\w'.cell? ⟨w.heap.size,1,bN⟩=bO (.int .i64 (m.op:Int))/\w'.cell? ⟨w.heap.size,3,bN⟩=bO (.int .i64 (m.bP:Int))) (first|exact g|exact d)
  (first
   |(go_at_call 148;refine(LV _ _).mono ?_;rintro e w1 ⟨rfl,f⟩;replace b:=zl<|Yg b.o f;have d:=a.o _ b.o)
   |(go_at_call 157;refine(RV _ _).mono ?_;rintro e w1 ⟨rfl,f⟩;replace b:=zl<|Yg b.o f;have d:=a.o _ b.o))
 have k:=zl<|W0.o.trans<|b.o.mono W0.o.size;clear g a b c W0;clear d
 try clear hHeld
 go_wp2
 go_ret
 exact⟨by rw[<-j.o];rfl,k.o⟩
def Ye(n:Int):Nat:=if n=10001 then 10002 else 10001
def Ha(n:Int)(w:Zy):bE prog 149 #[zi n] w fun e w'=>e= .returned (zi<|Ye n)/\w'=w:=by
 have a:Hid<|Ye n=if n=10001 then 10002 else 10001:=rfl;go_enter func149.1,Tryz.ntmps149;by_cases h:n=10001
 ·subst h
  go_wp2
  go_ret
  exact⟨by rw[a.o];rfl,rfl⟩
 go_wp2
 go_ret
 exact⟨by rw[a.o,aB h];rfl,rfl⟩
end
end P
namespace A
open Tryq Go Go.RowKit Go.Shelf
def iT{P:Zp}{i:Nat}{f g:Func}(h:P.funcs[i]?=bO f)(e:f=g):P.funcs[i]?=bO g:=e▸h
def Tryq.func220:prog.funcs[220]?=bO Tryz.f220:=MK (by decide) Tryz.func220
def Tryq.func275:prog.funcs[275]?=bO Tryz.f275:=MK (by decide) Tryz.func275
def Tryq.eG:Ren:={f:=fun x=>match x with|105=>129|212=>196|99=>197|165=>156|166=>145|170=>198|169=>147|263=>236|264=>237|206=>238|240=>220|241=>221|276=>275|277=>276|156=>96|n=>n,t:=fun x=>match x with|9=>9|3=>3|4=>4|20=>20|0=>0|46=>108|109=>266|5=>5|72=>223|76=>224|51=>232|146=>305|53=>255|148=>307|70=>221|37=>100|75=>212|127=>295|164=>327|80=>129|31=>51|n=>n,g:=fun x=>x}
def Tryq.wG:Lays.n105 prog eG:=by
 constructor
 case mixed=>kernel_rfl
 case f99=>exact iT func197.1<|by kernel_rfl
 case f105=>exact iT func129.1<|by kernel_rfl
 case f165=>exact iT func156.1<|by kernel_rfl
 case f166=>exact iT func145.1<|by kernel_rfl
 case f169=>exact iT func147.1<|by kernel_rfl
 case f170=>exact iT func198.1<|by kernel_rfl
 case f206=>exact iT func238.1<|by kernel_rfl
 case f212=>exact iT func196.1<|by kernel_rfl
 case f240=>exact iT func220<|by kernel_rfl
 case f241=>exact iT func221.1<|by kernel_rfl
 case f263=>exact iT func236.1<|by kernel_rfl
 case f264=>exact iT func237.1<|by kernel_rfl
 case f276=>exact iT func275<|by kernel_rfl
 case f277=>exact iT func276<|by kernel_rfl
 all_goals (intros;simp[eG])
def Tryq.mV:Lays.n156 prog eG:=by
 constructor
 case mixed=>kernel_rfl
 case f156=>exact iT func96.1<|by kernel_rfl
 case f165=>exact iT func156.1<|by kernel_rfl
 case f166=>exact iT func145.1<|by kernel_rfl
 case f169=>exact iT func147.1<|by kernel_rfl
 case f240=>exact iT func220<|by kernel_rfl
 case f241=>exact iT func221.1<|by kernel_rfl
 case f276=>exact iT func275<|by kernel_rfl
 case f277=>exact iT func276<|by kernel_rfl
 all_goals (intros;simp[eG])
def Tryq.qA:Lays.n166 prog eG:=by
 constructor
 case mixed=>kernel_rfl
 case f166=>exact iT func145.1<|by kernel_rfl
 case f240=>exact iT func220<|by kernel_rfl
 case f276=>exact iT func275<|by kernel_rfl
 all_goals (intros;simp[eG])
def Tryq.pY:Lays.n169 prog eG:=by
 constructor
 case mixed=>kernel_rfl
 case f169=>exact iT func147.1<|by kernel_rfl
 all_goals (intros;simp[eG])
def Tryq.dW:Builder.Extra prog eG where
 sizeBuilder:=by kernel_rfl
 liesBuilder:=by kernel_rfl
 t5:=(cK 5).trans Tryz.underlying5
 a5:=fun w=>(wE 5 w).trans<|Tryz.isAgg5 w
 z5:=fun w=>(uM 5 w).trans<|Tryz.sizeOf5 w
 v5:=fun w=>(zT 5 w).trans<|Tryz.zeroValue5 w
 infoByte:=by kernel_rfl
 cellsByte:=by kernel_rfl
 sizeByte:=by kernel_rfl
 neB5:=by decide
end A
namespace P
open A.Tryq
section
open Go.RowKit
attribute [local go_sem] xe zv
def oV:Zl:=aM 32 0
def AT(w:Zy):bE prog 129 #[.string ⟨#[0]⟩,zi 32] w fun e w'=>e= .returned (zs oV)/\bC w.heap.size w w':=
 (Any.strings_Repeat wG dW ⟨#[0]⟩ 32 w (by decide)<|by decide).mono fun e w' ⟨a,b⟩=>⟨a.trans<|by rw[show Lib.repeatL (⟨#[0]⟩:ByteArray).data.toList 32=oV from by decide];rfl,b⟩
def aE(w:Zy):bE prog 73 #[] w fun e w'=>e= .returned (zs oV)/\bC w.heap.size w w':=by
 go_enter func73.1,Tryz.ntmps73
 go_wp2
 refine(AT _).mono ?_;rintro e w1 ⟨rfl,a⟩
 go_wp2
 go_ret
 exact⟨rfl,a⟩
def rX(B b:Nat)(l:Zl)(w:Zy):Prop:=Lib.IsBuilder 223 5 B b (Lib.byteCells l) w
def rX.new(w:Zy):rX w.heap.size w.heap.size []<|w.alloc<|.cells #[.pointer bN,.slice bN 0 0] 223:=Lib.fresh_isBuilder _ _ _
def Ko{B b d:Nat}{p:Zv}{bs:Ze}{w w':Zy}(h:Lib.BuilderAt 223 5 B b p bs w)(k:bC d w w')(j:w.heap.size<=d):Lib.BuilderAt 223 5 B b p bs w':=by
 obtain⟨o,v,f,i,q⟩:=h;refine⟨o,v,?_,?_,q⟩;exact(k.block b<|zn (za.1 f).1 j).trans f;refine⟨i.1,i.2.imp id ?_⟩;rintro⟨g,a,c,l,m,e,n⟩;exact⟨g,a,c,l,m,(k.block g<|zn (za.1 e).1 j).trans e,n⟩
def rX.below{B b a:Nat}{l:Zl}{w w':Zy}(h:rX B b l w)(d:bC a w w')(c:w.heap.size<=a):rX B b l w':=
 h.imp (fun h=>Ko h d c) fun h=>Ko h d c
def Kl(a b:Zl):Lib.byteCells (a++b)=Lib.byteCells a++Lib.byteCells b:=by simp[Lib.byteCells]
def Kq(B b:Nat)(l s:Zl)(w:Zy)(h:rX B b l w)(a:l.length+s.length<=140737488355328)(c:B<=w.heap.size):
  bE prog 145 #[zo b,zs s] w fun e w'=>e= .returned (.tuple #[zi s.length,.nilIface])/\rX B b (l++s) w'/\bC B w w':=
 (Any.Builder_WriteString qA dW B b (Lib.byteCells l) (st s) w h (by simpa[Lib.byteCells,xe]using a) c).mono fun e w' ⟨d,f,g⟩=>⟨d.trans<|by rw[xe],.inr<|by rw[Kl];exact f,g⟩
def BY(B b:Nat)(l:Zl)(w:Zy)(h:rX B b l w)(a:B<=w.heap.size):
  bE prog 147 #[zo b] w fun e w'=>e= .returned (zs l)/\bC B w w':=
 Any.Builder_String_any pY dW B b l w h a
def mF:dM->Prop
 | .put k v=>k≠[]/\k.length<=16/\v.length<=32
 | .del k=>k≠[]/\k.length<=16
def Xt(D:List dM):Zl:=D.flatMap rA
def H8{c:dM}(h:mF c):(rA c).length<=51:=by
 cases c with
 |put k v=>simp[rA,lX,qt];have:=h.2.1;have:=h.2.2;omega
 |del k=>simp[rA,qt];have:=h.2;omega
def IQ:∀{D:List dM},(∀c∈D,mF c)->(Xt D).length<=51*D.length
 |[],_=>by simp[Xt]
 |c::D,h=>by
  have b:=H8 (h c<|by simp);have d:=IQ fun x a=>h x<|xj _ a;simp only[Xt,PT,zj,zh]at*;omega
def zx4(D:List dM)(c:dM):Xt (D++[c])=Xt D++rA c:=by simp[Xt]
def Wb{w:Zy}{a:Addr}{v:Zv}(h:w.cell? a=bO v):a.block<w.heap.size:=by
 unfold aQ at h;cases hq:w.heap[a.block]?with
 |none=>rw[hq]at h;cases h
 |some o=>exact(za.1 hq).1
def xrm(x:Zv)(w:Zy):(method 513 104 x "coffer/coffer.plainText").run prog w= .ok (334,x) w:=by kernel_rfl
def xrn(x:Zv)(w:Zy):(method 513 106 x "coffer/coffer.plainText").run prog w= .ok (335,x) w:=by kernel_rfl
def zuw(g cap:Nat)(D:List dM)(V:D.length<=1000000)(E:∀c∈D,mF c)(w:Zy)(j:uU w g D):
  bE prog 101 #[.slice (bO ⟨g,0,bN⟩) D.length cap] w fun e w'=>e= .returned (.string<|st<|Xt D)/\bC w.heap.size w w':=by
 have L:Hid<|uU w g D/\(D≠[]->g<w.heap.size):=⟨j,fun h=>by
  have:=j 0<|qb.2 h;exact Wb this⟩
 have K:=zl E;have Q:=zl<|rX.new w;have W0:Hid<|bC w.heap.size w<|w.alloc<|.cells #[.pointer bN,.slice bN 0 0] 223:=(zr _ _).alloc (ze _) _;clear j E;go_enter func101.1,Tryz.ntmps101
 go_wp2
 generalize w.alloc (.cells #[.pointer bN,.slice bN 0 0] 223)=W at*
 go_loopw [8] (fun i wr=>∃k:Nat,k<=D.length/\i= .int .i64 k/\rX w.heap.size w.heap.size (Xt<|D.take k) wr/\bC w.heap.size w wr) (fun i _=>(D.length-aJ i).toNat)
 case atStart=>exact⟨0,by omega,rfl,Q.o,W0.o⟩
 case round=>
  obtain⟨k,hk,rfl,F,z⟩:=hrel;by_cases f:k<D.length
  ·have T:(k:Int)<(D.length:Nat):=by omega
   have X:(0:Int)<=(k:Int):=by omega
   have O:=L.o.2 (by intro e;rw[e]at f;cases f);have B:=(z.cell (p:=⟨g,k,bN⟩) O).trans<|L.o.1 k f;have b:=K.o D[k]<|Zn f;have I:Hid<|Xt (D.take<|k+1)=Xt (D.take k)++rA D[k]:=by show _=_;rw[xy f,zx4]
   have J:Hid<|(Xt<|D.take k).length<=51*k:=by
    have:=IQ (D:=D.take k) fun x S=>K.o x<|List.mem_of_mem_take S;rw[xt,Vg hk]at this;exact this
   have m:=zl z;have G:=zl F;obtain⟨c,C⟩:∃c,D[k]=c:=⟨_,rfl⟩;rw[C]at B I b;clear C z F O;generalize Xt (D.take k)=l1 at*;cases c with
   |put ky v=>
    have l:Hid<|ky≠[]/\ky.length<=16/\v.length<=32:=b;have s:wr.cell? ⟨g,k,bN⟩=bO (.iface 104<|.agg #[.string<|st ky,.string<|st v]):=B;have r:=xrm (.agg #[.string<|st ky,.string<|st v]) wr;have o:=zl<|H8 (c:= .put ky v) b;clear B b
    go_wp2
    refine(tG ky v (by have:=l.o;omega) (by have:=l.o;omega) _).mono ?_;rintro e w1 ⟨rfl,a⟩;have n:=zl<|Yg m.o a;have t:=zl<|G.o.below a<|ze _;clear a m G r s
    go_wp2
    refine(Kq w.heap.size w.heap.size l1 (rA<|.put ky v) _ t.o (by have:=J.o;have:=o.o;omega) n.o.size).mono ?_;rintro e U ⟨rfl,y,d⟩;have q:=zl y;have H:=zl<|n.o.trans d;clear y d n t
    go_wp2
    go_roundw
    case rel=>exact⟨k+1,by omega,by go_num,by rw[I.o];exact q.o,H.o⟩
    case measure=>simp[aJ];omega
   |del ky=>
    have l:Hid<|ky≠[]/\ky.length<=16:=b;have s:wr.cell? ⟨g,k,bN⟩=bO (.iface 106<|.agg #[.string<|st ky]):=B;have r:=xrn (.agg #[.string<|st ky]) wr;have o:=zl<|H8 (c:= .del ky) b;clear B b
    go_wp2
    refine(zz1 ky (by have:=l.o;omega) _).mono ?_;rintro e w1 ⟨rfl,a⟩;have n:=zl<|Yg m.o a;have t:=zl<|G.o.below a<|ze _;clear a m G r s
    go_wp2
    refine(Kq w.heap.size w.heap.size l1 (rA<|.del ky) _ t.o (by have:=J.o;have:=o.o;omega) n.o.size).mono ?_;rintro e U ⟨rfl,y,d⟩;have q:=zl y;have H:=zl<|n.o.trans d;clear y d n t
    go_wp2
    go_roundw
    case rel=>exact⟨k+1,by omega,by go_num,by rw[I.o];exact q.o,H.o⟩
    case measure=>simp[aJ];omega
  obtain rfl:k=D.length:=by omega
  have T:¬(D.length:Int)<(D.length:Nat):=by omega
  rw[Yw]at F;have M:=zl F;have m:=zl z;clear F z
  go_wp2
  refine(BY w.heap.size w.heap.size (Xt D) _ M.o m.o.size).mono ?_;rintro e w1 ⟨rfl,a⟩;have R:=zl<|m.o.trans a;clear a M m
  go_wp2
  go_ret
  exact⟨rfl,R.o⟩
end
section
open Go.RowKit
def l_:∀(l:Zl) (n:Nat),l.foldl (fun n b=>n*256+b.toNat) n=n*256^l.length+Zk l
 |[],n=>by simp[Zk]
 |a::l,n=>by
  have e:Zk (a::l)=(0*256+a.toNat)*256^l.length+Zk l:=by
   show(a::l).foldl _ 0=_;rw[J4,l_ l<|0*256+a.toNat]
  rw[J4,l_ l<|n*256+a.toNat,e,zh,DR];generalize 256^l.length=H;rw[Nat.add_mul,Nat.zero_mul,jy,Nat.mul_assoc,Nat.mul_comm 256 H,Ja]
def ZS(a:Z8)(l:Zl):Zk (a::l)=a.toNat*256^l.length+Zk l:=by
 show(a::l).foldl _ 0=_;rw[J4,l_];simp
def Dn(n:Nat):∀k,Zk (nb n k)=n%256^k
 |0=>by simp[nb,Zk,Nat.mod_one]
 |k+1=>by
  have e:(bq<|n/256^k).toNat=n/256^k%256:=by simp[bq]
  rw[nb,ZS,qt,Dn n k,e,DR,Nat.mod_mul,Nat.mul_comm,zW]
def wQ{n k:Nat}(h:n<256^k):Zk (nb n k)=n:=by rw[Dn,PZ h]
def Ra(k a x:Zl):iK k a (iK k a x)=x:=by
 have c:(iK k a x).length=x.length:=yJ k a x;rw[iK,c];refine Eq.trans ?_<|xt4 x _ rfl;unfold kl;apply List.map_congr_left;intro i b;have b:i<x.length:=by simpa using b
 have e:(iK k a x).getD i 0=x.getD i 0^^^wD (fun j=>k.getD j 0) a i:=by
  unfold iK;exact xm3 _ _ _ b
 rw[e,UInt8.xor_assoc,UInt8.xor_self,UInt8.xor_zero]
def TS{n:Nat}(h:n<256):(bq n).toNat=n:=by simp[bq];omega
def Nn{k v:Zl}(hk:k≠[])(a:k.length<=16)(f:v.length<=32)(r:Zl):jS (lX k v++r)=bO ((k,v),r):=by
 have b:0<k.length:=qb.2 hk;have c:Zk [bq k.length]=k.length:=by rw[RJ,TS<|by omega]
 have d:Zk [bq v.length]=v.length:=by rw[RJ,TS<|by omega]
 have e:lX k v++r=bq k.length::bq v.length::(k++(v++r)):=by simp[lX,nb]
 rw[e];unfold jS;simp only[zh,PO,List.take_zero,Yn,W8,c,d];rw[aA<|by omega,aA ⟨⟨b,a,by simp⟩,by simp,f⟩];simp
def H3{c:dM}(h:mF c)(r:Zl):kP (rA c++r)=bO (c,r):=by
 cases c with
 |put k v=>simp only[rA,jc,kP,if_true];rw[Nn h.1 h.2.1 h.2.2]
 |del k=>
  have b:0<k.length:=qb.2 h.1;have a:k.length<=16:=h.2;have d:(bq k.length).toNat=k.length:=TS (by omega);simp only[rA,xrp,jc,jk,kP];rw[aB<|by decide,aA trivial,d,aA ⟨b,a,by simp⟩];simp
def Ng:∀{D:List dM},(∀c∈D,mF c)->jZ (Xt D).length (Xt D)=bO D
 |[],_=>rfl
 |c::D,h=>by
  have g:=Ng fun x f=>h x<|xj _ f;have d:=H3 (h c<|by simp)<|Xt D;have e:Xt (c::D)=rA c++Xt D:=by simp[Xt]
  obtain⟨a,l,b⟩:∃a l,rA c=a::l:=by cases c<;>exact⟨_,_,rfl⟩
  rw[e];rw[b,jc]at d⊢;rw[Qg d,g];rfl
def zt1{D:List dM}(h:∀c∈D,mF c)(b:1<=D.length)(a:D.length<=20):nZ (Xt D)=bO D:=by
 unfold nZ;rw[Ng h];simp only;rw[aA ⟨b,a⟩]
def KC(c:Z8)(ep op cnt n:Nat):Wv [c] ep op cnt n=[c,bq ep,bq<|op/256,bq op]++(nb (cnt+1) 4++nb n 2):=by simp[Wv,nb]
def JG(c:Z8)(ep op cnt n:Nat):(Wv [c] ep op cnt n).length=10:=by rw[KC];simp[qt]
section
variable {c:UInt8} {ep op cnt n:Nat} {y:List UInt8}
def zw6:(Wv [c] ep op cnt n++y).take 10=Wv [c] ep op cnt n:=by
 rw[<-JG c ep op cnt n];exact List.take_left
def zw5:(Wv [c] ep op cnt n++y).drop 10=y:=by
 rw[<-JG c ep op cnt n];exact List.drop_left
def NX:(Wv [c] ep op cnt n++y).take 1=[c]:=by rw[KC];simp
def xmz(h:ep<256):Zk (((Wv [c] ep op cnt n++y).drop 1).take 1)=ep:=by
 rw[KC];simp only[jc,Yn,W8,PO,List.take_zero];rw[RJ,TS h]
def S6(h:cnt+1<4294967296):Zk (((Wv [c] ep op cnt n++y).drop 4).take 4)=cnt+1:=by
 have e:((Wv [c] ep op cnt n++y).drop 4).take 4=nb (cnt+1) 4:=by
  rw[KC];simp only[jc,jk,Yn,W8,Zq];exact Zd<|qt _ _
 rw[e,wQ<|by omega]
def n_(h:n<65536):eT (Wv [c] ep op cnt n++y)=n:=by
 have e:((Wv [c] ep op cnt n++y).drop 8).take 2=nb n 2:=by
  rw[KC,show(8:Nat)=4+4 from rfl,<-Vx];simp only[jc,jk,Yn,W8,Zq];rw[Z6<|qt _ _];exact Zd<|qt _ _
 unfold eT;rw[e,wQ<|by omega]
end
section
variable {m mark:List UInt8} {c:UInt8} {ep op cnt:Nat} {plain y:List UInt8}
def ZU:Y5 m mark [c] ep op cnt plain++y=Wv [c] ep op cnt plain.length++(qE m [c] ep op cnt plain++(nH m mark [c] ep op cnt plain++y)):=by simp[Y5]
def JD:(qE m [c] ep op cnt plain).length=plain.length:=yJ _ _ _
def p_:(nH m mark [c] ep op cnt plain).length=32:=wP _ _
def Ix(h:plain.length<65536):X7 (Y5 m mark [c] ep op cnt plain++y)=bL:=by
 rw[ZU];unfold X7;rw[n_ h];have:=JG c ep op cnt plain.length;have:=@JD m c ep op cnt plain;have:=@p_ m mark c ep op cnt plain;simp only[zj,X9];omega
def MT(h:plain.length<65536):(Y5 m mark [c] ep op cnt plain++y).drop (42+eT (Y5 m mark [c] ep op cnt plain++y))=y:=by
 have e:eT (Y5 m mark [c] ep op cnt plain++y)=plain.length:=by rw[ZU,n_ h]
 rw[e,<-QT m mark [c] ep op cnt plain rfl];exact List.drop_left
def xn8{k:Lk}{L:KV}(h:plain.length<65536)(b:ep<256)(a:cnt+1<4294967296):
  lY k L (Y5 m mark [c] ep op cnt plain++y)=jJ k L [c] ep (cnt+1) (Wv [c] ep op cnt plain.length) (qE m [c] ep op cnt plain) (nH m mark [c] ep op cnt plain):=by
 rw[ZU];unfold lY;rw[NX,xmz b,S6 a,n_ h,zw6,<-Vx,zw5];rw[Zd JD,Z6 JD,Zd p_]
end
def tR{k:Lk}{L:KV}{op:Nat}{D:List dM}(b:∀c∈D,mF c)(d:1<=D.length)(a:D.length<=20)(f:k.tag.length=32):
  jJ k L [82] k.ep (k.cnt+1) (Wv [82] k.ep op k.cnt (Xt D).length) (qE k.m [82] k.ep op k.cnt<|Xt D) (nH k.m k.tag [82] k.ep op k.cnt<|Xt D)=bO ({k with cnt:=k.cnt+1,ahead:=k.tag,tag:=nH k.m k.tag [82] k.ep op k.cnt<|Xt D},cO L D):=by
 have e:=IQ b;unfold jJ;rw[aB<|by simp,aA rfl,aA rfl];refine zu2 rfl ?_ rfl ?_;have:=JG 82 k.ep op k.cnt (Xt D).length;have:=@JD k.m 82 k.ep op k.cnt<|Xt D;simp only[zj];omega;unfold qE;rw[Ra];exact zt1 b d a
def tS{k:Lk}{L:KV}{op:Nat}(b:k.ep+1<=5)(c:k.tag.length=32):
  jJ k L [75] (k.ep+1) (k.cnt+1) (Wv [75] (k.ep+1) op k.cnt 0) (qE k.m [75] (k.ep+1) op k.cnt []) (nH k.m k.tag [75] (k.ep+1) op k.cnt [])=bO ({k with ep:=k.ep+1,cnt:=k.cnt+1,ahead:=k.tag,tag:=nH k.m k.tag [75] (k.ep+1) op k.cnt []},L):=by
 have a:qE k.m [75] (k.ep+1) op k.cnt []=[]:=xa<|JD.trans rfl;unfold jJ;rw[aB<|by simp,aB<|by decide,aA rfl,aA ⟨rfl,b,a⟩];refine TT rfl ?_ rfl;have:=JG 75 (k.ep+1) op k.cnt 0;simp only[zj,a,jn,c];omega
def vfd{k:Lk}{L:KV}{x:Zl}(hx:X7 x=bL)(y:Zl):eT (x++y)=eT x/\X7 (x++y)=bL/\lY k L (x++y)=lY k L x:=by
 have b:=Wa hx;have t:∀i j,i+j<=x.length->((x++y).drop i).take j=(x.drop i).take j:=fun i j c=>by
  rw[Yj<|by omega,X8<|by rw[jb];omega]
 have a:eT (x++y)=eT x:=by
  unfold eT;rw[t 8 2<|by omega]
 refine⟨a,?_,?_⟩;simp only[X7,X9,a,zj];omega;unfold lY;rw[a,X8<|by omega,t 1 1<|by omega,t 4 4<|by omega,X8<|by omega,t 10 _<|by omega,t _ 32<|by omega]
def Ns:∀(n:Nat) {k k':Lk} {L L':KV} {x:Zl} (y:Zl),x.length<=n->recs k L x=bO (k',L',[])->recs k L (x++y)=recs k' L' y
 |n,k,k',L,L',x,y,hn,h=>by
  by_cases b:X7 x=bL;have f:=Wa b;obtain⟨a,e,c⟩:=vfd (k:=k) (L:=L) b y;cases hr:lY k L x with
  |none=>rw[JJ b hr]at h;cases h
  |some p=>
   obtain⟨i,g⟩:=p;rw[zX b hr]at h;rw[zX e<|c.trans hr,a,Yj<|by omega]
   match n,hn with
   |0,hn=>omega
   |n+1,hn=>exact Ns n y (by rw[jb];omega) h
  have d:X7 x=bK:=by simpa using b
  rw[KH d]at h;cases h;rfl
def Sb{k k':Lk}{L L':KV}{c:Z8}{ep op:Nat}{plain:Zl}(a:plain.length<65536)(g:ep<256)(f:k.cnt+1<4294967296)
  (h:jJ k L [c] ep (k.cnt+1) (Wv [c] ep op k.cnt plain.length) (qE k.m [c] ep op k.cnt plain) (nH k.m k.tag [c] ep op k.cnt plain)=bO (k',L')):recs k L (Y5 k.m k.tag [c] ep op k.cnt plain)=bO (k',L',[]):=by
 have b:=@Ix k.m k.tag c ep op k.cnt plain [] a;have d:=(@xn8 k.m k.tag c ep op k.cnt plain [] k L a g f).trans h;have e:=@MT k.m k.tag c ep op k.cnt plain [] a;rw[Xq]at b d e;rw[zX b d,e];rfl
end
section
open Go.RowKit
attribute [local go_sem] xe zv
section
variable {w w':Zy} {xs:List Zl} {L:KV} {B:Nat}
section
variable {P:Program} {w:World} {t kt et:TypeId} {m:Nat} {L:KV}
def Iv(n:P.underlying t=bO (.map kt et))(hk:P.underlying kt=bO .string)(q:∀w,(zeroValue et).run P w= .ok (kF []) w)(h:Xd w m L)(k:Zl):
  (Instr.lookup t (.map<|bO m) (zs k) bK).run P w= .ok (kF<|(Zh L k).getD []) w:=by
 obtain⟨f,d,p,o,a⟩:=h;have l:=Jv (P:=P) p;have i:=QN hk (st k) 9999;rcases JY k L f.toList 0 o with⟨b,c,_,_⟩|⟨j,v,e,b,c,_,_,_,_⟩
 have g:(aT kt (zs k) f.toList).run P w= .ok bN w:=by simp[aT,xm hk,aY,c]
 simp[Instr.lookup,xm n,aY,l,i,g,q,b];have g:(aT kt (zs k) f.toList).run P w= .ok (bO (0+j,kF v)) w:=by simp[aT,xm hk,aY,c]
 simp[Instr.lookup,xm n,aY,l,i,g,b]
end
def qO(L:KV)(k:Zl):Zl:=lX k<|(Zh L k).getD []
def Vf(L:KV):Zl:=(Vp L).flatMap<|qO L
def jM(L:KV):Prop:=∀p∈L,p.1≠[]/\p.1.length<=16/\p.2.length<=32
def o8(L:KV):(Vp L).length=L.length:=by
 rw[Vp,(Xw _ _).length_eq,Zb]
def JH{k:Zl}:k∈Vp L↔k∈L.map (·.1):=(Xw _ _).mem_iff
def Te:∀{L:KV} {k v:Zl},Zh L k=bO v->(k,v)∈L
 |[],k,v,h=>by cases h
 |p::L,k,v,h=>by
  unfold Zh at h;split at h;cases h
  rename_i hk
  rw[hk];exact jo;exact xj _<|Te h
def jM.val(h:jM L)(k:Zl):((Zh L k).getD []).length<=32:=by
 cases hq:Zh L k with
 |none=>simp
 |some v=>exact(h _<|Te hq).2.2
def jM.key(h:jM L){k:Zl}(hk:k∈Vp L):k≠[]/\k.length<=16:=by
 rw[JH,qp]at hk;obtain⟨p,a,rfl⟩:=hk;exact⟨(h p a).1,(h p a).2.1⟩
def Uf(h:jM L){k:Zl}(hk:k.length<=16):(qO L k).length<=50:=by
 have:=h.val k;simp[qO,lX,qt];omega
def r_(h:jM L):∀{ks:List Zl},(∀k∈ks,k.length<=16)->(ks.flatMap<|qO L).length<=50*ks.length
 |[],_=>by simp
 |k::ks,hk=>by
  have b:=Uf h<|hk k jo;have c:=r_ h fun x a=>hk x<|xj _ a;simp only[PT,zj,zh];omega
def xtz(s:ByteArray)(w:Zy):(Instr.field 155 (.agg #[.string s]) 0).run prog w= .ok (.string s) w:=by kernel_rfl
def tJ(B b:Nat)(l:Zl)(w:Zy):Prop:=Lib.IsBuilderF 223 5 B b (Lib.byteCells l) w
def tJ.new(w:Zy):tJ w.heap.size w.heap.size []<|w.alloc<|.cells #[.pointer bN,.slice bN 0 0] 223:=Lib.IsBuilderF.of<|Lib.fresh_isBuilder _ _ _
def Kj{B b d:Nat}{p:Zv}{bs:Ze}(h:Lib.BuilderAtF 223 5 B b p bs w)(k:bC d w w')(j:w.heap.size<=d):Lib.BuilderAtF 223 5 B b p bs w':=by
 obtain⟨q,v,f,i,r⟩:=h;refine⟨q,v,?_,?_,r⟩;exact(k.block b<|zn (za.1 f).1 j).trans f;refine⟨i.1,i.2.imp id ?_⟩;rintro⟨g,a,c,o,l,m,e,n⟩;exact⟨g,a,c,o,l,m,(k.block g<|zn (za.1 e).1 j).trans e,n⟩
def tJ.below{B b a:Nat}{l:Zl}(h:tJ B b l w)(d:bC a w w')(c:w.heap.size<=a):tJ B b l w':=
 h.imp (fun h=>Kj h d c) fun h=>Kj h d c
def znf(B b:Nat)(l s:Zl)(w:Zy)(h:tJ B b l w)(a:l.length+s.length<=140737488355328)(c:B<=w.heap.size):
  bE prog 145 #[zo b,zs s] w fun e w'=>e= .returned (.tuple #[zi s.length,.nilIface])/\tJ B b (l++s) w'/\bC B w w'/\Lib.OthersKept 5 (bO b) w w':=
 (Any.Builder_WriteString_k qA dW B b (Lib.byteCells l) (st s) w h (by simpa[Lib.byteCells,xe]using a) c).mono fun e w' ⟨d,f,g,i⟩=>⟨d.trans<|by rw[xe],.inr<|by rw[Kl];exact f,g,i⟩
def zy8(B b:Nat)(l:Zl)(w:Zy)(h:tJ B b l w)(a:B<=w.heap.size):
  bE prog 147 #[zo b] w fun e w'=>e= .returned (zs l)/\bC B w w':=
 (Any.Builder_String_any_k pY dW B b l w h a).mono fun e w' h=>⟨h.1,h.2.2.1⟩
def tH(w:Zy)(g:Nat)(xs:List Zl):Prop:=∃cur,w.heap[g]?=bO (.cells cur 9 (0,0))/\∀i (h:i<xs.length),cur[i]?=bO (.string<|st xs[i])
def tH.cell{w:Zy}{g:Nat}(h:tH w g xs)(i:Nat)(d:i<xs.length):w.cell? (zq g i)=bO (.string<|st xs[i]):=by
 obtain⟨a,b,c⟩:=h;simp only[aQ,b];simpa using c i d
def tH.kept{g b:Nat}(h:tH w g xs)(hk:Lib.OthersKept 5 (bO b) w w')(i:g≠b):tH w' g xs:=by
 obtain⟨a,d,f⟩:=h;exact⟨a,hk g _ d (fun e=>i<|jf e) (fun c j e=>by cases e),f⟩
def tH.below{g B:Nat}(h:tH w g xs)(e:bC B w w')(d:w.heap.size<=B):tH w' g xs:=by
 obtain⟨a,b,c⟩:=h;exact⟨a,(e.block g<|zn (za.1 b).1 d).trans b,c⟩
def QS{w:Zy}{v:Zv}{f:Zl->Zv}(e:∀x,f x=zs x)(h:w.ownsRow B 9 1 v xs.length<|xs.map f):(v= .slice bN 0 0/\xs=[])\/∃g cap,v= .slice (bO ⟨g,0,bN⟩) xs.length cap/\xs.length<=cap/\B<=g/\tH w g xs:=by
 rcases h.2 with⟨b,d⟩|⟨g,cap,a,n,j,k,l,o,p,m⟩;exact .inl ⟨b,xa d⟩;refine .inr ⟨g,cap,n,l,j,a,k,fun i c=>?_⟩;have b:(a.toList.take<|xs.length*1)[i]?=bO (.string<|st xs[i]):=by
  rw[m];simp[c,e]
 rw[Jf]at b;simpa[c]using b
def zrm(m:Nat)(L:KV)(hL:L.length<=1000000)(J:jM L)(w:Zy)(hm:Xd w m L):
  bE prog 87 #[.map<|bO m] w fun e w'=>e= .returned (.string<|st<|Vf L)/\bC w.heap.size w w':=by
 have HM:=zl hm;have C:=zl J;have be:=hm.lt;have B0:=zl<|tJ.new w;have W0:Hid<|bC w.heap.size w<|w.alloc<|.cells #[.pointer bN,.slice bN 0 0] 223:=(zr _ _).alloc (ze _) _;have O:w.heap.size<(w.alloc<|.cells #[.pointer bN,.slice bN 0 0] 223).heap.size:=by simp
 clear J hm;go_enter func87.1,Tryz.ntmps87
 go_wp2
 generalize w.alloc (.cells #[.pointer bN,.slice bN 0 0] 223)=W at*;refine(Oz m _).mono ?_;rintro e w1 ⟨rfl,n⟩;have o:Hid<|bC W.heap.size W w1:=by show bC _ _ _;rw[n];exact(zr _ _).alloc (ze _) _
 have z:Hid<|w1.cell? ⟨W.heap.size,0,bN⟩=bO (.map<|bO m):=by show _=_;rw[n];exact(xx.new W _ 143).cell 0 rfl
 have t:W.heap.size<w1.heap.size:=by rw[n];simp
 have Y:=zl<|Yg W0.o o.o;have M1:=zl<|HM.o.but (S:=fun _=>False) (xb.of_below Y.o) id;have S1:=zl<|B0.o.below o.o<|ze _;clear n o B0 W0
 go_wp2
 refine(Mr m _ L _ M1.o z.o t (fun p K=>by have:=(C.o p K).2.1;omega) hL).mono ?_;rintro e w2 ⟨v,rfl,c,j⟩;have W2:=zl<|Yg Y.o j;have S2:=zl<|S1.o.below j<|ze _;have bf:=zn O<|xz (Nat.le_of_lt t) j.size;obtain⟨ks,l⟩:∃ks,Vp L=ks:=⟨_,rfl⟩;have B:=zl l;have bd:ks.length<=1000000:=by rw[<-l,o8];exact hL
 rw[l]at c;obtain⟨a,bc,rfl,bb⟩:=Jh c;have HP:Hid (ks≠[]->∃g,a=bO ⟨g,0,bN⟩/\tH w2 g ks/\w.heap.size<g):=fun ba=>by
  rcases QS (f:=encStr) (fun _=>rfl) c with⟨_,h⟩|⟨g,cap',hv,_,hg,hr⟩;exact absurd h ba;cases hv;exact⟨g,rfl,hr,by omega⟩
 clear j Y M1 S1 z l c t O
 go_wp2
 go_loopw [10] (fun i wr=>∃k:Nat,k<=ks.length/\i= .int .i64 k/\tJ w.heap.size w.heap.size ((ks.take k).flatMap<|qO L) wr/\bC w.heap.size w wr/\(ks≠[]->∃g,a=bO ⟨g,0,bN⟩/\tH wr g ks/\w.heap.size<g)) (fun i _=>(ks.length-aJ i).toNat)
 case atStart=>exact⟨0,by omega,rfl,S2.o,W2.o,HP.o⟩
 case round=>
  obtain⟨k,hk,rfl,M,F,K⟩:=hrel;by_cases d:k<ks.length
  ·have i1:(k:Int)<(ks.length:Nat):=by omega
   have i0:(0:Int)<=(k:Int):=by omega
   obtain⟨g,rfl,s,hg⟩:=K (by intro e;rw[e]at d;cases d);have hc:=s.cell k d;have HT:Hid<|(ks.take<|k+1).flatMap (qO L)=(ks.take k).flatMap (qO L)++qO L ks[k]:=by show _=_;rw[xy d,List.flatMap_append,PT,List.flatMap_nil,Xq]
   have r:Hid<|∀k∈ks,k≠[]/\k.length<=16:=fun k hk=>C.o.key (by rw[B.o];exact hk);have HL:Hid<|((ks.take k).flatMap<|qO L).length<=50*k:=by
    have:=r_ C.o (ks:=ks.take k) fun x Q=>(r.o x<|List.mem_of_mem_take Q).2;rw[xt,Vg hk]at this;exact this
   have q:=zl<|(r.o _<|Zn d).2;have y:=zl F;have HS:=zl M;have D:=zl s;obtain⟨x,Q⟩:∃x,ks[k]=x:=⟨_,rfl⟩;rw[Q]at hc HT q;have I:=Iv yO underlying9 VS (HM.o.but (S:=fun _=>False) (xb.of_below F) id) x;unfold kF at I;have X:=zl<|C.o.val x;have U:Hid<|qO L x=lX x ((Zh L x).getD []):=rfl;have T:=zl<|Uf C.o q.o;generalize(Zh L x).getD []=v at*;have Z:=xtz (st v) wr;generalize qO L x=en at*;clear Q F M K s r;generalize(ks.take k).flatMap (qO L)=l1 at*
   go_wp2
   refine(Np x v (by have:=q.o;omega) (by have:=X.o;omega) _).mono ?_;rintro e w3 ⟨rfl,b⟩;have R:=zl<|Yg y.o b;have E:=zl<|HS.o.below b<|ze _;have R3:=zl<|D.o.below b<|ze _;rw[<-U.o];clear b y HS D hc I Z
   go_wp2
   refine(znf _ _ l1 en _ E.o (by have:=HL.o;have:=T.o;omega) R.o.size).mono ?_;rintro e w4 ⟨rfl,S4,G,H⟩;have V:=zl S4;have B4:=zl<|R.o.trans G;have R4:=zl (R3.o.kept H<|by omega);clear S4 G H R E R3
   go_wp2
   go_roundw
   case rel=>exact⟨k+1,by omega,by go_num,by rw[HT.o];exact V.o,B4.o,fun _=>⟨g,rfl,R4.o,hg⟩⟩
   case measure=>simp[aJ];omega
  obtain rfl:k=ks.length:=by omega
  have i1:¬(ks.length:Int)<(ks.length:Nat):=by omega
  rw[Yw]at M;have E:Hid<|tJ w.heap.size w.heap.size (Vf L) wr:=by unfold Vf;rw[B.o];exact M
  have y:=zl F;clear M F K
  go_wp2
  refine(zy8 _ _ _ _ E.o y.o.size).mono ?_;rintro e w3 ⟨rfl,b⟩;have H1:=zl<|y.o.trans b;clear b E y
  go_wp2
  go_ret
  exact⟨rfl,H1.o⟩
def Jo.synced(s:Jo):Jo:={s with L:=cO s.L s.P,pv:= .slice bN 0 0,P:=[]}
def Sr.bW(r:Sr)(s:Jo):Option Int×Sr:=
 if s.P=[]then(bO 0,r)
 else if(r.writes s [82] s.ep<|Xt s.P).1=bO 0 then(bO 0,{(r.writes s [82] s.ep<|Xt s.P).2 with sn:=bO ({s with last:=(r.place s).1}:Jo).synced})
 else r.writes s [82] s.ep (Xt s.P)
def Sy{r r':Sr}{s:Jo}{kind plain:Zl}{ep:Nat}(a:r.sn=bO s)(h:r.writes s kind ep plain=(bO 0,r')):r'.sn=bO {s with last:=(r.place s).1}:=by
 unfold Sr.writes at h;split at h;cases h;split at h;cases h;split at h;cases h;split at h;cases h;cases h;rfl
def zvl{r r':Sr}{s:Jo}{kind plain:Zl}{ep:Nat}{a:Option Int}(b:r.sn=bO s)(h:r.writes s kind ep plain=(a,r')):∃l,r'.sn=bO {s with last:=l}:=by
 unfold Sr.writes at h;split at h;cases h;exact⟨s.last,b⟩;split at h;cases h;exact⟨s.last,b⟩;split at h;cases h;exact⟨s.last,b⟩;split at h;cases h;exact⟨s.last,b⟩;cases h;exact⟨_,rfl⟩
def jt.made{r:Sr}{s:Jo}{w w1:Zy}(h:Jq w B r)(d:r.sn=bO s)(p:xb (·=s.mp) w w1)(t:Xd w1 s.mp<|cO s.L s.P):
  jt B r w {r with sn:=bO s.synced} (w1.setCell (zq s.S 1)<|.slice bN 0 0):=by
 obtain⟨k,m⟩:=h.bU s d;obtain⟨z,c,g⟩:=k.map.blk;have f:=k.blk.cZ g;have j:=h.blk.cZ g;have l:s.S≠B:=fun e=>k.blk.ne h.blk (by decide) e;have i:xb (fun x=>x=s.mp\/x=s.S) w<|w1.setCell (zq s.S 1)<|.slice bN 0 0:=(p.mono fun x b=> .inl b).trans<|(xb.set w1 _ _).mono fun x b=> .inr b;refine⟨i.mono fun x b=>?_,⟨?_,?_,fun y o=>?_⟩,fun x b=>?_⟩;rcases b with e|e
 exact .inr<|.inr ⟨s,d,.inr<|.inl e⟩;exact .inr<|.inr ⟨s,d,.inl e⟩;have:=h.blk.but i (by rintro(e|e);exact j e;exact l e.symm);have e:({r with sn:=bO s.synced}:Sr).cells=r.cells:=by simp[Sr.cells,Sr.iJ,d,Jo.synced]
 rw[e];exact this;refine h.disk.but i fun x b e=>?_;refine h.apart d ?_ b;rcases e with e|e
 exact .inr<|.inl e;exact .inl e;cases o;refine⟨⟨?_,?_,?_⟩,m⟩;have q:=k.blk.but p f;exact q.set 1 _;exact t.but (xb.set w1 _ _) fun e=>f e.symm;exact Vl _ _ _ _;rcases b with e|e|⟨y,e,b⟩
 exact .inl<|.inl e;exact .inl<|.inr<|.inl e;cases e;rcases b with e|e|⟨a,n,c,v,e⟩
 exact .inl<|.inr<|.inr ⟨s,d,.inl e⟩;exact .inl<|.inr<|.inr ⟨s,d,.inr<|.inl e⟩;cases v
def RI{f:FuncId}{args:Za}{cv:Zv}{w:Zy}{A:Option Int×Sr}{T:Sr->Zy->Prop}(h:bE prog f args w fun e w'=>∃a r',A=(a,r')/\e=FD cv a/\T r' w'):
  bE prog f args w fun e w'=>(∃v r',A=(bO v,r')/\e= .returned (zi v)/\T r' w')\/(∃r',A=(bN,r')/\e=eF cv/\T r' w'):=
 h.mono fun e w' ⟨a,r',b,c,d⟩=>by
  cases a with
  |none=>exact .inr ⟨r',b,c,d⟩
  |some v=>exact .inl ⟨v,r',b,c,d⟩
def jt.nw{r:Sr}(h:Jq w B r)(a:Nw w w'):jt B r w r w':=⟨a.mono fun _ x=>x.elim,h.but a fun _ _=>id,fun x b=> .inl b⟩
def O_{cv tv:Zv}(B:Nat)(r:Sr)(s:Jo)(w:Zy)(h:Jq w B r)(y:r.sn=bO s)(m:fV B r)(T:iA cv tv w)(U:∀c∈s.P,mF c):
  bE prog 50 #[zo B] w fun e w'=>∃a r',r.bW s=(a,r')/\e=FD cv a/\jt B r w r' w':=by
 have O:=zl h;have HK:=zl m;have HG:=zl T;have H:=zl y;have HP:=zl U;have k:=(h.bU s y).1;have c7:w.cell? (zq B 7)=bO (zo s.S):=(h.blk.cell 7 rfl).trans (by simp[Sr.cells,Sr.iJ,y]);have R:w.cell? (zq s.S 1)=bO s.pv:=k.blk.cell 1 rfl;have be:=(m.bU s y).2.2;rcases ZQ k.pend with⟨f,b⟩|⟨g,i,f,o,hg⟩
 ·rw[f]at R
  have Y:Hid<|r.bW s=(bO 0,r):=by show _=_;unfold Sr.bW;rw[aA b]
  clear h m T y U k f b;go_enter func50.1,Tryz.ntmps50
  go_wp2
  go_ret
  exact⟨_,_,Y.o,rfl,jt.refl O.o⟩
 rw[f]at R;by_cases b:s.P=[]
 ·have Y:Hid<|r.bW s=(bO 0,r):=by show _=_;unfold Sr.bW;rw[aA b]
  rw[b]at R;clear h m T y U k f b;go_enter func50.1,Tryz.ntmps50
  go_wp2
  go_ret
  exact⟨_,_,Y.o,rfl,jt.refl O.o⟩
 have p:Hid<|s.P≠[]:=b;have bd:¬s.P.length=0:=fun e=>b<|xa e;have bc:decide ((s.P.length:Int)=0)=bK:=by simpa using b
 have d2:w.cell? (zq s.S 2)=bO (zi s.ep):=k.blk.cell 2 rfl;have Z:Hid<|uU w.drew g s.P:=o;have q:=zl f;clear h m T y U k f b o;go_enter func50.1,Tryz.ntmps50
 go_wp2
 have d:Hid<|∀w1 r1 l,jt B r w r1 w1->r1.sn=bO {s with last:=l}->w1.cell? (zq s.S 1)=bO (.slice (bO ⟨g,0,bN⟩) s.P.length i)/\w1.cell? (zq s.S 2)=bO (zi s.ep):=fun w1 r1 l hh he=>by
  have C:=(hh.at_.bU _ he).1;exact⟨(C.blk.cell 1 rfl).trans<|congrArg bO q.o,C.blk.cell 2 rfl⟩
 have T0:=zl<|jt.nw O.o (xb.refl _ _).drew;have I:=d.o w r _ (jt.refl O.o) H.o;have X:Hid<|(Xt s.P).length<=4000:=by have:=IQ HP.o;show _<=_;omega
 clear R d2 c7
 go_region_held2 (fun w'=>w'.cell? (zq s.S 1)=bO (.slice (bO ⟨g,0,bN⟩) s.P.length i)/\w'.cell? (zq s.S 2)=bO (zi s.ep)) (first|exact I|exact Q)
  (first
   |(go_at_call 101;refine(zuw g i s.P (by omega) HP.o _ Z.o).mono ?_;rintro e w1 ⟨rfl,hb⟩;have T1:=zl<|T0.o.trans<|jt.nw T0.o.at_<|xb.of_below hb;have G1:=zl<|HG.o.but T1.o.but HK.o.own;have Q:=d.o _ _ _ T1.o H.o)
   |(go_at_call 100;refine(RI<|cH B r s [82] s.ep _ _ T1.o.at_ H.o HK.o G1.o rfl X.o).mono ?_;rintro e V (⟨v,M,z,rfl,n⟩|⟨M,z,rfl,n⟩);rotate_left;(exact⟨rfl,bN,M,by unfold Sr.bW;rw[aB p.o,aB<|by rw[z];simp];exact z,rfl,T1.o.trans n⟩);have HW:=zl z;have T2:=zl<|T1.o.trans n;obtain⟨l2,x⟩:=zvl H.o z;have W:=zl x;have Q:=d.o _ _ _ T2.o x))
 have D:=zl T2.o.at_;clear I Q d T0 T1 G1 n hb z x
 try clear hHeld
 by_cases hv:v=0
 ·subst hv
  have t:Hid<|r.bW s=(bO 0,{M with sn:=bO ({s with last:=(r.place s).1}:Jo).synced}):=by
   show _=_;unfold Sr.bW;rw[aB p.o,HW.o,aA rfl]
  have E:=zl<|Sy H.o HW.o;have j:=zl<|(D.o.bU _ E.o).1;have d:Hid (∀w1,xb (·=s.mp) V w1->w1.cell? (zq s.S 0)=bO (.map<|bO s.mp)/\w1.cell? (zq s.S 1)=bO (.slice (bO ⟨g,0,bN⟩) s.P.length i)/\w1.frozen? (zq s.S 1)=bK):=fun w1 hh=>by
   obtain⟨es,c,bb⟩:=j.o.map.blk;have C:=j.o.blk.but hh<|j.o.blk.cZ bb;exact⟨C.cell 0 rfl,(C.cell 1 rfl).trans<|congrArg bO q.o,C.bT 1⟩
  have I:=d.o V<|xb.refl _ _;have F:Hid<|Xd V.drew s.mp s.L:=j.o.map;have G:Hid<|V.drew.ownsRow 0 173 1 (.slice (bO ⟨g,0,bN⟩) s.P.length i) s.P.length<|s.P.map iC:=by
   have:=j.o.pend;show World.ownsRow _ _ _ _ _ _ _;rw[<-q.o];exact this
  clear W Q
  go_wp2
  go_region_held3 (fun w'=>w'.cell? (zq s.S 0)=bO (.map<|bO s.mp)/\w'.cell? (zq s.S 1)=bO (.slice (bO ⟨g,0,bN⟩) s.P.length i)/\w'.frozen? (zq s.S 1)=bK) (first|exact I|exact S2)
   ((go_at_call 84;refine(Qu s.mp s.L _ s.P (by omega) _ F.o G.o).mono ?_;rintro e w4 ⟨rfl,J,K⟩;have B4:=zl<|(xb.refl _ _).drew.trans J;have M4:=zl K;have S2:=d.o _ B4.o))
  have ba:Hid<|jt B r w {M with sn:=bO ({s with last:=(r.place s).1}:Jo).synced}<|w4.setCell (zq s.S 1)<|.slice bN 0 0:=T2.o.trans<|jt.made D.o E.o B4.o M4.o;obtain⟨e0,e1,e2⟩:=S2;clear I d F G J K e0
  try clear hHeld
  go_wp2
  go_ret
  exact⟨_,_,t.o,rfl,ba.o⟩
 have t:Hid<|r.bW s=(bO v,M):=by
  show _=_;unfold Sr.bW;rw[aB p.o,HW.o,aB<|by simpa using hv]
 have bf:decide (v=0)=bK:=by simpa using hv
 go_wp2
 go_ret
 exact⟨_,_,t.o,rfl,T2.o⟩
def Sr.ses1(r:Sr)(s:Jo):Jo:=if s.P=[]then s else({s with last:=(r.place s).1}:Jo).synced
def dT{r r1:Sr}{s:Jo}(a:r.sn=bO s)(h:r.bW s=(bO 0,r1)):r1.sn=bO (r.ses1 s):=by
 unfold Sr.bW at h;unfold Sr.ses1;split at h
 rename_i hp;cases h;rw[aA hp];exact a
 rename_i hp
 rw[aB hp];split at h;cases h;rfl
 rename_i hq
 rw[h]at hq;exact absurd rfl hq
def jt.lV{r:Sr}{s s':Jo}{w:Zy}{j:Nat}{v:Zv}(h:Jq w B r)(f:r.sn=bO s)(F:s'.cells=s.cells.setIfInBounds j v)(l:s'.S=s.S)(m:s'.mp=s.mp)(D:s'.L=s.L)(C:s'.pv=s.pv)(E:s'.P=s.P):
  jt B r w {r with sn:=bO s'} (w.setCell (zq s.S j) v):=by
 obtain⟨k,z⟩:=h.bU s f;obtain⟨J,c,y⟩:=k.map.blk;have o:=k.blk.cZ y;have n:s.S≠B:=fun e=>k.blk.ne h.blk (by decide) e;have b:xb (fun x=>x=s.S) w<|w.setCell (zq s.S j) v:=xb.set w (zq s.S j) _;have own:∀x,s'.own x↔s.own x:=fun x=>by unfold Jo.own;rw[l,m,C]
 refine⟨b.mono fun x a=> .inr (.inr ⟨s,f,.inl a⟩),⟨?_,?_,fun t H=>?_⟩,fun x a=>?_⟩;have e:({r with sn:=bO s'}:Sr).cells=r.cells:=by simp[Sr.cells,Sr.iJ,f,l]
 rw[e];exact h.blk.but b fun e=>n e.symm;exact h.disk.but b fun x a e=>h.apart f (.inl e) a;cases H;refine⟨⟨?_,?_,?_⟩,by rw[m];exact z⟩;rw[l,F];exact k.blk.set j v;rw[m,D];exact k.map.but b fun e=>o e.symm;rw[C,E];refine⟨k.pend.1,?_⟩;rcases k.pend.2 with e|⟨g,i,d,I,G,p,q⟩
 exact .inl e;refine .inr ⟨g,i,d,I,G,(b.block g (za.1 p).1 fun e=>?_).trans p,q⟩;exact k.blk.ne (show xx w g d 173 from p) (by decide) e.symm;rcases a with e|e|⟨t,e,a⟩
 exact .inl<|.inl e;exact .inl<|.inr<|.inl e;cases e;exact .inl<|.inr<|.inr ⟨s,f,(own x).1 a⟩
def Sr.bV(r:Sr)(s:Jo):Option Int×Sr:=
 if(r.bW s).1=bO 0 then
  if(r.ses1 s).ep=5 then(bO 10,(r.bW s).2)
  else if((r.bW s).2.writes (r.ses1 s) [75] ((r.ses1 s).ep+1) []).1=bO 0 then(bO 0,{((r.bW s).2.writes (r.ses1 s) [75] ((r.ses1 s).ep+1) []).2 with sn:=bO {r.ses1 s with last:=((r.bW s).2.place<|r.ses1 s).1,ep:=(r.ses1 s).ep+1}})
  else(r.bW s).2.writes (r.ses1 s) [75] ((r.ses1 s).ep+1) []
 else r.bW s
def LS{cv tv:Zv}(B:Nat)(r:Sr)(s:Jo)(w:Zy)(h:Jq w B r)(U:r.sn=bO s)(y:fV B r)(l:∀r1,r.bW s=(bO 0,r1)->fV B r1)(R:iA cv tv w)(T:∀c∈s.P,mF c)(F:s.ep<=1000000):
  bE prog 99 #[zo B] w fun e w'=>∃a r',r.bV s=(a,r')/\e=FD cv a/\jt B r w r' w':=by
 have W:=zl h;have M:=zl y;have D:=zl l;have L:=zl R;have O:=zl U;have X:=zl T;have x:(r.ses1 s).ep<=1000000:=by unfold Sr.ses1;split<;>exact F
 clear h y l R U T;go_enter func99.1,Tryz.ntmps99
 go_wp2
 refine(RI<|O_ B r s _ W.o O.o M.o L.o X.o).mono ?_;rintro e w1 (⟨v,r1,z,rfl,j⟩|⟨r1,z,rfl,j⟩)
 ·have m:=zl z
  have T1:=zl j;clear z j;by_cases G:v=0
  ·subst G
   have g:=zl<|dT O.o m.o;have V:=zl<|L.o.but T1.o.but M.o.own;obtain⟨b,o⟩:∃b,r.ses1 s=b:=⟨_,rfl⟩;have i:=zl o;rw[o]at g x;have c7:w1.cell? (zq B 7)=bO (zo b.S):=(T1.o.at_.blk.cell 7 rfl).trans (by simp[Sr.cells,Sr.iJ,g.o]);have Q:w1.cell? (zq b.S 2)=bO (zi b.ep):=(T1.o.at_.bU b g.o).1.blk.cell 2 rfl;clear o;by_cases E:b.ep=5
   ·have f:Hid<|r.bV s=(bO 10,r1):=by
     show _=_;unfold Sr.bV;rw[m.o,aA rfl,i.o,aA E]
    rw[E]at Q
    go_wp2
    go_ret
    exact⟨_,_,f.o,rfl,T1.o⟩
   have Z:decide ((b.ep:Int)=5)=bK:=by simp;omega
   have C:=zl E
   go_wp2
   refine(RI<|cH B r1 b [75] (b.ep+1) [] _ T1.o.at_ g.o (D.o _ m.o) V.o rfl<|by decide).mono ?_;rintro e K (⟨J,q,k,rfl,d⟩|⟨q,k,rfl,d⟩)
   ·have n:=zl k
    have T2:=zl d;clear k d;by_cases p:J=0
    ·subst p
     have t:=zl<|Sy g.o n.o;have I:=(T2.o.at_.bU _ t.o).1;have e2:K.cell? (zq b.S 2)=bO (zi b.ep):=I.blk.cell 2 rfl;have f2:K.frozen? (zq b.S 2)=bK:=I.blk.bT 2;have f:Hid<|r.bV s=(bO 0,{q with sn:=bO {b with last:=(r1.place b).1,ep:=b.ep+1}}):=by
      show _=_;unfold Sr.bV;rw[m.o,aA rfl,i.o,aB C.o,n.o,aA rfl]
     have Y:Hid<|jt B r w {q with sn:=bO {b with last:=(r1.place b).1,ep:=b.ep+1}}<|K.setCell (zq b.S 2)<|zi<|(b.ep:Int)+1:=
      (T1.o.trans T2.o).trans (jt.lV (s:={b with last:=(r1.place b).1}) T2.o.at_ t.o rfl rfl rfl rfl rfl rfl)
     clear I c7 Q
     go_wp2
     go_ret
     exact⟨_,_,f.o,rfl,Y.o⟩
    have f:Hid<|r.bV s=(bO J,q):=by
     show _=_;unfold Sr.bV;rw[m.o,aA rfl,i.o,aB C.o,n.o,aB<|by simpa using p]
    have H:decide (J=0)=bK:=by simpa using p
    go_wp2
    go_ret
    exact⟨_,_,f.o,rfl,T1.o.trans T2.o⟩
   have f:Hid<|r.bV s=(bN,q):=by
    show _=_;unfold Sr.bV;rw[m.o,aA rfl,i.o,aB C.o,k,aB<|by simp]
   exact⟨rfl,bN,q,f.o,rfl,T1.o.trans d⟩
  have f:Hid<|r.bV s=(bO v,r1):=by
   show _=_;unfold Sr.bV;rw[m.o,aB<|by simpa using G]
  have H:decide (v=0)=bK:=by simpa using G
  go_wp2
  go_ret
  exact⟨_,_,f.o,rfl,T1.o⟩
 have f:Hid<|r.bV s=(bN,r1):=by
  show _=_;unfold Sr.bV;rw[z,aB<|by simp]
 exact⟨rfl,bN,r1,f.o,rfl,j⟩
end
end
def XH(a b:Zl):Zl:=jF (1::(a++b))
def qL(p:Zl):Zl:=jF (0::p)
def above:List Zl->List Zl
 |a::b::r=>XH a b::above r
 |l=>l
def up:Nat->List Zl->List Zl
 |0,l=>l
 |k+1,l=>up k<|above l
def J7(ps:List Zl):Zl:=if ps=[]then jF []else(up 8<|ps.map qL).headD []
def JA:∀l:List Zl,(above l).length=(l.length+1)/2
 |[]=>rfl
 |[_]=>by simp[above]
 |_::_::r=>by simp only[above,zh,JA r];omega
def YD:∀a b:List Zl,a.length%2=0->above (a++b)=above a++above b
 |[],b,_=>rfl
 |[_],_,h=>by simp at h
 |x::y::r,b,h=>by
  have c:r.length%2=0:=by simp only[zh]at h;omega
  simp only[jc,above,YD r b c]
def Es(x:Zl):∀k,up k [x]=[x]
 |0=>rfl
 |k+1=>Es x k
def Er:∀(j k:Nat) (l:List Zl),up (j+k) l=up k (up j l)
 |0,k,l=>by rw[jy];rfl
 |j+1,k,l=>by rw[Nat.add_right_comm];exact Er j k _
def p8:∀(k:Nat) (l:List Zl),0<l.length->l.length<=2^k->∃x,up k l=[x]
 |0,l,h0,h1=>by
  match l,h0,h1 with
  |[x],_,_=>exact⟨x,rfl⟩
  |_::_::_,_,h=>simp at h
 |k+1,l,h0,h1=>by
  have a:=JA l;rw[DR]at h1;exact p8 k _ (by omega)<|by omega
def P5{k j:Nat}{l:List Zl}{x:Zl}(h:up k l=[x])(hk:k<=j):up j l=[x]:=by
 obtain⟨d,rfl⟩:=Nat.exists_eq_add_of_le hk;rw[Er,h,Es]
def LR:J7 []=jF []:=rfl
def cM{b:List Zl}{k:Nat}{x:Zl}(h:up k (b.map qL)=[x])(hk:k<=8)(a:b≠[]):J7 b=x:=by
 rw[J7,aB a,P5 h hk];rfl
def F9{l:List Zl}(h:∀x∈l,x.length=32):∀x∈above l,x.length=32:=by
 match l,h with
 |[],h=>exact h
 |[_],h=>exact h
 |a::b::r,h=>
  intro x c;simp only[above,xf]at c;rcases c with rfl|c
  exact yM _;exact F9 (fun y d=>h y<|by simp[d]) x c
def eA:∀(k:Nat) (l:List Zl),(∀x∈l,x.length=32)->∀x∈up k l,x.length=32
 |0,_,h=>h
 |k+1,_,h=>eA k _<|F9 h
def xm4(b:List Zl):∀x∈b.map qL,x.length=32:=fun y a=>by
 simp only[qp]at a;obtain⟨p,_,rfl⟩:=a;exact yM _
def Dm:∀(k:Nat) (l:List Zl),up (k+1) l=above (up k l)
 |0,_=>rfl
 |k+1,l=>Dm k<|above l
def LO{c:List Zl}{j:Nat}{x:Zl}(h:up j (c.map qL)=[x])(g:c.length<=256)(d:c≠[]):J7 c=x:=by
 have f:0<c.length:=by cases c<;>simp_all
 obtain⟨y,e⟩:=p8 8 (c.map qL) (by simpa using f) (by simpa using g);rw[cM e (by omega) d];have a:=P5 h<|Nat.le_max_left j 8;have b:=P5 e<|Nat.le_max_right j 8;rw[a]at b;exact(List.cons.inj b).1.symm
def Sd(a:List Zl)(h:a.length<=256):(J7 a).length=32:=by
 by_cases e:a=[];rw[e,LR,yM];have f:0<a.length:=by cases a<;>simp_all
 obtain⟨x,c⟩:=p8 8 (a.map qL) (by simpa using f) (by simpa using h);rw[cM c (by omega) e];have b:∀(k:Nat) (l:List Zl),(∀x∈l,x.length=32)->∀x∈up k l,x.length=32:=by
  intro k;induction k with
  |zero=>intro l h;exact h
  |succ k ih=>intro l h;exact ih _<|F9 h
 exact b 8 (a.map qL) (fun y d=>by simp only[qp]at d;obtain⟨p,_,rfl⟩:=d;exact yM _) x<|by rw[c];simp
section
open Go.RowKit
def xnq(x:Zl):({data:=#[1]}:ByteArray)++st x=st (1::x):=zv [1] x
def Pi(x:Zl):({data:=#[0]}:ByteArray)++st x=st (0::x):=zv [0] x
attribute [local go_sem] xe zv xnq Pi
def sv(L:List Zl):Ze:=L.map fun l=> .string (st l)
def xsp(L:List Zl):(sv L).length=L.length:=by simp[sv]
def o9(a b:List Zl):sv (a++b)=sv a++sv b:=by simp[sv]
def xvq(L:List Zl)(j:Nat)(h:j<L.length):(sv L)[j]?=bO (.string<|st L[j]):=by simp[sv,h]
def NY:∃i,prog.info? 9=bO i/\i.zero=bO (.string ⟨#[]⟩)/\i.size=1/\i.bytes=16:=by
 have h:(prog.info? 9).map (fun i=>(i.zero,i.size,i.bytes))=bO (bO<|.string ⟨#[]⟩,1,16):=by kernel_rfl
 cases hq:prog.info? 9 with
 |none=>rw[hq]at h;simp at h
 |some i=>rw[hq]at h;simp at h;exact⟨i,rfl,h.1,h.2.1,h.2.2⟩
def zH(w:Zy)(g off:Nat)(L:List Zl):Prop:=∀j (h:j<L.length),w.cell? (zq g<|off+j)=bO (.string<|st L[j])
def Ls{w:Zy}{base g n cap:Nat}{L:List Zl}(h:w.ownsRow base 9 1 (.slice (bO ⟨g,0,bN⟩) n cap) n<|sv L):n=L.length/\base<=g/\g<w.heap.size/\zH w g 0 L:=by
 have i:n=L.length:=by have:=h.1;simpa[xsp]using this.symm
 rcases h.2 with⟨d,_⟩|⟨m,b,a,l,e,c,o,_,p,k⟩;cases d;cases l;refine⟨i,e,(za.1 c).1,fun j f=>?_⟩;rw[jy,je _ _ j _ _ _ c];have:(a.toList.take<|n*1)[j]?=(sv L)[j]?:=by rw[k]
 rw[Jf,aA<|by omega,xvq L j f]at this;simpa using this
def R9{w w':Zy}{B g i j:Nat}{a b:Zv}(c:bC B w w')(d:g<B)(e:w.cell? (zq g i)=bO a)(f:w.cell? (zq g j)=bO b):w'.cell? (zq g i)=bO a/\w'.cell? (zq g j)=bO b:=
 ⟨(c.cell (p:=zq g i) d).trans e,(c.cell (p:=zq g j) d).trans f⟩
def VV(w:Zy)(l:Zl):∀j u,[zs l][j]?=bO u->(w.alloc<|.cells #[zs l] 9).cell? (((zq w.heap.size 0):Addr).add j)=bO u:=
 World.news_of_block (jw _ _)
def XI(l:Zl):∀u∈[zs l],u.oneCell'=bL:=by
 intro u a;simp only[jp]at a;subst a;rfl
def zy9:∀(L:List Zl) (k:Nat) (h:2*k+1<L.length),above (L.take<|2*(k+1))=above (L.take<|2*k)++[XH L[2*k] L[2*k+1]]:=by
 intro L k h;have e:L.take (2*(k+1))=L.take (2*k)++[L[2*k],L[2*k+1]]:=by
  rw[show 2*(k+1)=2*k+1+1 by omega,xy h,xy<|by omega,Zq];rfl
 rw[e,YD _ _<|by simp;omega];rfl
def DQ(L:List Zl)(k:Nat)(h:L.length=2*k+1):above L=above (L.take<|2*k)++[L[2*k]]:=by
 have e:L=L.take (2*k)++[L[2*k]]:=by
  rw[<-xy<|by omega,qj<|by omega]
 have a:above (L.take (2*k)++[L[2*k]])=above (L.take<|2*k)++[L[2*k]]:=by
  rw[YD _ _<|by simp;omega];simp[above]
 rw[<-e]at a;exact a
def zu4(L:List Zl)(X:0<L.length)(hL:L.length<=256)(F:∀x∈L,x.length=32)(g cap:Nat)(w:Zy)(Y:dF w)(hl:zH w g 0 L):
  bE prog 171 #[.slice (bO ⟨g,0,bN⟩) L.length cap] w fun en w'=>∃g' cap',en= .returned (.slice (bO ⟨g',0,bN⟩) (above L).length cap')/\w'.ownsRow w.heap.size 9 1 (.slice (bO ⟨g',0,bN⟩) (above L).length cap') (above L).length (sv<|above L)/\bC w.heap.size w w':=by
 have HT:=zl Y;have bb:=Y.pos;have K:g<w.heap.size:=qz<|hl 0 X;have V:=zl hl;have C:=zl F;clear Y hl F;obtain⟨i9,Z,s,t,z⟩:=NY;go_enter func171.1,Tryz.ntmps171
 go_wp2_with (refine wpList_make_own _ rfl _ _ 51 rfl w.heap.size 9 i9 _ 1 underlying51 Z s t .i64 .i64 _ ((L.length+1)/2) rfl rfl ?l1 ?b1 ?b2 ?b3 ?_)
 case l1=>omega
 case b1=>rw[z];omega
 case b2=>unfold maxLen;omega
 case b3=>simp
 intro w1 a M;have H:=(zr _ _).grown M (ze _) (fun _ h=>by cases h);clear M
 go_wp2
 go_loopw [3,4] (fun v i wr=>∃(k g' cap':Nat),2*k<=L.length/\i=zi (2*(k:Int))/\v= .slice (bO ⟨g',0,bN⟩) k cap'/\wr.ownsRow w.heap.size 9 1 (.slice (bO ⟨g',0,bN⟩) k cap') k (sv<|above<|L.take<|2*k)/\bC w.heap.size w wr) (fun _ i _=>(L.length-aJ i).toNat)
 case atStart=>exact⟨0,_,_,by omega,by go_num,rfl,a,H⟩
 case round=>
  clear a H;obtain⟨k,g',cap',hk,rfl,rfl,a,m⟩:=hrel;obtain⟨r,bc,bd,_⟩:=Ls a;by_cases ba:2*k+1<L.length
  ·obtain⟨x,q⟩:∃x,L[2*k]=x:=⟨_,rfl⟩
   obtain⟨y,U⟩:∃y,L[2*k+1]=y:=⟨_,rfl⟩;have lx:=C.o x (by rw[<-q];exact Zn _);have ly:=C.o y (by rw[<-U];exact Zn _);have D:w.cell? (zq g<|2*k)=bO (zs x):=by have:=V.o (2*k) (by omega);rwa[jy,q]at this
   have T:w.cell? (zq g<|2*k+1)=bO (zs y):=by have:=V.o _ (by omega);rwa[jy,U]at this
   have cr:∀o,wr.cell? (zq g o)=w.cell? (zq g o):=fun o=>m.cell K;have i0:(0:Int)<=2*(k:Int):=by omega
   have i1:2*(k:Int)+1<(L.length:Nat):=by omega
   have i2:2*(k:Int)<(L.length:Nat):=by omega
   have i3:(0:Int)<=2*(k:Int)+1:=by omega
   have t0:(2*(k:Int)).toNat=2*k:=by omega
   have t1:(2*(k:Int)+1).toNat=2*k+1:=by omega
   have e1:IntKind.i64.wrap (2*(k:Int)+1)=2*(k:Int)+1:=by rw[xn];omega
   have B:Hid<|above (L.take<|2*(k+1))=above (L.take<|2*k)++[XH x y]:=by show _=_;rw[zy9 L k ba,q,U]
   have HO:=zl a;have W:=zl<|HT.o.below bb m.drew;have S:=m.size;clear a r q U
   go_wp2
   have S0:wr.cell? (zq g<|2*k)=bO (zs x)/\wr.cell? (zq g<|2*k+1)=bO (zs y):=⟨(cr _).trans D,(cr _).trans T⟩
   go_region_held3 (fun w'=>w'.cell? (zq g<|2*k)=bO (zs x)/\w'.cell? (zq g<|2*k+1)=bO (zs y)) (first|exact S0|exact S2|exact S3|exact S4)
    (first
     |(go_at_call 102;refine(yX _ ?_ _ W.o).mono ?_;(simp;omega);rintro en w2 ⟨rfl,I⟩;have f:=m.drew.trans<|I.mono S;have S2:=R9 f K D T;have n:=f.alloc f.size<|.cells #[.string<|st<|jF (1::(x++y))] 9;have S3:=R9 n K D T;have j:=(ZO HO.o.drew I).alloc<|.cells #[.string<|st<|jF (1::(x++y))] 9)
     |(refine step_append_lies _ (by rfl) _ _ 51 (by rfl) _ 9 i9 _ 1 16 underlying51 Z s t z (by rfl) (by decide) _ k _ (by rfl) j _ 1 1 _ (by rfl) (by rfl) (VV _ _) (XI _) (by decide) (by unfold maxLen;omega) (by omega) n.size (w2.heap.size+1) (by simp) ?_;intro E c w4 b d e O;have p:=n.grown d n.size<|Vs j;have S4:=R9 p K D T))
   have l:w4.ownsRow w.heap.size 9 1 (.slice (bO ⟨E,0,bN⟩) (k+1) c) (k+1)<|sv<|above<|L.take<|2*(k+1):=by rw[B.o,o9];exact b
   clear b j d e S0 S2 S3 S4
   go_wp2
   go_roundw
   case rel=>exact⟨k+1,E,c,by omega,by go_num,rfl,l,p⟩
   case measure=>simp[aJ];omega
  have i1:¬2*(k:Int)+1<(L.length:Nat):=by omega
  by_cases J:L.length=2*k
  ·have Q:((L.length:Int)%2==1)=bK:=by simp;omega
   have G:(above L).length=k:=by rw[JA];omega
   rw[qj<|by omega]at a;have B:=zl G;clear G J r
   go_wp2
   go_ret
   exact⟨g',cap',by rw[B.o];rfl,by rw[B.o];exact a,m⟩
  have R:L.length=2*k+1:=by omega
  have Q:((L.length:Int)%2==1)=bL:=by simp;omega
  obtain⟨x,q⟩:∃x,L[2*k]=x:=⟨_,rfl⟩;have D:wr.cell? (zq g<|L.length-1)=bO (zs x):=by
   have:=V.o (2*k) (by omega);rw[jy,q]at this;rw[show L.length-1=2*k by omega];exact(m.cell K).trans this
  have i2:(0:Int)<=(L.length:Int)-1:=by omega
  have i3:(L.length:Int)-1<(L.length:Nat):=by omega
  have i4:(1:Int)<=(L.length:Nat):=by omega
  have B:Hid<|above L=above (L.take<|2*k)++[x]:=by show _=_;rw[DQ L k R,q]
  have HN:Hid<|(above L).length=k+1:=by show _=_;rw[JA];omega
  clear R J q r
  go_wp2_with (refine wpList_append_lies _ rfl _ _ 51 rfl w.heap.size 9 i9 _ 1 16 underlying51 Z s t z rfl (by decide) (.slice _ k cap') k (sv<|above<|L.take<|2*k) rfl ?own _ 1 1 _ rfl rfl (VV _ _) (XI _) (by decide) ?m1 ?m2 ?m3 (wr.heap.size+1) ?m4 ?_)
  case own=>exact a.alloc _
  case m1=>unfold maxLen;omega
  case m2=>omega
  case m3=>have:=m.size;simp;omega
  intro E c w4 b d e O;have p:=(m.alloc m.size _).grown d (by have:=m.size;simp;omega)<|Vs a;have l:w4.ownsRow w.heap.size 9 1 (.slice (bO ⟨E,0,bN⟩) (k+1) c) (k+1)<|sv<|above L:=by rw[B.o,o9];exact b
  clear b d e a
  go_wp2
  go_ret
  exact⟨E,c,by rw[HN.o];rfl,by rw[HN.o];exact l,p⟩
def Gs:Zv->Nat
 | .slice _ n _=>n
 |_=>0
def RT{w:Zy}{b f e a:Nat}{v:Zv}{n:Nat}{xs:Ze}(j:b<=f)(h:w.ownsRow f e a v n xs):w.ownsRow b e a v n xs:=by
 refine⟨h.1,?_⟩;rcases h.2 with i|⟨g,c,d,l,k,r⟩
 exact .inl i;exact .inr ⟨g,c,d,l,xz j k,r⟩
def Fm(a:Option Addr)(cap:Nat)(w:Zy)(b:dF w):bE prog 108 #[.slice a 0 cap] w fun en w'=>en= .returned (zs<|J7 [])/\bC w.heap.size w w':=by
 have c:=zl b;clear b;go_enter func108.1,Tryz.ntmps108
 go_wp2
 refine(yX [] (by decide) _ c.o).mono ?_;rintro en w1 ⟨rfl,d⟩
 go_wp2
 go_ret
 exact⟨rfl,d⟩
def Fl(L:List Zl)(p:0<L.length)(hL:L.length<=256)(hp:∀x∈L,x.length<=4095)(g off cap:Nat)(w:Zy)(W:dF w)(Y:zH w g off L):
  bE prog 108 #[.slice (bO ⟨g,off,bN⟩) L.length cap] w fun en w'=>en= .returned (zs<|J7 L)/\bC w.heap.size w w':=by
 have Z:=zl W;have I:=W.pos;have hg:g<w.heap.size:=qz<|Y 0 p;have HL:=zl Y;have HP:=zl hp;clear W Y hp;obtain⟨i9,hi,J,K,M⟩:=NY;have be:((L.length:Int)==0)=bK:=by simp;intro h;simp[h]at p
 go_enter func108.1,Tryz.ntmps108
 go_wp2_with (refine wpList_make_own _ rfl _ _ 51 rfl w.heap.size 9 i9 _ 1 underlying51 hi J K .i64 .i64 _ L.length rfl rfl ?l1 ?b1 ?b2 ?b3 ?_)
 case l1=>rfl
 case b1=>rw[M];omega
 case b2=>unfold maxLen;omega
 case b3=>simp
 intro w1 a H;have G:=(zr _ _).grown H (ze _) (fun _ h=>by cases h);clear H
 go_wp2
 go_loopw [3,15] (fun v i wr=>∃(k r b:Nat),k<=L.length/\i=zi k/\v= .slice (bO ⟨r,0,bN⟩) k b/\wr.ownsRow w.heap.size 9 1 (.slice (bO ⟨r,0,bN⟩) k b) k (sv<|(L.map qL).take k)/\bC w.heap.size w wr) (fun _ i _=>(L.length-aJ i).toNat)
 case atStart=>exact⟨0,_,_,by omega,rfl,rfl,a,G⟩
 case round=>
  clear a G;obtain⟨k,r,b,hk,rfl,rfl,a,o⟩:=hrel;by_cases B:k<L.length
  ·obtain⟨x,y⟩:∃x,L[k]=x:=⟨_,rfl⟩
   have lx:=HP.o x (by rw[<-y];exact Zn _);have c0:wr.cell? (zq g<|off+k)=bO (zs x):=by have:=HL.o k B;rw[y]at this;exact(o.cell hg).trans this
   have i1:(k:Int)<(L.length:Nat):=by omega
   have HA:Hid<|(L.map qL).take (k+1)=(L.map qL).take k++[qL x]:=by show _=_;rw[xy<|by simpa using B,List.getElem_map,y]
   have HO:=zl a;have z:=zl<|Z.o.below I o;clear a y
   go_wp2
   refine(yX _ (by simp;omega) _ z.o).mono ?_;rintro en w2 ⟨rfl,m⟩;have c:=o.trans<|m.mono o.size;have d:=ZO HO.o m;clear m
   go_wp2_with (refine wpList_append_lies _ rfl _ _ 51 rfl w.heap.size 9 i9 _ 1 16 underlying51 hi J K M rfl (by decide) (.slice _ k b) k (sv<|(L.map qL).take k) rfl ?own _ 1 1 _ rfl rfl (VV _ _) (XI _) (by decide) ?m1 ?m2 ?m3 (w2.heap.size+1) ?m4 ?_)
   case own=>exact d.alloc _
   case m1=>unfold maxLen;omega
   case m2=>omega
   case m3=>have:=c.size;simp;omega
   case m4=>simp
   intro C f w4 q t F ba;have X:=(c.alloc c.size _).grown t (by have:=c.size;simp;omega)<|Vs d;have Q:w4.ownsRow w.heap.size 9 1 (.slice (bO ⟨C,0,bN⟩) (k+1) f) (k+1)<|sv<|(L.map qL).take<|k+1:=by rw[HA.o,o9];exact q
   clear q t F d c
   go_wp2
   go_roundw
   case rel=>exact⟨k+1,C,f,by omega,by go_num,rfl,Q,X⟩
   case measure=>simp[aJ];omega
  obtain rfl:k=L.length:=by omega
  rw[qj<|by simp]at a;have i1:¬((L.length:Nat):Int)<(L.length:Nat):=by omega
  obtain⟨R,D⟩:∃R,L.map qL=R:=⟨_,rfl⟩;have V:R.length=L.length:=by rw[<-D];simp
  have T:Hid<|∀x∈R,x.length=32:=by rw[<-D];exact xm4 L
  rw[D]at a;have HR:=zl D;clear D V
  go_wp2
  go_loopw [3] (fun v w2=>∃(j n r b:Nat),0<n/\n<=256/\v= .slice (bO ⟨r,0,bN⟩) n b/\w2.ownsRow w.heap.size 9 1 (.slice (bO ⟨r,0,bN⟩) n b) n (sv<|up j R)/\bC w.heap.size w w2) (fun v _=>Gs v)
  case atStart=>exact⟨0,_,_,_,p,hL,rfl,a,o⟩
  case round=>
   clear a o;obtain⟨j,n,r,b,bd,hn,rfl,a,o⟩:=hrel;obtain⟨s,bb,bc,e⟩:=Ls a;by_cases B:1<n
   ·have i2:(1:Int)<(n:Nat):=by omega
    have S:=zl s;have U:=zl e;have z:=zl<|Z.o.below I o;clear a s e
    go_wp2
    have l:=zu4 _ (by have:=S.o;omega) (by have:=S.o;omega) (eA j R T.o) r b wr z.o U.o;rw[<-S.o]at l;refine l.mono ?_;rintro en w2 ⟨C,f,rfl,d,m⟩;have E:(above<|up j R).length=(n+1)/2:=by rw[JA,<-S.o]
    have c:=o.trans<|m.mono o.size;rw[E]at d⊢;have O:w2.ownsRow w.heap.size 9 1 (.slice (bO ⟨C,0,bN⟩) ((n+1)/2) f) ((n+1)/2)<|sv<|up (j+1) R:=by
     rw[Dm];exact RT o.size d
    clear l d m E
    go_wp2
    go_roundw
    case rel=>exact⟨j+1,(n+1)/2,C,f,by omega,by omega,rfl,O,c⟩
    case measure=>simp[Gs];omega
   obtain rfl:n=1:=by omega
   obtain⟨x,y⟩:=List.length_eq_one_iff.1 s.symm;have c0:wr.cell? (zq r 0)=bO (zs x):=by
    have:=e 0 (by omega);rw[jy]at this;rw[this];simp[y]
   have HX:=zl (LO (by rw[HR.o];exact y) hL<|by intro h;rw[h]at p;simp at p);clear a s e y
   go_wp2
   go_ret
   exact⟨by rw[HX.o];rfl,o⟩
end
section
open Go.RowKit
attribute [local go_sem] xe zv
def Tq(a:Option Addr)(cap:Nat)(w:Zy)(b:dF w):bE prog 57 #[.slice a 0 cap] w fun en w'=>en= .returned (.tuple #[zs<|J7 [],zi 0])/\bC w.heap.size w w':=by
 have c:Hid<|dF w:=b;clear b;go_enter func57.1,Tryz.ntmps57
 go_wp2
 go_loopw [11] (fun i wr=>i=zi 0/\wr=w) (fun _ _=>0)
 case atStart=>exact⟨rfl,rfl⟩
 case round=>
  obtain⟨rfl,rfl⟩:=hrel
  go_wp2
  refine(Fm a cap _ c.o).mono ?_;rintro en w1 ⟨rfl,d⟩
  go_wp2
  go_ret2
  exact⟨rfl,d⟩
def Se(L:List Zl)(a:0<L.length)(m:L.length<=256)(j:∀x∈L,x.length<=4095)(g off cap:Nat)(w:Zy)(f:dF w)(h:zH w g off L):
  bE prog 57 #[.slice (bO ⟨g,off,bN⟩) L.length cap] w fun en w'=>en= .returned (.tuple #[zs<|J7 L,zi 0])/\bC w.heap.size w w':=by
 have l:Hid<|dF w:=f;have d:Hid<|zH w g off L:=h;have e:Hid<|∀x∈L,x.length<=4095:=j;clear f h j;have r:¬(256:Int)<(L.length:Nat):=by omega
 have p:decide ((256:Int)<(L.length:Nat))=bK:=by simp;omega
 go_enter func57.1,Tryz.ntmps57
 go_wp2
 go_loopw [11] (fun i wr=>∃k:Nat,k<=L.length/\i=zi k/\wr=w) (fun i _=>(L.length-aJ i).toNat)
 case atStart=>exact⟨0,by omega,rfl,rfl⟩
 case round=>
  obtain⟨k,hk,rfl,rfl⟩:=hrel;by_cases b:k<L.length
  ·obtain⟨x,c⟩:∃x,L[k]=x:=⟨_,rfl⟩
   have t:x.length<=4095:=e.o x (by rw[<-c];exact Zn _);have q:wr.cell? (zq g<|off+k)=bO (zs x):=by have:=d.o k b;rw[c]at this;exact this
   have o:(k:Int)<(L.length:Nat):=by omega
   have s:¬(4095:Int)<(x.length:Nat):=by omega
   clear c
   go_wp2
   go_roundw
   case rel=>exact⟨k+1,by omega,by go_num,trivial⟩
   case measure=>simp[aJ];omega
  obtain rfl:k=L.length:=by omega
  have o:¬((L.length:Nat):Int)<(L.length:Nat):=by omega
  go_wp2
  refine(Fl L a m e.o g off cap _ l.o d.o).mono ?_;rintro en w1 ⟨rfl,n⟩
  go_wp2
  go_ret2
  exact⟨rfl,n⟩
def xI:Nat->Zl->List Zl
 |0,_=>[]
 |n+1,l=>if l=[]then []else l.take 64::xI n (l.drop 64)
def Yq(l:Zl):List Zl:=xI l.length l
def Qh:∀(n m:Nat) (l:Zl),l.length<=n->l.length<=m->xI n l=xI m l
 |0,0,_,_,_=>rfl
 |0,m+1,l,h,_=>by
  have:l=[]:=xa (by omega);simp[xI,this]
 |n+1,0,l,_,h=>by
  have:l=[]:=xa (by omega);simp[xI,this]
 |n+1,m+1,l,h1,h2=>by
  by_cases a:l=[];simp[xI,a];have:0<l.length:=by cases l;exact absurd rfl a;simp
  simp only[xI,a,if_false];rw[Qh n m (l.drop 64) (by simp;omega)<|by simp;omega]
def RD:Yq []=[]:=rfl
def DY{l:Zl}(h:l≠[]):Yq l=l.take 64::Yq (l.drop 64):=by
 obtain⟨a,b,rfl⟩:∃a b,l=a::b:=by cases l;exact absurd rfl h;exact⟨_,_,rfl⟩
 unfold Yq;rw[show(a::b).length=b.length+1 from rfl];simp only[xI,h,if_false]
 congr 1
 exact Qh _ _ _ (by simp)<|by simp
def iU(x:Zl):Zv:= .string (st x)
def B_(x:Zl)(hx:x.length<=1000000)(w:Zy):bE prog 93 #[zs x] w fun e w'=>∃v,e= .returned v/\w'.ownsRow w.heap.size 9 1 v (Yq x).length ((Yq x).map iU)/\Nw w w':=by
 obtain⟨X,T,q,y,B⟩:=NY;go_enter func93.1,Tryz.ntmps93
 go_wp2
 go_loopw [0,3] (fun t v wr=>∃(D:List Zl) (r:Zl),t=zs r/\Yq x=D++Yq r/\D.length+r.length<=x.length/\wr.ownsRow w.heap.size 9 1 v D.length (D.map iU)/\Nw w wr) (fun t _ _=>match t with| .string s=>s.size|_=>0)
 case atStart=>exact⟨[],x,rfl,rfl,by simp,Vl _ _ _ _,xb.refl _ _⟩
 case round=>
  obtain⟨D,r,rfl,c,F,a,m⟩:=hrel;have C:=zl c;obtain⟨Q,i,rfl,E⟩:=Jh a;have p:=zl a;have o:=zl m;clear c a m;by_cases n:r=[]
  ·subst n
   have U:=xo [];have J:Hid<|Yq x=D:=by show _=_;rw[C.o,RD,Xq]
   go_wp2
   go_ret
   rw[J.o];exact⟨_,rfl,p.o,o.o⟩
  have U:¬(st r).toList=[]:=by rw[xo];exact n
  have V:(st r).toList.isEmpty=bK:=by rw[xo];cases r;exact absurd rfl n;rfl
  have W:0<r.length:=by cases r;exact absurd rfl n;simp
  have K:Hid<|Yq x=(D++[r.take 64])++Yq (r.drop 64):=by show _=_;rw[C.o,DY n];simp
  have G:min (64:Int) (r.length:Nat)=((min 64 r.length:Nat):Int):=by omega
  have L:Hid<|Value.string ((st r).extract 0<|min 64 r.length)=iU (r.take 64):=by
   show _=_;rw[yN];unfold iU
   congr 2
   rcases Nat.le_total 64 r.length with h|h;rw[Vg h];rw[Nat.min_eq_right h,qj<|ze _,qj h]
  have M:Hid<|(st r).extract (min 64 r.length) r.length=st (r.drop 64):=by
   show _=_;rw[J_]
   congr 1
   rcases Nat.le_total 64 r.length with h|h;rw[Vg h];rw[Nat.min_eq_right h,XV<|ze _,XV h]
  have hm1:((min 64 r.length:Nat):Int)<=(r.length:Nat):=by omega
  go_wp2_with (refine wpList_append_lies _ rfl _ _ 51 rfl w.heap.size 9 X _ 1 16 underlying51 T q y B rfl (by decide) (.slice Q _ i) D.length (D.map iU) rfl ?own _ 1 1 [.string<|(st r).extract 0<|min 64 r.length] rfl rfl ?nw ?o1 (by decide) ?m1 ?m2 ?m3 (wr.heap.size+1) ?m4 ?_)
  case own=>exact p.o.alloc _
  case m1=>unfold maxLen;omega
  case m2=>omega
  case m3=>have:=o.o.size;simp;omega
  case m4=>simp
  case o1=>intro z f;simp at f;rw[f];rfl
  case nw=>intro j z f;cases j with
   |zero=>simp at f;subst f;simp[go_sem,Addr.add]
   |succ j=>simp at f
  intro S g H b d k l;have I:Hid<|Nw w H:=by
   have R:=(zr _<|wr.alloc<|.cells _ 9).grown d (by have:=o.o.size;simp;omega)<|Vs p.o;exact(o.o.trans<|xb.alloc _).dH R
  have O:Hid<|H.ownsRow w.heap.size 9 1 (.slice (bO ⟨S,0,bN⟩) (D.length+1) g) (D++[r.take 64]).length<|(D++[r.take 64]).map iU:=by
   show World.ownsRow _ _ _ _ _ _ _;rw[Jd,zj];simp only[xq,DN,<-L.o];exact b
  clear b d k l
  go_wp2
  rw[M.o];refine⟨⟨D++[r.take 64],r.drop 64,rfl,K.o,by simp only[zj,zh,jn,jb];omega,O.o,I.o⟩,?_⟩;simp only[xe,jb];omega
def OP(w:Zy)(g:Nat)(xs:List Zl):Prop:=∀i (h:i<xs.length),w.cell? (zq g i)=bO (iU xs[i])
def OP.but{S:ZP}{w w':Zy}{g:Nat}{xs:List Zl}(h:OP w g xs)(a:xb S w w')(c:¬S g):OP w' g xs:=fun i b=>a.cell c<|h i b
def U_(w:Zy)(v:Zv)(xs:List Zl):Prop:=∃p g cap,v= .slice p xs.length cap/\(xs≠[]->p=bO ⟨g,0,bN⟩)/\OP w g xs
def Ul{w:Zy}{base:Nat}{v:Zv}{xs:List Zl}(h:w.ownsRow base 9 1 v xs.length<|xs.map iU):U_ w v xs:=by
 rcases h.2 with⟨b,e⟩|⟨g,d,a,k,m,f,n,l,o,j⟩;have:=xa e;subst this;exact⟨bN,0,0,b,fun x=>absurd rfl x,fun i c=>absurd c<|by simp⟩;refine⟨_,g,d,k,fun _=>rfl,fun i c=>?_⟩;have:a.toList[i]?=bO (iU xs[i]):=by
  have b:(a.toList.take<|xs.length*1)[i]?=bO (iU xs[i]):=by
   rw[j];simp[c]
  rw[Jf]at b;simpa[c]using b
 simp only[aQ,f];simpa using this
def J8(m:Mf)(ck:Zl)(xs:List Zl):List Zl:=xs.mapIdx fun i x=>iK ck (m.fH i) x
def zZ(m:Mf)(a:Zl)(xs:List Zl):(J8 m a xs).length=xs.length:=by simp[J8]
def yW(m:Mf)(a:Zl)(xs:List Zl)(k:Nat)(h:k<xs.length):(J8 m a xs).take (k+1)=(J8 m a xs).take k++[iK a (m.fH k) xs[k]]:=by
 have hk:k<(J8 m a xs).length:=by rw[zZ];exact h
 rw[xy hk];simp[J8]
def PQ(m:Mf)(i:Nat):(m.fH i).length=8:=by simp[Mf.fH,qt]
def xx.trans'{B:Nat}{w w':Zy}{r:Nat}{cs:Za}{t:Zt}(h:xx w r cs t)(a:bC B w w')(b:r<B):xx w' r cs t:=(a.block r b).trans h
def Pb(m:Mf)(xs:List Zl)(v:Zv)(b C:Zl)(Q:b.length=16)(hx:∀x∈xs,x.length<=4096)(hl:xs.length<=1000)(w:Zy)(hv:U_ w v xs):
  bE prog 92 #[m.V,v,.agg #[.string<|st b,.string<|st C]] w fun e w'=>∃v,e= .returned v/\w'.ownsRow w.heap.size 9 1 v xs.length ((J8 m b xs).map iU)/\Nw w w':=by
 obtain⟨i9,hi,U,X,Y⟩:=NY;obtain⟨p,g,bl,rfl,hp,H⟩:=hv;have HP:=zl hp;have HR:=zl H;have HX:=zl hx;have bc:=zl Q;clear hp H hx Q;obtain⟨wm,S,n,a⟩:=run_make_own (P:=prog) ((w.alloc<|.cells m.cells 164).alloc<|.cells #[.string<|st b,.string<|st C] 145) w.heap.size 51 9 i9 _ 1 underlying51 hi U X .i64 .i64 xs.length (by rw[Y];omega) (by unfold maxLen;omega) (by simp;omega);have BM:Hid<|xx wm w.heap.size m.cells 164:=by
  have s:=(xx.new w m.cells 164).alloc<|.cells #[.string<|st b,.string<|st C] 145;exact(a.block _ s.lt<|by simp).trans s
 have BK:Hid<|xx wm (w.heap.size+1) #[.string<|st b,.string<|st C] 145:=by
  have s:=xx.new (w.alloc<|.cells m.cells 164) #[.string<|st b,.string<|st C] 145;simp only[xh]at s;exact(a.block _ s.lt<|by simp).trans s
 have NM:Hid<|Nw w wm:=((xb.alloc _).trans<|xb.alloc _).trans ⟨a.os,a.output,a.size,fun k hk _=>a.block k hk<|by simp⟩;have bd:Hid<|wm.ownsRow (w.heap.size+2) 9 1 (.slice (bO ⟨w.heap.size+1+1,0,bN⟩) 0 xs.length) 0 []:=by
  refine⟨rfl,.inr ?_⟩;rcases n.2 with⟨s,_⟩|⟨g',bi,bf,hv,hg,r⟩
  cases s;simp only[xh]at hv;cases hv;exact⟨_,_,bf,rfl,by simp,r⟩
 simp only[xh]at S;unfold Mf.V;unfold Mf.cells at S;clear n a;go_enter func92.1,Tryz.ntmps92;unfold Mf.cells
 go_wp2
 go_loopw [7,15] (fun v i wr=>∃k:Nat,k<=xs.length/\i= .int .i64 k/\wr.ownsRow (w.heap.size+2) 9 1 v k (((J8 m b xs).take k).map iU)/\Nw w wr/\xx wr w.heap.size m.cells 164/\xx wr (w.heap.size+1) #[.string<|st b,.string<|st C] 145) (fun _ i _=>(xs.length-aJ i).toNat)
 case atStart=>exact⟨0,by omega,rfl,by simpa using bd.o,NM.o,BM.o,BK.o⟩
 case round=>
  obtain⟨k,hk,rfl,l,T,O,M⟩:=hrel;obtain⟨a4,F,rfl,bj⟩:=Jh l;have HO:=zl l;have HN:=zl T;have I:=zl O;have t:=zl M;clear l T O M;by_cases f:k<xs.length
  ·have i1:(k:Int)<(xs.length:Nat):=by omega
   have i0:(0:Int)<=(k:Int):=by omega
   have bh:=HP.o (fun e=>by rw[e]at f;simp at f);subst bh;have hc:=(HR.o.but HN.o id) k f;unfold iU at hc;have HT:=zl<|yW m b xs k f;have be:=zl<|HX.o _<|Zn f;generalize xs[k]=x at*;have c:Hid<|∀w1,xb (fun y=>w.heap.size+2<=y) wr w1->MC w.heap.size m m.root w1/\w1.cell? ⟨w.heap.size+1,0,bN⟩=bO (.string<|st b)/\w1.cell? ⟨w.heap.size+1,1,bN⟩=bO (.string<|st C):=fun w1 h=>by
    have s:=I.o.but h (by omega);have h2:=t.o.but h (by omega);exact⟨s.mc,h2.cell 0 rfl,h2.cell 1 rfl⟩
   have S0:=c.o wr<|xb.refl _ _;have E:Hid<|Nw wr wr.drew:=(xb.refl _ _).drew;have bk:w.heap.size+2<=wr.heap.size:=t.o.lt;have d:∀W:Zy,(W.alloc<|.cells #[.string<|st<|iK b (m.fH k) x] 9).cell? ⟨W.heap.size,0,bN⟩=bO (.string<|st<|iK b (m.fH k) x):=fun W=>(xx.new W _ 9).cell 0 rfl
   go_wp2
   go_region_held3 (fun w'=>MC w.heap.size m m.root w'/\w'.cell? ⟨w.heap.size+1,0,bN⟩=bO (.string<|st b)/\w'.cell? ⟨w.heap.size+1,1,bN⟩=bO (.string<|st C)) (first|exact S0|exact S1|exact SA)
    (first
     |(go_at_call 151;refine(I2 m k _).mono ?_;rintro e w3 ⟨rfl,hb⟩;have N3:Hid<|Nw wr w3:=E.o.trans<|xb.of_below hb;have S1:=c.o _<|N3.o.mono fun _ x=>x.elim)
     |(go_at_call 150;refine(ZI b C _ x bc.o (PQ m k) be.o _).mono ?_;rintro e Z ⟨rfl,hb⟩;have B:Hid<|Nw wr Z:=N3.o.trans<|xb.of_below hb;have S1:=c.o _<|B.o.mono fun _ x=>x.elim;have O4:=zl<|yU HO.o B.o fun _ _ x=>x;have bm:=B.o.size;have SA:=c.o (Z.alloc<|.cells #[.string<|st<|iK b (m.fH k) x] 9)<|(B.o.trans<|xb.alloc _).mono fun _ x=>x.elim)
     |(refine step_append_lies _ rfl _ _ 51 rfl _ 9 i9 _ 1 16 underlying51 hi U X Y rfl (by decide) (.slice a4 k F) k _ rfl (O4.o.alloc _) _ 1 1 [.string _] rfl rfl (by intro j z J;cases j with|zero=>simp at J;subst J;exact d Z|succ j=>simp at J) (by intro z J;simp at J;rw[J];rfl) (by decide) (by unfold maxLen;omega) (by omega) (by simp;omega) (Z.heap.size+1) (by simp) ?_;intro g2 K w5 o G L R;have D:=zl<|(zr _<|Z.alloc<|.cells _ 9).grown G (by simp;omega)<|Vs O4.o;have S1:=c.o _<|((B.o.trans<|xb.alloc _).mono fun _ x=>x.elim).trans ⟨D.o.os,D.o.output,D.o.size,fun q hq hs=>D.o.block q<|by omega⟩))
   have W5:Hid<|Nw w w5:=((HN.o.trans B.o).trans<|xb.alloc _).dH (D.o.mono<|by omega);have bb:=zl (((I.o.but B.o id).alloc _).trans' D.o<|by omega);have ba:=zl (((t.o.but B.o id).alloc _).trans' D.o<|by omega);have O5:Hid<|w5.ownsRow (w.heap.size+2) 9 1 (.slice (bO ⟨g2,0,bN⟩) (k+1) K) (k+1)<|((J8 m b xs).take<|k+1).map iU:=by
    show World.ownsRow _ _ _ _ _ _ _;rw[HT.o,Jd];exact o
   clear S0 S1 SA c E N3 B O4 o G L R D I t HO HN d
   try clear hHeld
   go_wp2
   go_roundw
   case rel=>exact⟨k+1,by omega,by go_num,O5.o,W5.o,bb.o,ba.o⟩
   case measure=>simp[aJ];omega
  have bg:k=xs.length:=by omega
  subst bg;have HF:Hid<|wr.ownsRow w.heap.size 9 1 (.slice a4 xs.length F) xs.length<|(J8 m b xs).map iU:=by
   have:=EG (base':=w.heap.size) HO.o (by omega);rw[qj<|by rw[zZ];exact ze _]at this;exact this
  go_wp2
  go_ret
  exact⟨_,rfl,HF.o,HN.o⟩
def zV:Nat->Zl->Zl->KV->Option KV
 |_,[],_,L=>bO L
 |0,_::_,_,_=>bN
 |n+1,a::l,ab,L=>match jS (a::l)with
  |some ((k,v),r)=>if ab<k then zV n r k (dA L k v)else bN
  |none=>bN
def rH(l:Zl):Option KV:=zV l.length l [] []
def dC:∀(n m:Nat) (l ab:Zl) (L:KV),l.length<=n->l.length<=m->zV n l ab L=zV m l ab L
 |0,0,_,_,_,_,_=>rfl
 |0,m+1,l,ab,L,h,_=>by
  have:l=[]:=xa (by omega);subst this;rfl
 |n+1,0,l,ab,L,_,h=>by
  have:l=[]:=xa (by omega);subst this;rfl
 |n+1,m+1,[],ab,L,_,_=>rfl
 |n+1,m+1,a::l,ab,L,h1,h2=>by
  simp only[zV];cases hp:jS (a::l)with
  |none=>rfl
  |some q=>
   obtain⟨⟨k,v⟩,r⟩:=q;have:=RH hp;simp only[zh]at h1 h2 this;simp only;rw[dC n m r k _ (by omega)<|by omega]
def xM(r ab:Zl)(L:KV):Option KV:=zV r.length r ab L
def cY(a:Zl)(L:KV):xM [] a L=bO L:=rfl
def Qy{r:Zl}(d:r≠[])(c:Zl)(L:KV):xM r c L=match jS r with
  |some ((k,v),b)=>if c<k then xM b k (dA L k v)else bN
  |none=>bN:=by
 obtain⟨a,l,rfl⟩:∃a l,r=a::l:=by cases r;exact absurd rfl d;exact⟨_,_,rfl⟩
 unfold xM;rw[show(a::l).length=l.length+1 from rfl];simp only[zV];cases hp:jS (a::l)with
 |none=>rfl
 |some q=>
  obtain⟨⟨k,v⟩,b⟩:=q;have:=RH hp;simp only[zh]at this;simp only;rw[dC l.length b.length b k _ (by omega)<|ze _]
def xmy(k a:Zl):(!Op.bytesLess (st k).toList (st a).toList&& !(st k).toList==(st a).toList)=decide (a<k):=by
 rw[xo,xo,bytesLess_eq];by_cases h:a<k;have c:¬k<a:=fun x=>W9 _<|List.lt_trans h x;have b:k≠a:=fun e=>by subst e;exact W9 _ h
 simp[h,c,b];by_cases b:k=a;subst b;simp[h];have c:k<a:=by
  have d:=List.not_lt.1 h;exact Std.lt_of_le_of_ne d b
 simp[h,c]
def F6(tv:Zv)(l:Zl)(w:Zy)(e:Ending)(w':Zy):Prop:=
 Nw w w'/\(match rH l with|some L=>∃m,e= .returned (.map<|bO m)/\w.heap.size<=m/\Xd w' m L|none=>e=eF tv)
def Ky{tv:Zv}{l:Zl}{w w':Zy}(h:rH l=bN)(a:Nw w w'):F6 tv l w (eF tv) w':=by
 unfold F6;rw[h];exact⟨a,rfl⟩
def xF{tv:Zv}(l:Zl)(w:Zy)(bf:1<w.heap.size)(T:Wh tv w):bE prog 241 #[.string<|st l] w<|F6 tv l w:=by
 have M:=zl T;have F:=run_makeMap (P:=prog) 143<|w.alloc<|.cells #[.string<|st l] 277;have V:=zl<|(xx.new w #[.string<|st l] 277).alloc<|.map #[] 0;have M0:Hid<|Xd ((w.alloc<|.cells #[.string<|st l] 277).alloc<|.map #[] 0) (w.heap.size+1) []:=by
  refine⟨#[],0,?_,rfl,MapKept.stamped_empty 0⟩;have:=jw (w.alloc<|.cells #[.string<|st l] 277)<|.map #[] 0;simp only[xh]at this;exact this
 have N0:Hid<|Nw w<|(w.alloc<|.cells #[.string<|st l] 277).alloc<|.map #[] 0:=(xb.alloc _).trans<|xb.alloc _;simp only[xh]at F;clear T;go_enter func241.1,Tryz.ntmps241
 go_wp2
 generalize(w.alloc<|.cells #[.string<|st l] 277).alloc (.map #[] 0)=w0 at*
 go_loopw [5] (fun a wr=>∃(r j:Zl) (L:KV),a= .string (st j)/\rH l=xM r j L/\xx wr w.heap.size #[.string<|st r] 277/\Xd wr (w.heap.size+1) L/\Nw w wr) (fun _ wr=>leftOf w.heap.size wr)
 case atStart=>exact⟨l,[],[],rfl,rfl,V.o,M0.o,N0.o⟩
 case round=>
  obtain⟨r,j,L,rfl,x,b,p,i⟩:=hrel;have g:=zl x;have K:=zl b;have C:=zl p;have z:=zl i;have c0:wr.cell? ⟨w.heap.size,0,bN⟩=bO (.string<|st r):=b.cell 0 rfl;have HZ:=zl<|DV b;have Y:=zl<|M.o.but i id;clear x b p i;by_cases B:r=[]
  ·subst B
   have hn:=xo [];have HE:Hid<|rH l=bO L:=by show _=_;rw[g.o,cY]
   go_wp2
   go_ret
   refine⟨z.o,?_⟩;rw[HE.o];exact⟨_,rfl,by omega,C.o⟩
  have hn:¬(st r).toList=[]:=by rw[xo];exact B
  have bc:(st r).toList.isEmpty=bK:=by rw[xo];cases r;exact absurd rfl B;rfl
  have D:Hid (rH l=match jS r with
    |some ((k,v),y)=>if j<k then xM y k (dA L k v)else bN
    |none=>bN):=by show _=_;rw[g.o,Qy B]
  clear g
  go_wp2
  refine(Ry r (by omega) K.o Y.o).mono ?_;intro e m s;unfold AJ at s;cases hq:jS r with
  |none=>
   rw[hq]at s;obtain⟨d,rfl⟩:=s;exact⟨rfl,Ky (by rw[D.o,hq])<|z.o.fresh (ze _) d⟩
  |some q=>
   obtain⟨⟨k,v⟩,y⟩:=q;rw[hq]at s;obtain⟨d,rfl,o⟩:=s;have n:Hid<|rH l=if j<k then xM y k (dA L k v)else bN:=by show _=_;rw[D.o,hq]
   have E:=RH hq;have Q:Hid<|Nw w m:=z.o.fresh (ze _) d;have W:=zl o;have O:=zl (C.o.but d<|by omega);have be:=O.o.lt;clear d o hq D K C z c0
   go_wp2
   rw[xmy];have Z:=zl<|M.o.but (Q.o.trans<|xb.alloc<|.cells #[.string<|st k,.string<|st v] 104) id;have X:=zl<|W.o.alloc<|.cells #[.string<|st k,.string<|st v] 104;have J:Hid<|xx (m.alloc<|.cells #[.string<|st k,.string<|st v] 104) m.heap.size #[.string<|st k,.string<|st v] 104:=xx.new _ _ _;have MA:=zl<|O.o.but (S:=fun _=>False) (xb.alloc<|.cells #[.string<|st k,.string<|st v] 104) id;have R:Hid<|Nw w<|m.alloc<|.cells #[.string<|st k,.string<|st v] 104:=Q.o.trans<|xb.alloc _;have bd:m.heap.size≠w.heap.size+1:=by omega
   generalize m.alloc (.cells #[.string<|st k,.string<|st v] 104)=wA at*;by_cases c:j<k
   ·refine(Yb _ (by simpa using c) _).mono ?_
    rintro e w3 ⟨rfl,H⟩;obtain rfl:=H.symm;have ba:=J.o.cell 0 rfl;have bb:=J.o.cell 1 rfl;obtain⟨U,f,h,t⟩:=Bf (P:=prog) yO underlying9 MA.o k v;have G:(Instr.mapUpdate 143 (.map<|bO<|w.heap.size+1) (.string<|st k)<|.agg #[.string<|st v]).run prog wA= .ok () U:=f;have HF:Hid<|rH l=xM y k (dA L k v):=by show _=_;rw[n.o,aA c]
    have I:=zl (X.o.but h<|by omega);have M4:=zl t;have N4:Hid<|Nw w U:=R.o.fresh (by omega) h;have Z4:=zl<|DV I.o;clear f h t
    go_wp2
    go_roundw
    case rel=>exact⟨y,k,dA L k v,rfl,HF.o,I.o,M4.o,N4.o⟩
    case measure=>rw[HZ.o,Z4.o];exact E
   refine(Xu _ (by simpa using c) _ Z.o).mono ?_;rintro e w3 ⟨rfl,rfl⟩;exact⟨rfl,Ky (by rw[n.o,aB c]) R.o⟩
def Sr.roomFor(r:Sr)(n:Nat):Nat:=if qu r.d.L 0=[]then n+116 else n
def tW(B:Nat)(r:Sr)(x:Zl)(hx:x.length<=1000000)(w:Zy)(h:Jq w B r):bE prog 88 #[zo B,zs x] w fun e w'=>e= .returned (zi<|r.roomFor x.length)/\w'=w:=by
 have j:=zl h;have m:w.cell? (zq B 2)=bO (zo r.D):=h.blk.cell 2 rfl;clear h;go_enter func88.1,Tryz.ntmps88
 go_wp2
 refine(AV r.D r.d 0 _ j.o.disk).mono ?_;rintro e w1 ⟨rfl,g⟩;obtain rfl:=g.symm;obtain⟨c,b⟩:∃c,qu r.d.L 0=c:=⟨_,rfl⟩;have i:Hid<|r.roomFor x.length=if c=[]then x.length+116 else x.length:=by show _=_;unfold Sr.roomFor;rw[b]
 rw[b];clear b;cases c with
 |nil=>
  have k:=xo []
  go_wp2
  go_ret
  exact⟨by rw[i.o];simp,rfl⟩
 |cons a f=>
  have k:¬(st (a::f)).toList=[]:=by rw[xo];simp
  have l:(st (a::f)).toList.isEmpty=bK:=by rw[xo];rfl
  go_wp2
  go_ret
  exact⟨by rw[i.o];rfl,rfl⟩
def lK(m:Mf):List Int->Dk->Bool×Dk
 |[],d=>(bL,d)
 |n::ns,d=>if n=0\/n=(m.file:Int)then lK m ns d else if d.stops=bL then(bK,d.lost)else lK m ns (d.rem n)
def qB(m:Mf)(sl:Zl)(d:Dk):Bool×Dk:=if d.stops=bL then(bK,d.lost)else lK m (Xs (d.mG 0 sl).L) (d.mG 0 sl)
def Sr.lays(r:Sr)(m:Mf)(pt sl:Zl):Bool×Dk:=
 if pt=[]then qB m sl r.d
 else if r.d.stops=bL then(bK,r.d.lost)
 else if(r.d.app m.file pt).stops=bL then(bK,(r.d.app m.file pt).lost)
 else qB m sl ((r.d.app m.file pt).mR m.file)
def UE(cv:Zv)(B:Nat)(r:Sr)(x:Bool×Dk)(w:Zy)(e:Ending)(w':Zy):Prop:=
 e=(if x.1=bL then .returned (.tuple #[])else eF cv)/\jt B r w {r with d:=x.2} w'
def sB{cv tv:Zv}(B:Nat)(r:Sr)(m:Mf)(pt sl:Zl)(w:Zy)(h:Jq w B r)(F:fV B r)(hG:iA cv tv w)(cp:r.d.L.length+2<1000000)(cu:sl.length<=1000000)(ct:(qu r.d.L m.file).length+pt.length<=1000000)(cs:m.file<=1000000):
  bE prog 95 #[zo B,m.V,zs pt,zs sl] w (UE cv B r (r.lays m pt sl) w):=by
 have Z:Hid<|Xg w r.D r.d:=h.disk;have HB:Hid<|xx w B r.cells 94:=h.blk;have HG:Hid<|mJ cv w:=hG.FT;have z:Hid<|¬r.d.own r.D B:=h.fB;have HK:Hid<|dL r.D r.d:=F.FU;have HZ:Hid<|¬r.d.own r.D 0:=F.FU.zero;have HT:Hid<|∀s a,r.lays m pt sl=(bL,a)->xb (r.d.own r.D) w s->Xg s r.D a->(∀y,a.own r.D y->r.d.own r.D y)->a.M=r.d.M->UE cv B r (r.lays m pt sl) w (.returned<|.tuple #[]) s:=fun s a h1 h2 h3 h4 h5=>by
  rw[h1];exact⟨rfl,jt.disk h h2 h3 h5 h4⟩
 have HF:Hid<|∀s a,r.lays m pt sl=(bK,a)->xb (r.d.own r.D) w s->Xg s r.D a->(∀y,a.own r.D y->r.d.own r.D y)->a.M=r.d.M->UE cv B r (r.lays m pt sl) w (eF cv) s:=fun s a h1 h2 h3 h4 h5=>by
  rw[h1];exact⟨rfl,jt.disk h h2 h3 h5 h4⟩
 have NA:Hid<|xb (r.d.own r.D) w<|w.alloc<|.cells m.cells 164:=xb.alloc _;have XM:Hid<|xx (w.alloc<|.cells m.cells 164) w.heap.size m.cells 164:=xx.new _ _ _;have cq:=h.blk.lt;have W:Hid<|xx (w.alloc<|.cells m.cells 164) B r.cells 94:=h.blk.alloc _;clear h F hG;unfold Mf.V;unfold Mf.cells;go_enter func95.1,Tryz.ntmps95;by_cases hp:pt=[]
 focus
  subst hp;have hn:(st ([]:Zl)).toList=[]:=xo [];have HS:Hid<|r.lays m [] sl=qB m sl r.d:=by show _=_;unfold Sr.lays;rw[aA rfl]
  have XD:Hid<|Xg (w.alloc<|.cells m.cells 164) r.D r.d:=Z.o.but (xb.alloc _) fun _ _=>id;have X:Hid<|dL r.D r.d:=HK.o;have XG:Hid<|mJ cv<|w.alloc<|.cells m.cells 164:=HG.o.but NA.o HZ.o;have v:Hid<|xb (r.d.own r.D) w<|w.alloc<|.cells m.cells 164:=NA.o;have t:Hid<|∀y,r.d.own r.D y->r.d.own r.D y:=fun _ x=>x;have XF:Hid<|r.d.L.length<1000000:=by show _<_;omega
  clear NA;unfold Mf.cells at XM XD XG v W;have e2:=W.o.cell 2 rfl;change aQ _ _=bO (zo r.D)at e2
  go_wp2
  generalize w.alloc (.cells _ 164)=T at*;refine(Nz r.D r.d 0 sl _ XD.o X.o XG.o).mono ?_;rintro e G ⟨f,⟨rfl,k,b⟩|⟨rfl,k,b⟩⟩;rotate_left;exact⟨rfl,HF.o _ _ (by rw[HS.o];unfold qB;rw[aA b.o]) (v.o.trans<|f.mono t.o) k (fun y l=>t.o y<|Dk.dQ _ _ _ l)<|(Dk.gQ _)⟩;have DA:Hid<|Xg G r.D<|r.d.mG 0 sl:=k;have KA:Hid<|dL r.D<|r.d.mG 0 sl:=X.o.step b.o<|X.o.files.lay (by unfold i64;omega) (by simp only;omega) XF.o;have OA:Hid<|∀y,(r.d.mG 0 sl).own r.D y->r.d.own r.D y:=fun y l=>t.o y<|(Dk.dS r.d r.D y).1 l;have MA:Hid<|(r.d.mG 0 sl).M=r.d.M:=(Dk.eB r.d);have BA:Hid<|xb (r.d.own r.D) w G:=v.o.trans<|f.mono t.o;have bd:Hid<|r.lays m [] sl=lK m (Xs (r.d.mG 0 sl).L) (r.d.mG 0 sl):=by show _=_;rw[HS.o];unfold qB;rw[aB<|by rw[b.o];decide]
  have BB:Hid<|xx G B r.cells 94:=HB.o.but BA.o z.o;have Q:Hid<|xx T w.heap.size m.cells 164:=XM.o;have BX:Hid<|xx G w.heap.size m.cells 164:=Q.o.but f (fun x=>by have:=Dk.bX Z.o<|t.o _ x;omega);have g2:G.cell? (zq B 2)=bO (zo r.D):=BB.o.cell 2 rfl;clear f k b XD X XG v t XM W XF HS e2 Q;generalize r.d.mG 0 sl=dd at*
  go_wp2
 rotate_left
 focus
  have hn:¬(st pt).toList=[]:=by rw[xo];exact hp
  have ci:(st pt).toList.isEmpty=bK:=by rw[xo];cases pt;exact absurd rfl hp;rfl
  have v:Hid<|xb (r.d.own r.D) w<|w.alloc<|.cells m.cells 164:=NA.o;have XN:Hid<|Nw w<|w.alloc<|.cells m.cells 164:=xb.alloc _;have bp:Hid<|r.lays m pt sl=if r.d.stops=bL then(bK,r.d.lost)else if(r.d.app m.file pt).stops=bL then(bK,(r.d.app m.file pt).lost)else qB m sl ((r.d.app m.file pt).mR m.file):=by show _=_;unfold Sr.lays;rw[aB hp]
  clear NA hp;unfold Mf.cells at XM v XN W
  go_wp2
  generalize w.alloc (.cells _ 164)=wA at*;have bo:Hid<|xx wA w.heap.size m.cells 164:=XM.o;have be:Hid<|∀w1,xb (r.d.own r.D) wA w1->w1.cell? (zq B 2)=bO (zo r.D)/\w1.cell? (zq w.heap.size 5)=bO (zi m.file):=fun w1 hh=>⟨(W.o.but hh z.o).cell 2 rfl,(bo.o.but hh fun x=>by have:=Dk.bX Z.o x;omega).cell 5 rfl⟩;have S0:=be.o wA<|xb.refl _ _;have br:Hid<|bE prog 153 #[zo r.D,zi m.file,zs pt] wA.drew<|Yz cv r.D r.d (Yx r.d.L m.file (qu r.d.L m.file++pt,(Vu r.d.L m.file).2)) wA.drew:=Qm r.D r.d _ pt (by omega) _ (Z.o.but XN.o.drew fun _ _=>id) HK.o<|HG.o.but XN.o.drew id
  go_region_held2 (fun s=>s.cell? (zq B 2)=bO (zo r.D)/\s.cell? (zq w.heap.size 5)=bO (zi m.file)) (first|exact S0|exact S1)
   ((go_at_call 153;refine br.o.mono ?_;rintro e U ⟨hb,⟨rfl,hd,b⟩|⟨rfl,hd,b⟩⟩;rotate_left;(exact⟨rfl,HF.o _ _ (by rw[bp.o,aA b.o]) (v.o.drew.trans hb) hd (fun y l=>Dk.dQ _ _ _ l)<|Dk.gQ _⟩);have Y1:Hid<|xb (r.d.own r.D) wA U:=(xb.refl _ _).drew.trans hb;have D1:Hid<|Xg U r.D<|r.d.app m.file pt:=hd;have K:Hid<|r.d.stops=bK:=b.o;have S1:=be.o U Y1.o))
  have bc:Hid<|r.lays m pt sl=if(r.d.app m.file pt).stops=bL then(bK,(r.d.app m.file pt).lost)else qB m sl ((r.d.app m.file pt).mR m.file):=by show _=_;rw[bp.o,aB<|by rw[K.o];decide]
  have K1:Hid<|dL r.D<|r.d.app m.file pt:=by
   refine HK.o.step K.o (HK.o.files.lay (by unfold i64;omega) ?_<|by omega);have h1:=HK.o.files.each.dat m.file;have h5:(Vu r.d.L m.file).1.length=(qu r.d.L m.file).length:=rfl;simp only[zj];omega
  have O1:Hid<|∀y,(r.d.app m.file pt).own r.D y->r.d.own r.D y:=fun y l=>(Dk.dS r.d r.D y).1 l;have M1:Hid<|(r.d.app m.file pt).M=r.d.M:=Dk.eB r.d;have F1:Hid<|(r.d.app m.file pt).L.length<=r.d.L.length+1:=by
   show(Yx r.d.L m.file _).length<=_;unfold Yx;split;have:=RF r.d.L m.file;omega;exact(TI _ _ _).1
  have bq:Hid<|(qu (r.d.app m.file pt).L m.file).length<=1000000:=by
   have:=(K1.o.files.each.dat m.file).2.2;exact this
  obtain⟨a,b2⟩:∃a,r.d.app m.file pt=a:=⟨_,rfl⟩;rw[b2]at bc K1 O1 M1 F1 D1 bq;have bg:Hid<|xb (r.d.own r.D) w U:=v.o.trans Y1.o;have B1:Hid<|xx U B r.cells 94:=W.o.but Y1.o z.o;have bv:Hid<|xx U w.heap.size m.cells 164:=bo.o.but Y1.o (fun x=>by have:=Dk.bX Z.o x;omega);have J:Hid<|∀w1,xb (r.d.own r.D) U w1->w1.cell? (zq B 2)=bO (zo r.D)/\w1.cell? (zq w.heap.size 5)=bO (zi m.file):=fun w1 hh=>be.o w1<|Y1.o.trans hh;have bu:Hid<|bE prog 154 #[zo r.D,zi m.file] U.drew<|Yz cv r.D a (Yx a.L m.file (qu a.L m.file,(qu a.L m.file).length)) U.drew:=Tn r.D a _ _ (D1.o.but (xb.refl _ _).drew fun _ _=>id) K1.o<|HG.o.but bg.o.drew HZ.o;have b0:=J.o U<|xb.refl _ _;clear b2 S0 S1 be bp K Y1 br XM v XN W bo
  try clear hHeld
  go_wp2
  go_region_held2 (fun s=>s.cell? (zq B 2)=bO (zo r.D)/\s.cell? (zq w.heap.size 5)=bO (zi m.file)) (first|exact b0|exact b1)
   ((go_at_call 154;refine bu.o.mono ?_;rintro e T ⟨hb,⟨rfl,hd,b⟩|⟨rfl,hd,b⟩⟩;rotate_left;(exact⟨rfl,HF.o _ _ (by rw[bc.o,aA b.o]) (bg.o.drew.trans<|hb.mono O1.o) hd (fun y l=>O1.o y<|Dk.dQ _ _ _ l)<|(Dk.gQ _).trans M1.o⟩);have Y2:Hid<|xb (r.d.own r.D) U T:=(xb.refl _ _).drew.trans<|hb.mono O1.o;have D2:Hid<|Xg T r.D<|a.mR m.file:=hd;have O:Hid<|a.stops=bK:=b.o;have b1:=J.o T Y2.o))
  have HS:Hid<|r.lays m pt sl=qB m sl (a.mR m.file):=by show _=_;rw[bc.o,aB<|by rw[O.o];decide]
  have X:Hid<|dL r.D<|a.mR m.file:=K1.o.step O.o (K1.o.files.lay (by unfold i64;omega) (by have:=bq.o;simp only;omega)<|by have:=F1.o;omega);have t:Hid<|∀y,(a.mR m.file).own r.D y->r.d.own r.D y:=fun y l=>O1.o y<|(Dk.dS a r.D y).1 l;have bf:Hid<|(a.mR m.file).M=r.d.M:=(Dk.eB a).trans M1.o;have XF:Hid<|(a.mR m.file).L.length<1000000:=by
   show(Yx a.L m.file _).length<_;have:=F1.o;unfold Yx;split;have:=RF a.L m.file;omega;have:=(TI a.L m.file (qu a.L m.file,((qu a.L m.file).length:Int))).1;omega
  obtain⟨E,b3⟩:∃E,a.mR m.file=E:=⟨_,rfl⟩;rw[b3]at HS X t bf XF D2;have XD:Hid<|Xg T r.D E:=D2.o;have v:Hid<|xb (r.d.own r.D) w T:=bg.o.trans Y2.o;have XG:Hid<|mJ cv T:=HG.o.but v.o HZ.o;have W:Hid<|xx T B r.cells 94:=B1.o.but Y2.o z.o;have XM:Hid<|xx T w.heap.size m.cells 164:=bv.o.but Y2.o (fun x=>by have:=Dk.bX Z.o x;omega);clear b3 b0 b1 J bc O Y2 D2 bg B1 bv bu K1 O1 M1 F1 D1 bq hn ci
  try clear hHeld
  have e2:=W.o.cell 2 rfl;change aQ _ _=bO (zo r.D)at e2
  go_wp2
  skip;refine(Nz r.D E 0 sl _ XD.o X.o XG.o).mono ?_;rintro e G ⟨f,⟨rfl,k,b⟩|⟨rfl,k,b⟩⟩;rotate_left;exact⟨rfl,HF.o _ _ (by rw[HS.o];unfold qB;rw[aA b.o]) (v.o.trans<|f.mono t.o) k (fun y l=>t.o y<|Dk.dQ _ _ _ l)<|(Dk.gQ _).trans bf.o⟩;have DA:Hid<|Xg G r.D<|E.mG 0 sl:=k;have KA:Hid<|dL r.D<|E.mG 0 sl:=X.o.step b.o<|X.o.files.lay (by unfold i64;omega) (by simp only;omega) XF.o;have OA:Hid<|∀y,(E.mG 0 sl).own r.D y->r.d.own r.D y:=fun y l=>t.o y<|(Dk.dS E r.D y).1 l;have MA:Hid<|(E.mG 0 sl).M=r.d.M:=(Dk.eB E).trans bf.o;have BA:Hid<|xb (r.d.own r.D) w G:=v.o.trans<|f.mono t.o;have bd:Hid<|r.lays m pt sl=lK m (Xs (E.mG 0 sl).L) (E.mG 0 sl):=by show _=_;rw[HS.o];unfold qB;rw[aB<|by rw[b.o];decide]
  have BB:Hid<|xx G B r.cells 94:=HB.o.but BA.o z.o;have Q:Hid<|xx T w.heap.size m.cells 164:=XM.o;have BX:Hid<|xx G w.heap.size m.cells 164:=Q.o.but f (fun x=>by have:=Dk.bX Z.o<|t.o _ x;omega);have g2:G.cell? (zq B 2)=bO (zo r.D):=BB.o.cell 2 rfl;clear f k b XD X XG v t XM W XF HS e2 bf Q;generalize E.mG 0 sl=dd at*
  go_wp2
 all_goals
  refine(QK r.D dd G DA.o KA.o.files).mono ?_;rintro e w1 ⟨p,g,co,rfl,hp,hg,bn,R⟩;have HP:Hid<|Xs dd.L≠[]->p=bO ⟨g,0,bN⟩:=hp;have HR:Hid<|DK w1 g<|Xs dd.L:=bn;have cb:Hid<|xb (r.d.own r.D) w w1:=BA.o.trans<|xb.of_below R;have ca:Hid<|Xg w1 r.D dd:=DA.o.but (xb.of_below R) fun _ _=>id;have b9:Hid<|xx w1 w.heap.size m.cells 164:=BX.o.below R;have b8:Hid<|xx w1 B r.cells 94:=BB.o.below R;have bz:Hid<|(Xs dd.L).length<=1000000:=by show _<=_;rw[yZ];exact KA.o.files.cnt
  have ce:Hid<|¬r.d.own r.D g:=fun x=>by have:=Dk.bX Z.o x;have:=BA.o.size;omega
  clear hp bn R DA BA BX BB g2;obtain⟨c,b7⟩:∃c,Xs dd.L=c:=⟨_,rfl⟩;rw[b7]at HP HR bz bd⊢;clear b7
  go_wp2
  go_loopw [39] (fun i wr=>∃(j:Nat) (a:Dk),j<=c.length/\i=zi j/\xb (r.d.own r.D) w wr/\xb (r.d.own r.D) w1 wr/\Xg wr r.D a/\dL r.D a/\(∀y,a.own r.D y->r.d.own r.D y)/\a.M=r.d.M/\lK m (c.drop j) a=lK m c dd) (fun i _=>(c.length-aJ i).toNat)
  case atStart=>exact⟨0,dd,by omega,rfl,cb.o,xb.refl _ _,ca.o,KA.o,OA.o,MA.o,rfl⟩
  case round=>
   obtain⟨j,a,hj,rfl,hb,bi,b4,F,bm,b6,b5⟩:=hrel;have cr:=bz.o;have C:Hid<|xb (r.d.own r.D) w wr:=hb;have Y:Hid<|xb (r.d.own r.D) w1 wr:=bi;have ba:Hid<|Xg wr r.D a:=b4;have H:Hid<|dL r.D a:=F;have o:Hid<|∀y,a.own r.D y->r.d.own r.D y:=bm;have I:Hid<|a.M=r.d.M:=b6;have bb:Hid<|lK m (c.drop j) a=lK m c dd:=b5;have bt:xx wr w.heap.size m.cells 164:=b9.o.but bi (fun x=>by have:=Dk.bX Z.o x;omega);have bs:xx wr B r.cells 94:=b8.o.but bi z.o;have c5:wr.cell? (zq w.heap.size 5)=bO (zi m.file):=bt.cell 5 rfl;have c2:wr.cell? (zq B 2)=bO (zo r.D):=bs.cell 2 rfl;clear hb bi b4 F bm b6 b5 bt bs;by_cases bk:j<c.length
   ·have i1:(j:Int)<(c.length:Nat):=by omega
    have i0:(0:Int)<=(j:Int):=by omega
    have cj:=HP.o (fun e=>by rw[e]at bk;simp at bk);subst cj;have hc:=(HR.o.but Y.o ce.o) j bk;have bx:Hid (c.drop j=c[j]::c.drop (j+1)):=Vd bk;generalize c[j]=n at*;by_cases q:n=0\/n=(m.file:Int)
    ·have HN:Hid<|lK m (c.drop<|j+1) a=lK m c dd:=by
      show _=_;rw[<-bb.o,bx.o];simp only[lK,aA q]
     by_cases S:n=0
     ·subst S
      clear q
      go_wp2
      go_roundw
      case rel=>exact⟨j+1,a,by omega,by go_num,C.o,Y.o,ba.o,H.o,o.o,I.o,HN.o⟩
      case measure=>simp[aJ];omega
     have bl:n=(m.file:Int):=q.resolve_left S;subst bl;clear q
     go_wp2
     go_roundw
     case rel=>exact⟨j+1,a,by omega,by go_num,C.o,Y.o,ba.o,H.o,o.o,I.o,HN.o⟩
     case measure=>simp[aJ];omega
    have HN:Hid<|lK m (c.drop j) a=if a.stops=bL then(bK,a.lost)else lK m (c.drop<|j+1) (a.rem n):=by
     show _=_;rw[bx.o];simp only[lK,aB q]
    have S:¬n=0:=fun e=>q<|.inl e;have bl:¬n=(m.file:Int):=fun e=>q<|.inr e;have cl:decide (n=0)=bK:=by simpa using S
    have cn:decide (n=(m.file:Int))=bK:=by simpa using bl
    have cm:(n != (m.file:Int))=bL:=by simpa using bl
    have ck:(n != 0)=bL:=by simpa using S
    have GR:Hid<|mJ cv wr:=HG.o.but C.o HZ.o;clear q
    go_wp2
    refine(f_ r.D a n _ ba.o H.o GR.o).mono ?_;rintro e w3 ⟨bh,⟨rfl,bj,b⟩|⟨rfl,bj,b⟩⟩;rotate_left;exact⟨rfl,HF.o _ _ (by rw[bd.o,<-bb.o,HN.o,aA b.o]) (C.o.trans<|bh.mono o.o) bj (fun y l=>o.o y<|Dk.dQ a r.D y l)<|(Dk.gQ a).trans I.o⟩;have cc:Hid<|xb (r.d.own r.D) w w3:=C.o.trans<|bh.mono o.o;have bw:Hid<|xb (r.d.own r.D) w1 w3:=Y.o.trans<|bh.mono o.o;have cd:Hid<|Xg w3 r.D<|a.rem n:=bj;have cf:Hid<|dL r.D<|a.rem n:=H.o.step b.o<|H.o.files.del n;have cg:Hid<|lK m (c.drop<|j+1) (a.rem n)=lK m c dd:=by show _=_;rw[<-bb.o,HN.o,aB<|by rw[b.o];decide]
    clear bh bj b
    go_wp2
    go_roundw
    case rel=>exact⟨j+1,a.rem n,by omega,by go_num,cc.o,bw.o,cd.o,cf.o,fun y l=>o.o y<|(Dk.jE a n r.D y).1 l,(Dk.GD a n).trans I.o,cg.o⟩
    case measure=>simp[aJ];omega
   have ch:j=c.length:=by omega
   subst ch
   go_wp2
   go_end0
   exact HT.o _ _ (bd.o.trans<|bb.o.symm.trans<|by rw[List.drop_length];rfl) C.o ba.o o.o I.o
def Mf.text(m:Mf):Zl:=77::(nb m.ep 1++(nb m.op 2++(nb m.cnt 4++(nb m.bP 2++(nb m.base 4++(nb m.file 2++(nb m.len 4++(m.root++m.last))))))))
def Mf.bS(m:Mf)(tk:Zl):Zl:=m.text++V1 tk m.text
def sT(m:Mf)(f d:Zl)(l:d.length<=4096)(K:m.root.length=32)(I:m.last.length=32)(w:Zy)(B:dF w):
  bE prog 97 #[m.V,.agg #[zs f,zs d]] w fun e w'=>e= .returned (zs<|m.bS d)/\bC w.heap.size w w':=by
 have x:=zl B;have p:=zl l;have l1:=qt m.ep 1;have C:=qt m.op 2;have D:=qt m.cnt 4;have E:=qt m.bP 2;have l5:=qt m.base 4;have F:=qt m.file 2;have G:=qt m.len 4;have v:Hid<|(⟨#[77]⟩:ByteArray)++st (nb m.ep 1)++st (nb m.op 2)++st (nb m.cnt 4)++st (nb m.bP 2)++st (nb m.base 4)++st (nb m.file 2)++st (nb m.len 4)++st m.root++st m.last=st m.text:=by
  show _=_;rw[show(⟨#[77]⟩:ByteArray)=st [77]from rfl];simp only[zv];simp[Mf.text]
 have W0:Hid<|bC w.heap.size w<|(w.alloc<|.cells m.cells 164).alloc<|.cells #[zs f,zs d] 145:=((zr _ _).alloc (ze _) _).alloc (by simp) _;have t:Hid<|xx ((w.alloc<|.cells m.cells 164).alloc<|.cells #[zs f,zs d] 145) w.heap.size m.cells 164:=(xx.new _ _ _).alloc _;have s:Hid<|xx ((w.alloc<|.cells m.cells 164).alloc<|.cells #[zs f,zs d] 145) (w.heap.size+1) #[zs f,zs d] 145:=by
  have:=xx.new (w.alloc<|.cells m.cells 164) #[zs f,zs d] 145;simp only[xh]at this;exact this
 clear B l;unfold Mf.V;unfold Mf.cells at*;go_enter func97.1,Tryz.ntmps97
 go_wp2
 generalize(w.alloc<|.cells _ 164).alloc (.cells #[zs f,zs d] 145)=W at*;have c:Hid<|∀w1,bC W.heap.size W w1->MC w.heap.size m m.root w1:=fun w1 h=>by
  have b:=t.o.below h;exact b.mc
 have y:=c.o W<|zr _ _;have a:Hid<|bC W.heap.size W W.drew:=(zr _ _).drew
 go_region_held3 (fun w'=>MC w.heap.size m m.root w') (first|exact y|exact n)
  (first
   |(go_at_call 148;refine(LV _ _).mono ?_;rintro e w1 ⟨rfl,j⟩;replace a:=zl<|Yg a.o j;have n:=c.o _ a.o)
   |(go_at_call 157;refine(RV _ _).mono ?_;rintro e w1 ⟨rfl,j⟩;replace a:=zl<|Yg a.o j;have n:=c.o _ a.o)
   |(go_at_call 158;refine(Cn _ _).mono ?_;rintro e w1 ⟨rfl,j⟩;replace a:=zl<|Yg a.o j;have n:=c.o _ a.o))
 have r:m.text.length=84:=by simp[Mf.text,l1,C,D,E,l5,F,G,K,I]
 rw[v.o];have i:=zl<|s.o.below a.o;have z:=zl<|W0.o.trans<|a.o.mono W0.o.size;have T1:=zl<|x.o.below x.o.pos z.o;have e0:=i.o.cell 0 rfl;have L:=i.o.cell 1 rfl;obtain⟨o,g⟩:∃o,m.text=o:=⟨_,rfl⟩;have q:=zl g;rw[g]at r⊢;clear g y c a t s W0 v l1 C D E l5 F G;clear n
 try clear hHeld
 go_wp2
 refine(TC f d o p.o (by omega) _ T1.o).mono ?_;rintro e M ⟨rfl,k⟩;have J:=wP d o;have H:=zl<|Yg z.o k;clear k
 go_wp2
 go_ret
 exact⟨by unfold Mf.bS;rw[q.o];rfl,H.o⟩
def oW(l:Zl):Zl:=l.drop 1
def sM(l:Zl):Zl:=(oW l).drop 1
def rP(l:Zl):Zl:=(sM l).drop 2
def sN(l:Zl):Zl:=(rP l).drop 4
def rQ(l:Zl):Zl:=(sN l).drop 2
def sO(l:Zl):Zl:=(rQ l).drop 4
def rM(l:Zl):Zl:=(sO l).drop 2
def sP(l:Zl):Zl:=(rM l).drop 4
def rO(l:Zl):Zl:=(sP l).drop 32
def vJ(l:Zl):Zl:=(rO l).drop 32
def iL(l:Zl):Mf:={ep:=Zk<|(oW l).take 1,op:=Zk<|(sM l).take 2,cnt:=Zk<|(rP l).take 4,bP:=Zk<|(sN l).take 2,base:=Zk<|(rQ l).take 4,file:=Zk<|(sO l).take 2,len:=Zk<|(rM l).take 4,root:=(sP l).take 32,last:=(rO l).take 32}
structure qJ(m:Zl)(tc:Int)(l:Zl):Prop where
 len:l.length=116
 head:l.take 1=[77]
 ep:(iL l).ep<=5
 tag:vJ l=V1 (Jm m (iL l).ep) (l.take 84)
 cnt:((iL l).cnt:Int)<=tc
def xnc(tv:Zv)(m:Zl)(tc:Int)(l:Zl)(w:Zy)(e:Ending)(w':Zy):Prop:=
 Nw w w'/\((e= .returned (iL l).V/\qJ m tc l)\/(e=eF tv/\¬qJ m tc l))
def Ux{l:Zl}(h:l.length=116):(oW l).length=115/\(sM l).length=114/\(rP l).length=112/\(sN l).length=108/\(rQ l).length=106/\(sO l).length=102/\(rM l).length=100/\(sP l).length=96/\(rO l).length=64/\(vJ l).length=32:=by
 refine⟨?_,?_,?_,?_,?_,?_,?_,?_,?_,?_⟩<;>simp[oW,sM,rP,sN,rQ,sO,rM,sP,rO,vJ,h]
def xx.set9{x:Zy}{r:Nat}{t:Zt}{a0 g i j l m n o p a b1 b2 b3 b c d e f:Zv}(h:xx x r #[a0,g,i,j,l,m,n,o,p] t):xx (((((((((x.setCell (zq r 0) a).setCell (zq r 1) b1).setCell (zq r 2) b2).setCell (zq r 3) b3).setCell (zq r 4) b).setCell (zq r 5) c).setCell (zq r 6) d).setCell (zq r 7) e).setCell (zq r 8) f) r #[a,b1,b2,b3,b,c,d,e,f] t:=by
 have k:=((((((((h.set 0 a).set 1 b1).set 2 b2).set 3 b3).set 4 b).set 5 c).set 6 d).set 7 e).set 8 f;simp only[xv,Zz,Z9]at k;exact k
def uJ(l:Zl)(k:Nat):Za:=#[if 0<k then .int .i64 ((Zk ((oW l).take 1):Nat):Int)else .int .i64 0,if 1<k then .int .i64 ((Zk ((sM l).take 2):Nat):Int)else .int .i64 0,if 2<k then .int .i64 ((Zk ((rP l).take 4):Nat):Int)else .int .i64 0,if 3<k then .int .i64 ((Zk ((sN l).take 2):Nat):Int)else .int .i64 0,if 4<k then .int .i64 ((Zk ((rQ l).take 4):Nat):Int)else .int .i64 0,if 5<k then .int .i64 ((Zk ((sO l).take 2):Nat):Int)else .int .i64 0,if 6<k then .int .i64 ((Zk ((rM l).take 4):Nat):Int)else .int .i64 0,if 7<k then .string (st<|(sP l).take 32)else .string ⟨#[]⟩,if 8<k then .string (st<|(rO l).take 32)else .string ⟨#[]⟩]
structure MS(w v:Zy)(R:Nat)(m mk:Zl)(tc op:Int)(l:Zl)(c:Za):Prop where
 T:xx v w.heap.size #[zs m,zi tc,zs mk,zi op] 91
 Z:xx v (w.heap.size+1) #[zi 0,zi 0,zi 0,zi 0,zi 0,zi 0,zi 0,.string ⟨#[]⟩,.string ⟨#[]⟩] 164
 K:xx v (w.heap.size+1+1) #[zs l] 277
 C:xx v R c 164
 N:Nw w v
section
variable {w v v':World} {R i:Nat} {m mk l l':List UInt8} {tc op:Int} {c:Array Value} {u:Value}
def MS.cut(s:MS w v R m mk tc op l c)(a:R≠w.heap.size+1+1)(k:xb (·=w.heap.size+1+1) v v')(b:xx v' (w.heap.size+1+1) #[zs l'] 277):MS w v' R m mk tc op l' c:=⟨s.T.but k<|by omega,s.Z.but k<|by omega,b,s.C.but k a,s.N.fresh (by omega) k⟩
def MS.set(s:MS w v R m mk tc op l c)(a:w.heap.size+1+1<R)(e:v.setCell (zq R i) u=v'):MS w v' R m mk tc op l<|c.setIfInBounds i u:=⟨s.T.ot e<|by omega,s.Z.ot e<|by omega,s.K.ot e<|by omega,s.C.st e,s.N.st e<|by omega⟩
end
def zra{tv:Zv}(m k:Zl)(tc op:Int)(l:Zl)(hm:m.length=32)(hl:l.length<=1000000)(w:Zy)(bk:1<w.heap.size)(hT:dF w)(hG:Wh tv w):
  bE prog 135 #[.agg #[zs m,zi tc,zs k,zi op],zs l] w (xnc tv m tc l w):=by
 have HG:=zl hG;have HT:=zl hT;have HM:=zl hm;clear hG hT hm;go_enter func135.1,Tryz.ntmps135
 go_wp2
 refine kN fun w0 a=>?_;have BT:=zl<|(xx.new w _ 91).al a;have BR:Hid<|xx w0 (w.heap.size+1) _ 164:=xh w _▸xx.nu a;have N0:Hid<|Nw w w0:=(xb.alloc _).al a;have bb:w0.heap.size=w.heap.size+1+1:=by rw[xoc a,xh]
 have G0:=zl<|HG.o.but N0.o id;clear a;by_cases q:l.length=116;rotate_left;refine(Xu _ (by simp;omega) _ G0.o).mono ?_;rintro e w1 ⟨rfl,rfl⟩;exact⟨rfl,N0.o,.inr ⟨rfl,fun h=>q h.len⟩⟩;refine(Yb _ (by simp;omega) _).mono ?_;rintro e w1 ⟨rfl,ba⟩;obtain rfl:w0=w1:=ba.symm;have Q:=zl<|Ux q;have O:=zl q
 go_wp2
 refine kN fun w1 a=>?_;have S:Hid<|MS w w1 (w.heap.size+1) m k tc op l<|uJ l 0:=⟨BT.o.al a,BR.o.al a,bb▸xx.nu a,BR.o.al a,N0.o.al a⟩;clear a BT BR N0 bb G0;refine(rJ S.o.K _ 1 rfl<|by omega).mono ?_;rintro e w2 ⟨rfl,b,hk⟩;replace S:=zl<|S.o.cut (l':=oW l) (by omega) b hk;have G2:=zl<|HG.o.but S.o.N id;have i:=S.o.K.lt;clear b hk
 go_wp2
 by_cases p:l.take 1=[77];rotate_left;refine(Xu _ (by rw[xo,Xy];exact p) _ G2.o).mono ?_;rintro e J ⟨rfl,rfl⟩;exact⟨rfl,S.o.N,.inr ⟨rfl,fun h=>p h.head⟩⟩;refine(Yb _ (by rw[xo,p];rfl) _).mono ?_;rintro e J ⟨rfl,r⟩;obtain rfl:w2=J:=r.symm;have bc:=zl p;clear p
 go_wp2
 refine kN fun v a=>?_;generalize hR:w2.heap.size=R at i⊢;replace S:Hid<|MS w v R m k tc op (oW l)<|uJ l 0:=⟨S.o.T.al a,S.o.Z.al a,S.o.K.al a,hR▸xx.nu a,S.o.N.al a⟩;clear a G2 hR;refine(V3 S.o.K _ 1 rfl (by decide)<|by rw[Q.o.1];decide).mono ?_;rintro e x ⟨rfl,b,hk⟩;replace S:=zl<|S.o.cut (l':=sM l) (by omega) b hk;have c:=S.o.C.cell (v:=zi 0) 0 rfl;have f:=S.o.C.bT 0;clear b hk
 go_wp2
 refine kN fun v0 a=>?_;replace S:Hid<|MS w v0 R m k tc op (sM l)<|uJ l 1:=S.o.set i a;clear a c f;refine(V3 S.o.K _ 2 rfl (by decide)<|by rw[Q.o.2.1];decide).mono ?_;rintro e x ⟨rfl,b,hk⟩;replace S:=zl<|S.o.cut (l':=rP l) (by omega) b hk;have c:=S.o.C.cell (v:=zi 0) 1 rfl;have f:=S.o.C.bT 1;clear b hk
 go_wp2
 refine kN fun v1 a=>?_;replace S:Hid<|MS w v1 R m k tc op (rP l)<|uJ l 2:=S.o.set i a;clear a c f;refine(V3 S.o.K _ 4 rfl (by decide)<|by rw[Q.o.2.2.1];decide).mono ?_;rintro e x ⟨rfl,b,hk⟩;replace S:=zl<|S.o.cut (l':=sN l) (by omega) b hk;have c:=S.o.C.cell (v:=zi 0) 2 rfl;have f:=S.o.C.bT 2;clear b hk
 go_wp2
 refine kN fun v2 a=>?_;replace S:Hid<|MS w v2 R m k tc op (sN l)<|uJ l 3:=S.o.set i a;clear a c f;refine(V3 S.o.K _ 2 rfl (by decide)<|by rw[Q.o.c.1];decide).mono ?_;rintro e x ⟨rfl,b,hk⟩;replace S:=zl<|S.o.cut (l':=rQ l) (by omega) b hk;have c:=S.o.C.cell (v:=zi 0) 3 rfl;have f:=S.o.C.bT 3;clear b hk
 go_wp2
 refine kN fun v3 a=>?_;replace S:Hid<|MS w v3 R m k tc op (rQ l)<|uJ l 4:=S.o.set i a;clear a c f;refine(V3 S.o.K _ 4 rfl (by decide)<|by rw[Q.o.d.1];decide).mono ?_;rintro e x ⟨rfl,b,hk⟩;replace S:=zl<|S.o.cut (l':=sO l) (by omega) b hk;have c:=S.o.C.cell (v:=zi 0) 4 rfl;have f:=S.o.C.bT 4;clear b hk
 go_wp2
 refine kN fun v4 a=>?_;replace S:Hid<|MS w v4 R m k tc op (sO l)<|uJ l 5:=S.o.set i a;clear a c f;refine(V3 S.o.K _ 2 rfl (by decide)<|by rw[Q.o.e.1];decide).mono ?_;rintro e x ⟨rfl,b,hk⟩;replace S:=zl<|S.o.cut (l':=rM l) (by omega) b hk;have c:=S.o.C.cell (v:=zi 0) 5 rfl;have f:=S.o.C.bT 5;clear b hk
 go_wp2
 refine kN fun v5 a=>?_;replace S:Hid<|MS w v5 R m k tc op (rM l)<|uJ l 6:=S.o.set i a;clear a c f;refine(V3 S.o.K _ 4 rfl (by decide)<|by rw[Q.o.f.1];decide).mono ?_;rintro e x ⟨rfl,b,hk⟩;replace S:=zl<|S.o.cut (l':=sP l) (by omega) b hk;have c:=S.o.C.cell (v:=zi 0) 6 rfl;have f:=S.o.C.bT 6;clear b hk
 go_wp2
 refine kN fun v6 a=>?_;replace S:Hid<|MS w v6 R m k tc op (sP l)<|uJ l 7:=S.o.set i a;clear a c f;refine(rJ S.o.K _ 32 rfl<|by rw[Q.o.g.1];decide).mono ?_;rintro e x ⟨rfl,b,hk⟩;replace S:=zl<|S.o.cut (l':=rO l) (by omega) b hk;have c:=S.o.C.cell (v:= .string _) 7 rfl;have f:=S.o.C.bT 7;clear b hk
 go_wp2
 refine kN fun v7 a=>?_;replace S:Hid<|MS w v7 R m k tc op (rO l)<|uJ l 8:=S.o.set i a;clear a c f;refine(rJ S.o.K _ 32 rfl<|by rw[Q.o.j.1];decide).mono ?_;rintro e x ⟨rfl,b,hk⟩;replace S:=zl<|S.o.cut (l':=vJ l) (by omega) b hk;have c:=S.o.C.cell (v:= .string _) 8 rfl;have f:=S.o.C.bT 8;have d:=S.o.C.cell (v:=zi _) 0 rfl;clear b hk
 go_wp2
 refine kN fun n a=>?_;replace S:Hid<|MS w n R m k tc op (vJ l)<|uJ l 9:=S.o.set i a;clear a c f;have o:Hid<|(iL l).ep=Zk ((oW l).take 1):=rfl;clear d;have G9:Hid<|Wh tv n:=HG.o.but S.o.N id;have D:Hid<|dF n:=HT.o.but S.o.N id;by_cases M:Zk ((oW l).take 1)<=5;rotate_left;refine(Xu _ (by simp;omega) _ G9.o).mono ?_;rintro e J ⟨rfl,rfl⟩;exact⟨rfl,S.o.N,.inr ⟨rfl,fun h=>M<|by have:=h.ep;rw[o.o]at this;exact this⟩⟩;refine(Yb _ (by simp;omega) _).mono ?_;rintro e J ⟨rfl,r⟩;obtain rfl:n=J:=r.symm;have G:Hid<|Zk ((oW l).take 1)<=5:=M;clear M;obtain⟨E,Y⟩:∃E,Zk ((oW l).take 1)=E:=⟨_,rfl⟩;have C:Hid<|xx n R #[zi<|(Zk ((oW l).take 1):Nat),zi<|(Zk ((sM l).take 2):Nat),zi<|(Zk ((rP l).take 4):Nat),zi<|(Zk ((sN l).take 2):Nat),zi<|(Zk ((rQ l).take 4):Nat),zi<|(Zk ((sO l).take 2):Nat),zi<|(Zk ((rM l).take 4):Nat),zs<|(sP l).take 32,zs<|(rO l).take 32] 164:=S.o.C;rw[Y]at C o G⊢;obtain⟨W,X⟩:∃W,Xz m E=W:=⟨_,rfl⟩;obtain⟨I,F⟩:∃I,Jm m E=I:=⟨_,rfl⟩;have U:Hid<|Jm m (iL l).ep=I:=by show _=_;rw[o.o];exact F
 have KY:Hid<|∀g,dF g->bE prog 90 #[.agg #[zs m,zi tc,zs k,zi op],zi E] g fun e y=>e= .returned (.agg #[zs W,zs I])/\bC g.heap.size g y:=fun g h=>by rw[<-X,<-F];exact EO m k tc op E HM.o g h
 have KM:Hid<|∀g s,s=st (l.take 84)->dF g->bE prog 159 #[.agg #[zs W,zs I],.string s] g fun e y=>e= .returned (zs<|V1 I<|l.take 84)/\bC g.heap.size g y:=fun g s hs hT=>by rw[hs];exact TC W I _ (by rw[<-F,F8];omega) (by rw[xt];omega) g hT
 have B:Hid<|∀g,bC n.heap.size n g->g.cell? (zq w.heap.size 0)=bO (zs m)/\g.cell? (zq w.heap.size 1)=bO (zi tc)/\g.cell? (zq w.heap.size 2)=bO (zs k)/\g.cell? (zq w.heap.size 3)=bO (zi op)/\g.cell? (zq (w.heap.size+1+1) 0)=bO (zs<|vJ l)/\g.cell? (zq R 0)=bO (zi E):=fun g h=>⟨(S.o.T.below h).cell 0 rfl,(S.o.T.below h).cell 1 rfl,(S.o.T.below h).cell 2 rfl,(S.o.T.below h).cell 3 rfl,(S.o.K.below h).cell 0 rfl,(C.o.below h).cell 0 rfl⟩;have S0:=B.o n<|zr _ _;have bf:(84:Int)<=(l.length:Nat):=by omega
 clear Y X F
 go_wp2
 go_region_held2 (fun y=>y.cell? (zq w.heap.size 0)=bO (zs m)/\y.cell? (zq w.heap.size 1)=bO (zi tc)/\y.cell? (zq w.heap.size 2)=bO (zs k)/\y.cell? (zq w.heap.size 3)=bO (zi op)/\y.cell? (zq (w.heap.size+1+1) 0)=bO (zs<|vJ l)/\y.cell? (zq R 0)=bO (zi E)) (first|exact S0|exact S1)
  (first
   |(go_at_call 90;refine(KY.o _ D.o.drew).mono ?_;rintro e y1 ⟨rfl,b⟩;have Y1:Hid<|bC n.heap.size n y1:=(zr _ _).drew.trans b;have S1:=B.o _ Y1.o;have TY:Hid<|dF y1:=D.o.below D.o.pos Y1.o)
   |(go_at_call 159;refine(KM.o _ _ (yN l 84) TY.o).mono ?_;rintro e y2 ⟨rfl,b⟩;have H:Hid<|bC n.heap.size n y2:=Yg Y1.o b;have S1:=B.o _ H.o;have GY:Hid<|Wh tv y2:=G9.o.of_below H.o)
   |(go_at_call 152;refine(AQ _ _ GY.o).mono ?_;rintro e y3 ⟨bh,bg⟩;obtain rfl:y2=y3:=bh.symm;rcases bg with⟨rfl,HQ⟩|⟨rfl,HQ⟩;rotate_left;(exact⟨rfl,(S.o.N.trans<|xb.of_below H.o),.inr ⟨rfl,fun h=>by have h1:=h.tag;rw[U.o]at h1;have h2:=HQ.o;rw[h1]at h2;simp at h2⟩⟩)))
 have be:Hid<|vJ l=V1 I (l.take 84):=by have:=HQ.o;rw[Ju,xo,xo]at this;exact this
 have t:=C.o.below H.o;have j:=zl<|S.o.Z.below H.o;have NF:=zl<|S.o.N.trans<|xb.of_below H.o;have t1:=(S.o.T.below H.o).cell 1 rfl;have a0:=t.cell (v:=zi _) 0 rfl;have r0:=j.o.cell 0 rfl;have z0:=j.o.bT 0;have a1:=t.cell (v:=zi _) 1 rfl;have r1:=j.o.cell 1 rfl;have z1:=j.o.bT 1;have a2:=t.cell (v:=zi _) 2 rfl;have r2:=j.o.cell 2 rfl;have z2:=j.o.bT 2;have a3:=t.cell (v:=zi _) 3 rfl;have r3:=j.o.cell 3 rfl;have z3:=j.o.bT 3;have a4:=t.cell (v:=zi _) 4 rfl;have r4:=j.o.cell 4 rfl;have z4:=j.o.bT 4;have a5:=t.cell (v:=zi _) 5 rfl;have r5:=j.o.cell 5 rfl;have z5:=j.o.bT 5;have a6:=t.cell (v:=zi _) 6 rfl;have r6:=j.o.cell 6 rfl;have z6:=j.o.bT 6;have a7:=t.cell (v:= .string _) 7 rfl;have r7:=j.o.cell 7 rfl;have z7:=j.o.bT 7;have a8:=t.cell (v:= .string _) 8 rfl;have r8:=j.o.cell 8 rfl;have z8:=j.o.bT 8;have bj:¬R=w.heap.size+1:=by omega
 have bi:¬w.heap.size+1=R:=by omega
 clear t C S0 B KY KM S G9 D HQ Y1 H TY bf
 try clear S1
 try clear hHeld
 go_wp2
 by_cases L:((Zk ((rP l).take 4):Nat):Int)<=tc;rotate_left;refine(Xu _ (by simp;omega) _ GY.o).mono ?_;rintro e J ⟨rfl,rfl⟩;exact⟨rfl,NF.o,.inr ⟨rfl,fun h=>L h.cnt⟩⟩;refine(Yb _ (by simp;omega) _).mono ?_;rintro e J ⟨rfl,r⟩;obtain rfl:y2=J:=r.symm;have bd:Hid<|qJ m tc l:=⟨O.o,bc.o,by rw[o.o];exact G.o,by rw[U.o];exact be.o,L⟩;clear L
 go_wp2
 refine Gv fun v a=>?_;have z:=a▸xx.set9 j.o;have NV:xb (·=w.heap.size+1) y2 v:=by
  subst a
  iterate 9 refine xb.trans ?_<|xb.set _ (zq (w.heap.size+1) _) _
  exact xb.refl _ _
 clear a;have s0:=z.cell (v:=zi _) 0 rfl;have s1:=z.cell (v:=zi _) 1 rfl;have s2:=z.cell (v:=zi _) 2 rfl;have s3:=z.cell (v:=zi _) 3 rfl;have s4:=z.cell (v:=zi _) 4 rfl;have s5:=z.cell (v:=zi _) 5 rfl;have s6:=z.cell (v:=zi _) 6 rfl;have s7:=z.cell (v:= .string _) 7 rfl;have s8:=z.cell (v:= .string _) 8 rfl;refine jz (v:= .agg #[zi E,zi<|(Zk ((sM l).take 2):Nat),zi<|(Zk ((rP l).take 4):Nat),zi<|(Zk ((sN l).take 2):Nat),zi<|(Zk ((rQ l).take 4):Nat),zi<|(Zk ((sO l).take 2):Nat),zi<|(Zk ((rM l).take 4):Nat),zs<|(sP l).take 32,zs<|(rO l).take 32]) (by simp[aN,Tryz.results135,go_sem,s0,s1,s2,s3,s4,s5,s6,s7,s8]) rfl ⟨NF.o.fresh (by omega) NV,.inl ⟨?_,bd.o⟩⟩;unfold Mf.V Mf.cells;rw[o.o];rfl
end
end P
namespace A
open Go
section
variable {Q:Act→Prop}
section
variable {P:Program} {ops:Array aD} {md:Region.Mode} {C:World->Prop}
def LY(P:Zp)(md:Region.Mode)(ops:Array aD)(C:Zy->Prop)(z:Nat)(Q:Act->Prop):Nat->Array Bool->Act->Prop
 |0,listed,a=>Region.ready md ops listed=[z]/\Region.ready md ops (listed.setIfInBounds z bL)=[]/\Q a
 |fuel+1,listed,a=>Region.ready md ops listed≠[]/\z∉Region.ready md ops listed/\∀i∈Region.ready md ops listed,qOp P ops C i (LY P md ops C z Q fuel<|listed.setIfInBounds i bL) a
def La{z:Nat}{d:Exit->Act->Zy->Prop}(g:∀a w,C w->Q a->wpOp P ops d z (fun a' w'=>d .normal a' w') a w):∀(fuel:Nat) (listed:Array Bool) (a:Act) (w:Zy),C w->
  LY P md ops C z Q fuel listed a->wpAny P md ops d (fuel+1) listed a w
 |0,listed,a,w,hw,h=>by
  refine⟨fun c=>(by rw[h.1]at c;cases c),fun i b=>?_⟩;rw[h.1]at b;simp only[jp]at b;subst b;exact wpOp_mono (fun a' w' e=>⟨h.2.1,e⟩)<|g a w hw h.2.2
 |fuel+1,listed,a,w,hw,h=>⟨fun c=>absurd c h.1,fun i b=>wpOp_of_qOp hw (fun a' w' f e=>La g fuel _ a' w' f e)<|h.2.2 i b⟩
def qN(md:Region.Mode)(ops:Array aD)(listed:Array Bool):Prop:=∀(j:Nat) (oj:aD),ops[j]?=bO oj->listed.getD j bK=bL->∀e∈oj.after,Region.binds md e=bL->listed.getD e.on bK=bL
def qN.set{a:Array Bool}(h:qN md ops a){i:Nat}(l:i∈Region.ready md ops a):qN md ops<|a.setIfInBounds i bL:=fun j n g m e f d=>by
 by_cases c:j=i;subst c;obtain⟨_,o,k,b⟩:=mem_ready.1 l;rw[g]at k;cases k;exact getD_set_true<|b e f d;refine getD_set_true<|h j n g ?_ e f d;rwa[getD_set_ne bK<|Ne.symm c]at m
def qN.none(n:Nat):qN md ops<|Array.replicate n bK:=fun j c b a=>by
 simp only[Zj,Array.getElem?_replicate]at a;split at a<;>cases a
def Fh(md:Region.Mode)(ops:Array aD)(oz:aD)(i:Nat):Prop:=∃e∈oz.after,Region.binds md e=bL/\(e.on=i\/∃oj,ops[e.on]?=bO oj/\∃e'∈oj.after,Region.binds md e'=bL/\e'.on=i)
def zvi{z:Nat}{oz:aD}{i:Nat}{B:aD}{v:Zv}(hz:ops[z]?=bO oz)(W:Fh md ops oz i)(T:ops[i]?=bO B)(s:∀(j:Nat) (o:aD) cs b,ops[j]?=bO o->o.op≠ .select cs b):
  ∀(fuel:Nat) (listed:Array Bool) (a:Act),qN md ops listed->
   (∀j oj,ops[j]?=bO oj->j≠i->listed.getD j bL=bK->(∀e∈oj.after,Region.binds md e=bL->e.on≠i)->B.apart ops oj=bL)->
   i∈Region.ready md ops listed->YieldsIn P ops C B v a->
   LY P md ops C z Q fuel (listed.setIfInBounds i bL) (a.put B.dst v)->LY P md ops C z Q (fuel+1) listed a:=by
 intro fuel;have Z:∀(listed:Array Bool),i∈Region.ready md ops listed->¬listed.getD i bK=bL:=fun listed f d=>by
  have D:=(mem_ready.1 f).1;rcases Vi i listed.size with t|t
  simp[t]at D d;rw[D]at d;cases d;simp[ju t]at d
 have g:∀(listed:Array Bool),qN md ops listed->i∈Region.ready md ops listed->z∉Region.ready md ops listed:=fun listed w f X=>by
  obtain⟨e,O,M,x⟩:=W;obtain⟨_,ba,r,l⟩:=mem_ready.1 X;rw[hz]at r;cases r;have d:=l e O M;rcases x with x|⟨oj,n,e',R,N,G⟩
  rw[x]at d;exact Z _ f d;have K:=w _ oj n d e' R N;rw[G]at K;exact Z _ f K
 induction fuel with
 |zero=>
  intro listed a w _ f L H;refine⟨fun h=>(by rw[h]at f;cases f),g listed w f,fun j y=>?_⟩;by_cases c:j=i;subst c;exact L.qOp T H;have:=ready_mono y c;rw[H.1]at this;simp only[jp]at this;subst this;exact absurd y<|g _ w f
 |succ fuel ih=>
  intro listed a w m f L H;refine⟨fun h=>(by rw[h]at f;cases f),g listed w f,fun j y=>?_⟩;by_cases c:j=i;subst c;exact L.qOp T H;have d:=H.2.2 j<|ready_mono y c;obtain⟨q,oj,n,l⟩:=mem_ready.1 y;have F:∀e∈oj.after,Region.binds md e=bL->e.on≠i:=fun e O M S=>by
   have d:=l e O M;have D:=(mem_ready.1 f).1;rw[S]at d;rcases Vi i listed.size with t|t
   simp[t]at D d;rw[D]at d;cases d;simp[ju t]at d
  have K:=qOp_put n (m j oj n c q F) (fun cs b=>s i B cs b T) (fun cs b=>s j oj cs b n) L d;have p:∀k J,ops[k]?=bO J->k≠i->(listed.setIfInBounds j bL).getD k bL=bK->
    (∀e∈J.after,Region.binds md e=bL->e.on≠i)->B.apart ops J=bL:=fun k J hk U I V=>by
   refine m k J hk U ?_ V;by_cases E:j=k;subst E;exact q;rw[getD_set_ne bL E]at I;exact I
  refine qOp_mono (fun a' Y=>ih (listed.setIfInBounds j bL) a' (w.set y) p (ready_mono f<|Ne.symm c) Y.1 ?_) K;rw[Array.setIfInBounds_comm _ _ c];exact Y.2
def ML(md:Region.Mode)(ops:Array aD)(z:Nat)(oz:aD):Nat->Nat->Array Bool->Bool
 |0,_,listed=>(Region.ready md ops listed==[z])&&(Region.ready md ops<|listed.setIfInBounds z bL).isEmpty
 |fuel+1,k,listed=>(Region.ready md ops listed).contains k&&Region.free md ops listed k&&(oz.after.any fun e=>Region.binds md e&&(e.on==k||(match ops[e.on]?with|some oj=>oj.after.any (fun e'=>Region.binds md e'&&e'.on==k)|none=>bK)))&&ML md ops z oz fuel (k+1) (listed.setIfInBounds k bL)
def iG:List aD->List aD
 |[]=>[]
 |[_]=>[]
 |x::y::l=>x::iG (y::l)
def Og:∀(l:List aD) (o:aD),iG (l++[o])=l
 |[],o=>rfl
 |[x],o=>rfl
 |x::y::l,o=>by
  show x::iG (y::l++[o])=_;rw[Og (y::l) o]
def XE(ops:Array aD):Bool:=match ops.back? with
 |none=>bK
 |some oz=>Region.noSelect ops&&ML .any ops (ops.size-1) oz (ops.size-1) 0 (Array.replicate ops.size bK)
def Px{z:Nat}{p:aD}(t:ops[z]?=bO p)(r:Region.noSelect ops=bL):∀(l:List aD) (k:Nat) (listed:Array Bool) (a:Act),qN md ops listed->(∀j,j<l.length->l[j]?=ops[k+j]?)->
  ML md ops z p l.length k listed=bL->wpQuiet P ops C Q l a->LY P md ops C z Q l.length listed a
 |[],_,_,_,_,_,hB,h=>by
  simp only[jn,ML,xl,Ju,List.isEmpty_iff]at hB;exact⟨hB.1,hB.2,h⟩
 |o::l,k,listed,a,hc,hl,hB,h=>by
  have c:ops[k]?=bO o:=by simpa using(hl 0<|by simp).symm
  simp only[zh,ML,xl]at hB;obtain⟨⟨⟨q,B⟩,s⟩,g⟩:=hB;have m:qOp P ops C k (wpQuiet P ops C Q l) a:=by unfold qOp;simp only[c];exact h
  obtain⟨v,E,x⟩:=yieldsIn_of_qOp c m;have n:Fh md ops p k:=by
   rw[Array.any_eq_true']at s;obtain⟨e,y,d⟩:=s;simp only[xl,Yk,Ju]at d;refine⟨e,y,d.1,d.2.imp id fun b=>?_⟩;cases hq:ops[e.on]?with
   |none=>rw[hq]at b;cases b
   |some oj=>
    rw[hq]at b;dsimp only at b;rw[Array.any_eq_true']at b;obtain⟨w,i,f⟩:=b;simp only[xl,Ju]at f;exact⟨oj,rfl,w,i,f.1,f.2⟩
  exact zvi t n c (Region.noSelect_spec r) _ _ a hc (Region.free_spec c B) (by simpa using q) E
   (Px t r l _ _ _ (hc.set<|by simpa using q) (fun j D=>by have:=hl (j+1) (by simpa using D);simpa[Ja,zW 1 j]using this) g x)
def zqz{id:Nat}{Q:Exit->Act->Zy->Prop}{a:Act}{w:Zy}{l:List aD}{z:aD}(n:P.follows .mixedOrders=bL)(d:ops=(l++[z]).toArray)(b:XE ops=bL)(g:C {w with drawn:=w.drawn+1})(k:z.guard=bN)
  (h:wpQuiet P ops C (fun a'=>∀w',C w'->z.wp P a' w' (fun a w=>Q .normal a w) Q) l a):(Code.region id ops bL).wp P Q a w:=by
 have i:ops.back?=bO z:=by rw[d];simp
 have c:ops.size=l.length+1:=by rw[d];simp
 have e:ops[l.length]?=bO z:=by rw[d];simp
 unfold XE at b;rw[i]at b;simp only[xl,c,Nat.add_sub_cancel]at b;refine wp_region_any n ?_;rw[c];refine La (z:=l.length) (Q:=fun a'=>∀w',C w'->z.wp P a' w' (fun a w=>Q .normal a w) Q) (C:=C) (fun a' w' o f=>?_) l.length _ a _ g ?_;unfold wpOp;rw[e];simp only[Region.wanted,k,if_true];exact .inl<|f w' o;exact Px e b.1 l 0 _ a (qN.none _) (fun j m=>by rw[d];simp[Z2 m]) b.2 h
def gU{id:Nat}{Q:Exit->Act->Zy->Prop}{a:Act}{w:Zy}{l:List aD}{z:aD}(e:P.follows .mixedOrders=bL)(b:l.getLast?=bO z)(c:XE l.toArray=bL)(d:z.guard=bN)
  (h:wpQuiet P l.toArray (fun w'=>∃n,w'=w.drewN n) (fun a'=>∀w',(∃n,w'=w.drewN n)->z.wp P a' w' (fun a w=>Q .normal a w) Q) (iG l) a):(Code.region id l.toArray bL).wp P Q a w:=by
 obtain⟨k,rfl⟩:∃k,l=k++[z]:=by
  rw[List.getLast?_eq_some_iff]at b;exact b
 rw[Og]at h;exact zqz e rfl c ⟨1,rfl⟩ d h
end
end
end A
namespace P
open A.Tryq Go.RowKit
section
attribute [local go_sem] xe zv
def UI(r:Sr)(s:Jo)(n:Nat):Za:=#[.int .i64 (s.ep:Int),.int .i64 (r.op:Int),.int .i64 (r.cnt:Int),.int .i64 s.bP,.int .i64 s.last,.int .i64 (Ye s.named:Int),.int .i64 (n:Int),.string ⟨#[]⟩,.string<|st r.mark]
def xnk(B:Nat)(r:Sr)(s:Jo)(n:Nat)(w:Zy)(h:Jq w B r)(q:r.sn=bO s):bE prog 91 #[zo B,zi n] w fun e w'=>e= .returned (.agg<|UI r s n)/\bC w.heap.size w w':=by
 have k:=(h.bU s q).1;have c7:w.cell? (zq B 7)=bO (zo s.S):=(h.blk.cell 7 rfl).trans (by simp[Sr.cells,Sr.iJ,q]);have f:w.cell? (zq B 4)=bO (zi r.cnt):=h.blk.cell 4 rfl;have g:w.cell? (zq B 5)=bO (zs r.mark):=h.blk.cell 5 rfl;have i:w.cell? (zq B 6)=bO (zi r.op):=h.blk.cell 6 rfl;have j:w.cell? (zq s.S 2)=bO (zi s.ep):=k.blk.cell 2 rfl;have l:w.cell? (zq s.S 4)=bO (zi s.last):=k.blk.cell 4 rfl;have m:w.cell? (zq s.S 5)=bO (zi s.named):=k.blk.cell 5 rfl;have o:w.cell? (zq s.S 6)=bO (zi s.bP):=k.blk.cell 6 rfl;have p:=h.blk.lt;have c:=k.blk.lt;clear h q k;go_enter func91.1,Tryz.ntmps91
 go_wp2
 have b:Hid<|bC w.heap.size w<|w.alloc<|.cells #[zi 0,zi 0,zi 0,zi 0,zi 0,zi 0,zi 0,.string ⟨#[]⟩,.string ⟨#[]⟩] 164:=(zr _ _).alloc (ze _) _;have a:Hid<|xx (w.alloc<|.cells #[zi 0,zi 0,zi 0,zi 0,zi 0,zi 0,zi 0,.string ⟨#[]⟩,.string ⟨#[]⟩] 164) w.heap.size #[zi 0,zi 0,zi 0,zi 0,zi 0,zi 0,zi 0,.string ⟨#[]⟩,.string ⟨#[]⟩] 164:=xx.new _ _ _;generalize w.alloc (.cells #[zi 0,zi 0,zi 0,zi 0,zi 0,zi 0,zi 0,.string ⟨#[]⟩,.string ⟨#[]⟩] 164)=W at*;replace f:=(b.o.cell p).trans f;replace g:=(b.o.cell p).trans g;replace i:=(b.o.cell p).trans i;replace j:=(b.o.cell c).trans j;replace l:=(b.o.cell c).trans l;replace m:=(b.o.cell c).trans m;replace o:=(b.o.cell c).trans o;clear c7;refine A.gU (by kernel_rfl) rfl (by kernel_rfl) rfl ?_;simp only[A.iG]
 repeat (go_big_quiet_step ((go_at_call 149;refine Calls.quiet_of_same<|Ha _ _)))
 refine wpQuiet_nil ?_;intro w1 t;obtain⟨v,rfl⟩:=t;have x:W.cell? (zq w.heap.size 0)=bO ((zi 0)):=a.o.cell 0 rfl;have J:=a.o.bT 0;have y:W.cell? (zq w.heap.size 1)=bO ((zi 0)):=a.o.cell 1 rfl;have K:=a.o.bT 1;have z:W.cell? (zq w.heap.size 2)=bO ((zi 0)):=a.o.cell 2 rfl;have L:=a.o.bT 2;have C:W.cell? (zq w.heap.size 3)=bO ((zi 0)):=a.o.cell 3 rfl;have M:=a.o.bT 3;have D:W.cell? (zq w.heap.size 4)=bO ((zi 0)):=a.o.cell 4 rfl;have O:=a.o.bT 4;have E:W.cell? (zq w.heap.size 5)=bO ((zi 0)):=a.o.cell 5 rfl;have Q:=a.o.bT 5;have F:W.cell? (zq w.heap.size 6)=bO ((zi 0)):=a.o.cell 6 rfl;have R:=a.o.bT 6;have G:W.cell? (zq w.heap.size 7)=bO ((.string ⟨#[]⟩)):=a.o.cell 7 rfl;have T:=a.o.bT 7;have H:W.cell? (zq w.heap.size 8)=bO ((.string ⟨#[]⟩)):=a.o.cell 8 rfl;have U:=a.o.bT 8;clear f g i j l m o
 go_wp2
 have d:Hid<|bC w.heap.size w<|(((((((((W.drewN v).setCell (zq w.heap.size 0)<|zi s.ep).setCell (zq w.heap.size 1)<|zi r.op).setCell (zq w.heap.size 2)<|zi r.cnt).setCell (zq w.heap.size 3)<|zi s.bP).setCell (zq w.heap.size 4)<|zi s.last).setCell (zq w.heap.size 5)<|zi<|Ye s.named).setCell (zq w.heap.size 6)<|zi n).setCell (zq w.heap.size 7)<|.string ⟨#[]⟩).setCell (zq w.heap.size 8)<|zs r.mark:=by
  have I:bC w.heap.size w<|W.drewN v:=⟨b.o.os,b.o.tape,b.o.output,b.o.size,b.o.block⟩;exact((((((((I.setCell (ze _) _).setCell (ze _) _).setCell (ze _) _).setCell (ze _) _).setCell (ze _) _).setCell (ze _) _).setCell (ze _) _).setCell (ze _) _).setCell (ze _) _
 refine jz (by simp[aN,Tryz.results91,go_sem,UI,x,y,z,C,D,E,F,G,H]) rfl ⟨rfl,d.o⟩
def o5:∀(xs:List Zl),Lib.join xs []=xs.flatten
 |[]=>rfl
 |[x]=>by simp[Lib.join]
 |x::y::xs=>by
  have:=o5 (y::xs);simp only[Lib.join,Wu,jk]at*;simp[this]
def Ba{base:Nat}(xs:List Zl)(v:Zv)(o:xs.length<=1000000)(c:xs.flatten.length<=140737488355328)(w:Zy)(h:w.ownsRow base 9 1 v xs.length<|xs.map iU):
  bE prog 96 #[v,.string ⟨#[]⟩] w fun e w'=>e= .returned (zs xs.flatten)/\bC w.heap.size w w':=by
 have a:(xs.map st).map (·.data.toList)=xs:=by simp[uP,PS,st]
 rcases QS (f:=iU) (fun _=>rfl) h with⟨rfl,rfl⟩|⟨g,cap,rfl,hcap,hg,hr⟩;exact(Any.strings_Join_none mV dW bN 0 _ w).mono fun e w' ⟨b,d⟩=>⟨b,d▸zr _ _⟩;have i:g<w.heap.size:=by obtain⟨l,b,_⟩:=hr;exact(za.1 b).1
 have:=Any.strings_Join mV dW g 0 cap _ ⟨#[]⟩ w (fun j x k=>by
  rw[List.getElem?_map,zt]at k;obtain⟨y,n,rfl⟩:=k;obtain⟨m,rfl⟩:=XR.1 n;rw[jy];exact hr.cell j m) i (by rw[Zb];omega) (by rw[Zb];exact hcap)<|by rw[a];show(Lib.join xs []).length<=_;rw[o5];exact c
 rw[a,Zb]at this;refine this.mono fun e w' ⟨b,d⟩=>⟨b.trans ?_,d⟩;show Ending.returned (.string ⟨(Lib.join xs []).toArray⟩)=_;rw[o5];rfl
def Tp{base:Nat}(xs:List Zl)(v:Zv)(c:xs.length<=256)(hx:∀x∈xs,x.length<=4095)(w:Zy)(a:dF w)(h:w.ownsRow base 9 1 v xs.length<|xs.map iU):
  bE prog 57 #[v] w fun e w'=>e= .returned (.tuple #[zs<|J7 xs,zi 0])/\bC w.heap.size w w':=by
 rcases QS (f:=iU) (fun _=>rfl) h with⟨rfl,rfl⟩|⟨g,cap,rfl,hcap,hg,hr⟩;exact Tq bN 0 w a;by_cases b:xs=[];subst b;exact Tq _ cap w a;exact Se xs (qb.2 b) c hx g 0 cap w a fun j d=>by rw[jy];exact hr.cell j d
def DU(l:Zl):(∀y∈Yq l,y.length<=64)/\(Yq l).length*64<=l.length+63/\(Yq l).flatten=l:=by
 generalize hn:l.length=n;induction n using Nat.strongRecOn generalizing l with
 |_ n ih=>
  by_cases h:l=[];subst h;simp[RD];have e:=qb.2 h;rw[DY h];obtain⟨b,c,d⟩:=ih (l.drop 64).length (by rw[jb];omega) (l.drop 64) rfl;refine⟨fun y a=>?_,?_,?_⟩;rcases xf.1 a with rfl|a
  simp;omega;exact b y a;rw[jb]at c;simp only[zh];omega;rw[Wu,d,PW]
def Rb{m:Mf}{b:Zl}{xs:List Zl}{k:Nat}(h:∀y∈xs,y.length<=k):∀y∈J8 m b xs,y.length<=k:=by
 intro y a;unfold J8 at a;rw[List.mem_mapIdx]at a;obtain⟨i,c,rfl⟩:=a;rw[yJ];exact h _<|Zn c
def zub{k:Nat}:∀{xs:List Zl},(∀y∈xs,y.length<=k)->xs.flatten.length<=k*xs.length
 |[],_=>by simp
 |x::xs,h=>by
  have b:=h x jo;have c:=zub fun y a=>h y<|xj _ a;simp only[Wu,zj,zh,Nat.mul_add];omega
def jt.fresh{B b:Nat}{a r:Sr}{w0 w w':Zy}(h:jt B a w0 r w)(c:w0.heap.size<=b)(ho:¬r.own B b)(k:xb (·=b) w w'):jt B a w0 r w':=
 ⟨xb.fresh h.but c k,h.at_.but k fun x d e=>ho<|by have e:=e;rw[<-e];exact d,h.own⟩
def fV.bP{B:Nat}{r:Sr}{s:Jo}(h:fV B r)(b:r.sn=bO s)(k:Int):fV B {r with sn:=bO {s with bP:=k}} where
 m:=h.m
 mark:=h.mark
 cnt:=h.cnt
 op:=h.op
 room:=h.room
 files:=h.files
 few:=h.few
 nx:=h.nx
 own:=fun x a=>h.own x (by
  rcases a with e|e|⟨t,e,a⟩;exact .inl e;exact .inr<|.inl e;cases e;exact .inr<|.inr ⟨s,b,a⟩)
 bU:=fun t c=>by cases c;exact h.bU s b
def xri{cv:Zv}{B:Nat}{r:Sr}{f:FuncId}{args:Za}{x:Bool×Dk}{w:Zy}(h:bE prog f args w<|UE cv B r x w):
  bE prog f args w fun e w'=>(e= .returned (.tuple #[])/\x.1=bL/\jt B r w {r with d:=x.2} w')\/(e=eF cv/\x.1=bK/\jt B r w {r with d:=x.2} w'):=
 h.mono fun e w' ⟨a,b⟩=>by
  cases hx:x.1 with
  |true=>rw[hx,aA rfl]at a;exact .inl ⟨a,rfl,b⟩
  |false=>rw[hx,aB<|by simp]at a;exact .inr ⟨a,rfl,b⟩
def YR(m:Mf)(c:Zl)(b:m.root.length=32)(a:m.last.length=32):(m.bS c).length=116:=by
 simp[Mf.bS,Mf.text,qt,b,a,wP]
def RK{B:Nat}{r:Sr}{s:Jo}{k:Int}(b:r.sn=bO s){x:Nat}:({r with sn:=bO {s with bP:=k}}:Sr).own B x↔r.own B x:=by
 constructor;rintro(e|e|⟨t,e,a⟩);exact .inl e;exact .inr<|.inl e;cases e;exact .inr<|.inr ⟨s,b,a⟩;rintro(e|e|⟨t,e,a⟩);exact .inl e;exact .inr<|.inl e;rw[b]at e;cases e;exact .inr<|.inr ⟨_,rfl,a⟩
def nN(m:Mf)(L:Ym):Option Zl:=if 0<m.len then(if m.len<=16384 then(if m.file=10001\/m.file=10002 then bO (qu L m.file)else bN)else bN)else bO []
def sU(m:Mf)(ck b:Zl):Option KV:=if b.length=m.len then(if m.root=J7 (Yq b)then rH (J8 m ck<|Yq b).flatten else bN)else bN
def Y6(m:Mf)(L:Ym)(ck:Zl):Option KV:=(nN m L).bind<|sU m ck
def KJ(tv:Zv)(x:Option KV)(w:Zy)(e:Ending)(w':Zy):Prop:=
 Nw w w'/\(match x with|some L=>∃m,e= .returned (.map<|bO m)/\w.heap.size<=m/\Xd w' m L|none=>e=eF tv)
def Wj{tv:Zv}{x:Option KV}{w w':Zy}(h:x=bN)(a:Nw w w'):KJ tv x w (eF tv) w':=by
 subst h;exact⟨a,rfl⟩
def zyq{tv:Zv}(m:Mf)(D:Nat)(d:Dk)(a r:Zl)(bk:a.length=16)(bx:m.len<=100000000000)(w:Zy)(h:Xg w D d)(hG:Wh tv w)(hT:dF w):
  bE prog 206 #[m.V,zo D,.agg #[zs a,zs r]] w (KJ tv (Y6 m d.L a) w):=by
 have HD:Hid<|Xg w D d:=h;have HG:Hid<|Wh tv w:=hG;have HT:Hid<|dF w:=hT;have bs:Hid<|a.length=16:=bk;have bm:=hT.pos;have M:Hid<|Nw w<|(w.alloc<|.cells m.cells 164).alloc<|.cells #[zs a,zs r] 145:=(xb.alloc _).trans<|xb.alloc _;have BM:Hid<|xx ((w.alloc<|.cells m.cells 164).alloc<|.cells #[zs a,zs r] 145) w.heap.size m.cells 164:=(xx.new w _ 164).alloc _;have BK:Hid<|xx ((w.alloc<|.cells m.cells 164).alloc<|.cells #[zs a,zs r] 145) (w.heap.size+1) #[zs a,zs r] 145:=by
  have:=xx.new (w.alloc<|.cells m.cells 164) #[zs a,zs r] 145;rw[xh]at this;exact this
 have s:Hid<|Y6 m d.L a=(nN m d.L).bind (sU m a):=rfl;clear h hG hT bk;unfold Mf.V;unfold Mf.cells at*;go_enter func206.1,Tryz.ntmps206;have G1:Hid<|Wh tv<|(w.alloc<|.cells #[zi m.ep,zi m.op,zi m.cnt,zi m.bP,zi m.base,zi m.file,zi m.len,zs m.root,zs m.last] 164).alloc<|.cells #[zs a,zs r] 145:=HG.o.but M.o id;by_cases h0:0<m.len;rotate_left
 focus
  have i0:¬(0:Int)<(m.len:Int):=by omega
  have v:Hid<|m.len<=16384:=by show _<=_;omega
  have n:Hid<|nN m d.L=bO []:=by show _=_;unfold nN;rw[aB h0]
  go_wp2
  generalize(w.alloc<|.cells #[zi m.ep,zi m.op,zi m.cnt,zi m.bP,zi m.base,zi m.file,zi m.len,zs m.root,zs m.last] 164).alloc (.cells #[zs a,zs r] 145)=w1 at*;refine(AQ _ _ G1.o).mono ?_;rintro e R ⟨l,p⟩;obtain rfl:w1=R:=l.symm;rcases p with⟨rfl,k⟩|⟨rfl,k⟩
  rotate_left;exact⟨rfl,Wj (by rw[s.o,n.o];show sU m a _=bN;unfold sU;rw[aB<|by have:=k.o;simp at this;(try simp);omega]) M.o⟩;have E:(([]:Zl)).length=m.len:=by have:=k.o;simp at this;(try simp);omega
  have t:Hid<|(([]:Zl)).length=m.len:=E;have H:Hid<|Y6 m d.L a=if m.root=J7 (Yq<|([]:Zl))then rH (J8 m a<|Yq<|([]:Zl)).flatten else bN:=by
   show _=_;rw[s.o,n.o];show sU m a _=_;unfold sU;rw[aA t.o]
  have C:(([]:Zl)).length<=16384:=by have:=v.o;omega
  clear k
  go_wp2
  refine(B_ _ (by omega) _).mono ?_;rintro e f ⟨v4,rfl,g,c⟩;have N4:Hid<|Nw w f:=M.o.trans c;have G:Hid<|xx f w.heap.size #[zi m.ep,zi m.op,zi m.cnt,zi m.bP,zi m.base,zi m.file,zi m.len,zs m.root,zs m.last] 164:=BM.o.but c id;have T:Hid<|xx f (w.heap.size+1) #[zs a,zs r] 145:=BK.o.but c id;have O4:Hid<|f.ownsRow w1.heap.size 9 1 v4 (Yq<|([]:Zl)).length<|(Yq<|([]:Zl)).map iU:=g;have G4:Hid<|Wh tv f:=G1.o.but c id;have T4:Hid<|dF f:=HT.o.but N4.o id;have bo:w1.heap.size<=f.heap.size:=c.size;obtain⟨z,Z,ba⟩:=DU<|([]:Zl);have o:Hid<|(∀y∈Yq (([]:Zl)),y.length<=64)/\(Yq<|([]:Zl)).length<=256:=⟨z,by omega⟩;generalize Yq (([]:Zl))=ps at*;clear z Z ba g c t E C
 rotate_left
 focus
  have i0:(0:Int)<(m.len:Int):=by omega
  go_wp2
  generalize(w.alloc<|.cells #[zi m.ep,zi m.op,zi m.cnt,zi m.bP,zi m.base,zi m.file,zi m.len,zs m.root,zs m.last] 164).alloc (.cells #[zs a,zs r] 145)=w1 at*;refine(AQ _ _ G1.o).mono ?_;rintro e w2 ⟨bt,p⟩;obtain rfl:w1=w2:=bt.symm;rcases p with⟨rfl,k⟩|⟨rfl,k⟩
  rotate_left;exact⟨rfl,Wj (by rw[s.o];unfold nN;rw[aA h0,aB<|by have:=k.o;simp at this;omega];rfl) M.o⟩;have B:m.len<=16384:=by have:=k.o;simp at this;omega
  have v:Hid<|m.len<=16384:=B;have e6:w1.cell? (zq w.heap.size 6)=bO (zi m.len):=BM.o.cell 6 rfl;have e5:w1.cell? (zq w.heap.size 5)=bO (zi m.file):=BM.o.cell 5 rfl;have bc:Hid<|Xg w1 D d:=HD.o.but M.o fun _ _=>id;clear k;by_cases h2:m.file=10001;rotate_left
  focus
   by_cases h3:m.file=10002;rotate_left
   ·have j1:((m.file:Int)==10001)=bK:=by simp;omega
    have j2:((m.file:Int)==10002)=bK:=by simp;omega
    have br:Hid<|Y6 m d.L a=bN:=by show _=_;rw[s.o];unfold nN;rw[aA h0,aA B,aB<|by omega];rfl
    go_wp2
    refine(Ll _ G1.o).mono ?_;rintro e R ⟨rfl,l⟩;obtain rfl:=l;exact⟨rfl,Wj br.o M.o⟩
   clear i0;have n:Hid<|nN m d.L=bO (qu d.L m.file):=by show _=_;unfold nN;rw[aA h0,aA B,aA<|.inr h3]
   have j1:(m.file:Int)=10002:=by omega
   rw[j1]at e5 n
   go_wp2
   refine(YN _).mono ?_;rintro e R ⟨rfl,l⟩;obtain rfl:w1=R:=l.symm
   go_wp2
   refine(AV D d 10002 _ bc.o).mono ?_;rintro e f ⟨rfl,bb⟩;obtain rfl:w1=f:=bb.symm;have bi:=e6;generalize qu d.L 10002=b at*
  rotate_left
  focus
   clear i0;have n:Hid<|nN m d.L=bO (qu d.L m.file):=by show _=_;unfold nN;rw[aA h0,aA B,aA<|.inl h2]
   have j1:(m.file:Int)=10001:=by omega
   rw[j1]at e5 n
   go_wp2
   refine(YN _).mono ?_;rintro e R ⟨rfl,l⟩;obtain rfl:w1=R:=l.symm
   go_wp2
   refine(AV D d 10001 _ bc.o).mono ?_;rintro e f ⟨rfl,bb⟩;obtain rfl:w1=f:=bb.symm;have bi:=e6;generalize qu d.L 10001=b at*
  all_goals
   go_wp2
   refine(AQ _ _ G1.o).mono ?_;rintro e R ⟨l,p⟩;obtain rfl:w1=R:=l.symm;rcases p with⟨rfl,k⟩|⟨rfl,k⟩
   rotate_left;exact⟨rfl,Wj (by rw[s.o,n.o];show sU m a _=bN;unfold sU;rw[aB<|by have:=k.o;simp at this;(try simp);omega]) M.o⟩;have E:(b).length=m.len:=by have:=k.o;simp at this;(try simp);omega
   have t:Hid<|(b).length=m.len:=E;have H:Hid<|Y6 m d.L a=if m.root=J7 (Yq<|b)then rH (J8 m a<|Yq<|b).flatten else bN:=by
    show _=_;rw[s.o,n.o];show sU m a _=_;unfold sU;rw[aA t.o]
   have C:(b).length<=16384:=by have:=v.o;omega
   clear k
   go_wp2
   refine(B_ (b) (by omega) _).mono ?_;rintro e f ⟨v4,rfl,g,c⟩;have N4:Hid<|Nw w f:=M.o.trans c;have G:Hid<|xx f w.heap.size #[zi m.ep,zi m.op,zi m.cnt,zi m.bP,zi m.base,zi m.file,zi m.len,zs m.root,zs m.last] 164:=BM.o.but c id;have T:Hid<|xx f (w.heap.size+1) #[zs a,zs r] 145:=BK.o.but c id;have O4:Hid<|f.ownsRow w1.heap.size 9 1 v4 (Yq<|b).length<|(Yq<|b).map iU:=g;have G4:Hid<|Wh tv f:=G1.o.but c id;have T4:Hid<|dF f:=HT.o.but N4.o id;have bo:w1.heap.size<=f.heap.size:=c.size;obtain⟨z,Z,ba⟩:=DU<|b;have o:Hid<|(∀y∈Yq (b),y.length<=64)/\(Yq<|b).length<=256:=⟨z,by omega⟩;generalize Yq (b)=ps at*;clear z Z ba g c t E C
 all_goals
  have X:Hid<|∀w1,Nw f w1->w1.cell? (zq w.heap.size 7)=bO (zs m.root):=fun w1 hh=>(G.o.but hh id).cell 7 rfl;have S0:=X.o f<|xb.refl _ _;have bg:Hid<|f.drew.ownsRow w1.heap.size 9 1 v4 ps.length<|ps.map iU:=O4.o;have bh:Hid<|dF f.drew:=T4.o;have NN:Hid<|Nw f f.drew:=(xb.refl _ _).drew
  go_wp2
  go_region_held2 (fun w'=>w'.cell? (zq w.heap.size 7)=bO (zs m.root)) (first|exact S0|exact S1)
   (first
    |(go_at_call 57;refine(Tp ps v4 o.o.2 (fun y hy=>by have:=o.o.1 y hy;omega) _ bh.o bg.o).mono ?_;rintro e j ⟨rfl,bj⟩;have O:Hid<|Nw f j:=NN.o.trans<|xb.of_below bj;have S1:=X.o _ O.o;have G5:Hid<|Wh tv j:=G4.o.but O.o id)
    |(go_at_call 94;refine(KQ _ _).mono ?_;rintro e w6 ⟨rfl,bu⟩;obtain rfl:j=w6:=bu.symm)
    |(go_at_call 152;refine(AQ _ _ G5.o).mono ?_;rintro e w7 ⟨bv,p⟩;obtain rfl:j=w7:=bv.symm;rcases p with⟨rfl,k⟩|⟨rfl,k⟩;rotate_left;(exact⟨rfl,Wj (by rw[H.o,aB<|by have B:=k.o;rw[Xy,xo,xo]at B;exact B])<|N4.o.trans O.o⟩);have bd:Hid<|m.root=J7 ps:=by have B:=k.o;rw[Ju,xo,xo]at B;exact B))
  have Y:Hid<|Nw w j:=N4.o.trans O.o;have i:Hid<|xx j w.heap.size #[zi m.ep,zi m.op,zi m.cnt,zi m.bP,zi m.base,zi m.file,zi m.len,zs m.root,zs m.last] 164:=G.o.but O.o id;have U:Hid<|xx j (w.heap.size+1) #[zs a,zs r] 145:=T.o.but O.o id;have O5:Hid<|j.ownsRow w1.heap.size 9 1 v4 ps.length<|ps.map iU:=yU O4.o O.o fun _ _ x=>x;have z0:j.cell? (zq w.heap.size 0)=bO (zi m.ep):=i.o.cell 0 rfl;have z1:j.cell? (zq w.heap.size 1)=bO (zi m.op):=i.o.cell 1 rfl;have z2:j.cell? (zq w.heap.size 2)=bO (zi m.cnt):=i.o.cell 2 rfl;have z3:j.cell? (zq w.heap.size 3)=bO (zi m.bP):=i.o.cell 3 rfl;have z4:j.cell? (zq w.heap.size 4)=bO (zi m.base):=i.o.cell 4 rfl;have z5:j.cell? (zq w.heap.size 5)=bO (zi m.file):=i.o.cell 5 rfl;have z6:j.cell? (zq w.heap.size 6)=bO (zi m.len):=i.o.cell 6 rfl;have z7:j.cell? (zq w.heap.size 7)=bO (zs m.root):=i.o.cell 7 rfl;have z8:j.cell? (zq w.heap.size 8)=bO (zs m.last):=i.o.cell 8 rfl;have y0:j.cell? (zq (w.heap.size+1) 0)=bO (zs a):=U.o.cell 0 rfl;have y1:j.cell? (zq (w.heap.size+1) 1)=bO (zs r):=U.o.cell 1 rfl;have be:Hid<|Y6 m d.L a=rH (J8 m a ps).flatten:=by show _=_;rw[H.o,aA bd.o]
  have bp:2<j.heap.size:=zn bm Y.o.size
  try clear j1
  try clear h3
  try clear h2
  try clear B
  try clear i0
  try clear h0
  try clear e5
  try clear e6
  try clear bi
  clear S0 S1 X NN N4 O G T O4 bg T4 bh G4 i U bj H bd k
  try clear hHeld
  go_wp2
  refine(Pb m ps v4 a r bs.o (fun y hy=>by have:=o.o.1 y hy;omega) (by have:=o.o.2;omega) _<|Ul O5.o).mono ?_;rintro e w8 ⟨v8,rfl,F,J⟩;have O8:Hid<|w8.ownsRow j.heap.size 9 1 v8 (J8 m a ps).length<|(J8 m a ps).map iU:=by show World.ownsRow _ _ _ _ _ _ _;rw[zZ];exact F
  have N8:Hid<|Nw w w8:=Y.o.trans J;have G8:Hid<|Wh tv w8:=G5.o.but J id;have W:Hid<|(∀y∈J8 m a ps,y.length<=64)/\(J8 m a ps).length<=256:=⟨Rb o.o.1,by rw[zZ];exact o.o.2⟩;have bw:2<w8.heap.size:=zn bp J.size;clear F J z0 z1 z2 z3 z4 z5 z6 z7 z8 y0 y1 Y O5 G5;generalize J8 m a ps=qs at*
  go_wp2
  refine(Ba qs v8 (by have:=W.o.2;omega) (by have:=zub W.o.1;have:=W.o.2;omega) _ O8.o).mono ?_;rintro e w9 ⟨rfl,I⟩;have N9:Hid<|Nw w w9:=N8.o.trans<|xb.of_below I;have G9:Hid<|Wh tv w9:=G8.o.but (S:=fun _=>False) (xb.of_below I) id;have bz:2<w9.heap.size:=zn bw I.size;clear I O8 N8 G8
  go_wp2
  refine(xF _ _ (by omega) G9.o).mono ?_;rintro e bq ⟨Q,q⟩;have bf:Hid<|Nw w bq:=N9.o.trans Q;cases hq:rH qs.flatten with
  |none=>
   rw[hq]at q;subst q;exact⟨rfl,Wj (by rw[be.o,hq]) bf.o⟩
  |some K=>
   rw[hq]at q;obtain⟨mm,rfl,bl,bn⟩:=q;have HF:Hid<|KJ tv (Y6 m d.L a) w (.returned<|.map<|bO mm) bq:=by
    show KJ _ _ _ _ _;rw[be.o,hq];exact⟨bf.o,mm,rfl,xz N9.o.size bl,bn⟩
   clear bl bn Q
   go_wp2
   go_ret
   exact HF.o
def Lk.begun(k:Lk)(m:Mf)(mp:Nat):Lk:={k with ep:=m.ep,mp:=mp,cnt:=m.cnt,tag:=m.last,base:=(m.base:Int),named:=(m.file:Int),dK:=if 0<m.len then(m.file:Int)else k.dK}
def vD(tv:Zv)(b:Nat)(k:Lk)(m:Mf)(x:Option KV)(w:Zy)(e:Ending)(w':Zy):Prop:=
 xb (·=b) w w'/\(match x with|some L=>e= .returned (.tuple #[])/\∃mp,w.heap.size<=mp/\Xd w' mp L/\Xa w' b (k.begun m mp)|none=>e=eF tv)
def B7{tv:Zv}(b:Nat)(k:Lk)(m:Mf)(D:Nat)(d:Dk)(hm:k.m.length=32)(bf:m.len<=100000000000)(w:Zy)(hb:Xa w b k)(h:Xg w D d)(bd:¬d.own D b)(br:2<b)(hG:Wh tv w)(hT:dF w):
  bE prog 134 #[zo b,m.V,zo D] w (vD tv b k m (Y6 m d.L<|Xz k.m m.ep) w):=by
 have HB:=zl hb;have HD:=zl h;have bg:=zl bd;have HG:=zl hG;have HT:=zl hT;have HM:=zl hm;have bk:=hT.pos;have bs:=xx.lt hb;have N0:Hid<|Nw w<|w.alloc<|.cells m.cells 164:=xb.alloc _;have BM:=zl<|xx.new w m.cells 164;clear hb h bd hG hT hm;unfold Mf.V;unfold Mf.cells at*;go_enter func134.1,Tryz.ntmps134
 go_wp2
 generalize w.alloc (.cells #[zi m.ep,zi m.op,zi m.cnt,zi m.bP,zi m.base,zi m.file,zi m.len,zs m.root,zs m.last] 164)=w1 at*;have B1:Hid<|Xa w1 b k:=xx.but HB.o N0.o id;have T1:=zl<|HT.o.but N0.o id;refine(JX b k HM.o m.ep _ B1.o T1.o).mono ?_;rintro e g ⟨rfl,K,be⟩;have G:=zl<|(N0.o.mono fun _ x=>x.elim).trans K;have L2:=zl be;have H:=zl (BM.o.but K<|by omega);have D2:=zl (HD.o.but G.o fun x hx e=>bg.o<|by have e:x=b:=e;rw[<-e];exact hx);have G2:=zl (HG.o.but G.o<|by omega);have T2:=zl (HT.o.but G.o<|by omega);clear K be B1 T1 BM N0 HB;obtain⟨c,z⟩:∃c,Xz k.m m.ep=c:=⟨_,rfl⟩;obtain⟨f,M⟩:∃f,Jm k.m m.ep=f:=⟨_,rfl⟩;have o:=zl z;have W:=zl M;have bh:Hid<|c.length=16:=by show _=_;rw[<-z];exact A9 _ _
 have s:Hid<|xx g b (Lk.cells {k with ep:=m.ep} c f) 147:=by
  have:=L2.o;unfold Xa at this;rw[show Xz ({k with ep:=m.ep}:Lk).m ({k with ep:=m.ep}:Lk).ep=c from z,show Jm ({k with ep:=m.ep}:Lk).m ({k with ep:=m.ep}:Lk).ep=f from M]at this;exact this
 clear z M L2;have I:Hid<|∀w1,Nw g w1->MC w.heap.size m m.root w1/\w1.cell? (zq b 6)=bO (zs c)/\w1.cell? (zq b 7)=bO (zs f):=fun w1 v=>by
  have B:=H.o.but v id;have k2:=s.o.but v id;exact⟨B.mc,k2.cell 6 rfl,k2.cell 7 rfl⟩
 have J:Hid<|∀w1,Nw g w1->w1.cell? (zq b 4)=bO (.map<|bO k.mp)/\w1.frozen? (zq b 4)=bK:=fun w1 v=>⟨(s.o.but v id).cell 4 rfl,(s.o.but v id).bT 4⟩;have U:Hid<|∀w1 mp,Nw g w1->MC w.heap.size m m.root (w1.setCell (zq b 4)<|.map<|bO mp)/\(w1.setCell (zq b 4)<|.map<|bO mp).cell? (zq b 6)=bO (zs c)/\(w1.setCell (zq b 4)<|.map<|bO mp).cell? (zq b 7)=bO (zs f):=fun w1 mp v=>by
  have B:=(H.o.but v id).other (p:=zq b 4) (by show w.heap.size≠b;omega)<|.map<|bO mp;have k2:=(s.o.but v id).set 4<|.map<|bO mp;exact⟨B.mc,k2.cell 6 rfl,k2.cell 7 rfl⟩
 have S0:=I.o g<|xb.refl _ _;have O:Hid<|Nw g g.drew:=(xb.refl _ _).drew;have R:Hid<|bE prog 206 #[.agg #[zi m.ep,zi m.op,zi m.cnt,zi m.bP,zi m.base,zi m.file,zi m.len,zs m.root,zs m.last],zo D,.agg #[zs c,zs f]] g.drew<|KJ tv (Y6 m d.L c) g.drew:=zyq m D d c f bh.o bf g.drew (D2.o.but O.o fun _ _=>id) (G2.o.but O.o id)<|T2.o.but O.o id;have Q:Hid<|bE prog 206 #[.agg #[zi m.ep,zi m.op,zi m.cnt,zi m.bP,zi m.base,zi m.file,zi m.len,zs m.root,zs m.last],zo D,.agg #[zs c,zs f]] g.drew fun e a=>(∃X mp,Hid (Y6 m d.L c=bO X)/\e= .returned (.map<|bO mp)/\Hid (Nw g.drew a/\g.drew.heap.size<=mp/\Xd a mp X))\/(Hid (Y6 m d.L c=bN)/\e=eF tv/\Hid (Nw g.drew a)):=R.o.mono fun e a ⟨E,F⟩=>by
  cases hq:Y6 m d.L c with
  |none=>rw[hq]at F;exact .inr ⟨rfl,F,E⟩
  |some X=>rw[hq]at F;obtain⟨mp,h3,h4,h5⟩:=F;exact .inl ⟨X,mp,rfl,h3,E,h4,h5⟩
 have T:Hid<|∀a,Y6 m d.L c=bN->Nw g.drew a->vD tv b k m (Y6 m d.L<|Xz k.m m.ep) w (eF tv) a:=fun a E F=>by
  unfold vD;rw[o.o,E];exact⟨G.o.trans<|(O.o.trans F).mono fun _ x=>x.elim,rfl⟩
 go_wp2
 go_region_held2 (fun a=>MC w.heap.size m m.root a/\a.cell? (zq b 6)=bO (zs c)/\a.cell? (zq b 7)=bO (zs f)) (first|exact S0|exact S1|exact S2)
  ((go_at_call 206;refine Q.o.mono ?_;rintro e w4 (⟨X,mp,HQ,rfl,q⟩|⟨HQ,rfl,q⟩);rotate_left;(exact⟨rfl,T.o _ HQ.o q.o⟩);have C:Hid<|Nw g w4:=O.o.trans q.o.1;have S1:=I.o _ C.o;have x4:=(J.o _ C.o).1;have y4:=(J.o _ C.o).2;have S2:=U.o w4 mp C.o))
 have i:=q.o;have A5:=zl<|(G.o.trans<|C.o.mono fun _ x=>x.elim).trans<|xb.set _ (zq b 4)<|.map<|bO mp;have t:=zl<|(s.o.but C.o id).set 4<|.map<|bO mp;have l:=zl<|(H.o.but C.o id).other (p:=zq b 4) (by show w.heap.size≠b;omega)<|.map<|bO mp;have j:mp≠b:=by have E:=i.2.1;have F:=G.o.size;simp at E;omega
 have M5:=zl<|i.2.2.but (xb.set w4 (zq b 4)<|.map<|bO mp) j;have S:Hid<|w.heap.size<=mp:=by show _<=_;have E:=i.2.1;have F:=G.o.size;simp at E;omega
 clear i q S0 S1 S2 x4 y4 I U J R Q T O C
 try clear hHeld
 generalize w4.setCell (zq b 4) (.map<|bO mp)=w5 at*;have z2:w5.cell? (zq w.heap.size 2)=bO (zi m.cnt):=l.o.cell 2 rfl;have z4:w5.cell? (zq w.heap.size 4)=bO (zi m.base):=l.o.cell 4 rfl;have z5:w5.cell? (zq w.heap.size 5)=bO (zi m.file):=l.o.cell 5 rfl;have z6:w5.cell? (zq w.heap.size 6)=bO (zi m.len):=l.o.cell 6 rfl;have z8:w5.cell? (zq w.heap.size 8)=bO (zs m.last):=l.o.cell 8 rfl;have b8:w5.cell? (zq b 8)=bO (zi k.cnt):=t.o.cell 8 rfl;have b9:w5.cell? (zq b 9)=bO (zs k.tag):=t.o.cell 9 rfl;have bl:w5.cell? (zq b 11)=bO (zi k.base):=t.o.cell 11 rfl;have bm:w5.cell? (zq b 13)=bO (zi k.named):=t.o.cell 13 rfl;have bn:w5.cell? (zq b 14)=bO (zi k.dK):=t.o.cell 14 rfl;have f8:=t.o.bT 8;have f9:=t.o.bT 9;have bo:=t.o.bT 11;have bp:=t.o.bT 13;have bq:=t.o.bT 14;have bj:¬w.heap.size=b:=by omega
 have bt:¬b=w.heap.size:=by omega
 have bi:¬mp=b:=j;have LE:=(((t.o.set 8<|zi m.cnt).set 9<|zs m.last).set 11<|zi m.base).set 13<|zi m.file;have BE:xb (·=b) w5<|(((w5.setCell (zq b 8)<|zi m.cnt).setCell (zq b 9)<|zs m.last).setCell (zq b 11)<|zi m.base).setCell (zq b 13)<|zi m.file:=(((xb.set w5 (zq b 8) _).trans<|xb.set _ (zq b 9) _).trans<|xb.set _ (zq b 11) _).trans<|xb.set _ (zq b 13) _;have r:Hid (∀w1,xb (·=b) w5 w1->w1.cell? (zq w.heap.size 2)=bO (zi m.cnt)/\w1.cell? (zq w.heap.size 4)=bO (zi m.base)/\w1.cell? (zq w.heap.size 5)=bO (zi m.file)/\w1.cell? (zq w.heap.size 6)=bO (zi m.len)/\w1.cell? (zq w.heap.size 8)=bO (zs m.last)):=fun w1 v=>by
  have B:=l.o.but v bj;exact⟨B.cell 2 rfl,B.cell 4 rfl,B.cell 5 rfl,B.cell 6 rfl,B.cell 8 rfl⟩
 have Y:=r.o w5.drew (xb.refl _ _).drew;have Z:=r.o (w5.setCell (zq b 8)<|zi m.cnt).drew ((xb.refl _ _).trans<|xb.set _ (zq b 8) _).drew;have ba:=r.o ((w5.setCell (zq b 8)<|zi m.cnt).setCell (zq b 9)<|zs m.last).drew (((xb.refl _ _).trans<|xb.set _ (zq b 8) _).trans<|xb.set _ (zq b 9) _).drew;have bb:=r.o (((w5.setCell (zq b 8)<|zi m.cnt).setCell (zq b 9)<|zs m.last).setCell (zq b 11)<|zi m.base).drew ((((xb.refl _ _).trans<|xb.set _ (zq b 8) _).trans<|xb.set _ (zq b 9) _).trans<|xb.set _ (zq b 11) _).drew;have bc:=r.o ((((w5.setCell (zq b 8)<|zi m.cnt).setCell (zq b 9)<|zs m.last).setCell (zq b 11)<|zi m.base).setCell (zq b 13)<|zi m.file).drew (((((xb.refl _ _).trans<|xb.set _ (zq b 8) _).trans<|xb.set _ (zq b 9) _).trans<|xb.set _ (zq b 11) _).trans<|xb.set _ (zq b 13) _).drew;have y:=zl LE;have n:=zl BE;clear LE BE;by_cases h0:0<m.len
 ·have i0:(0:Int)<(m.len:Int):=by omega
  have HF:Hid<|vD tv b k m (Y6 m d.L<|Xz k.m m.ep) w (.returned<|.tuple #[])<|(((((w5.setCell (zq b 8)<|zi m.cnt).setCell (zq b 9)<|zs m.last).setCell (zq b 11)<|zi m.base).setCell (zq b 13)<|zi m.file).setCell (zq b 14)<|zi m.file).drew:=by
   show vD _ _ _ _ _ _ _ _;unfold vD;rw[o.o,HQ.o];refine⟨((A5.o.trans n.o).trans<|xb.set _ (zq b 14) _).drew,rfl,mp,S.o,M5.o.but ((n.o.trans<|xb.set _ (zq b 14) _).drew) j,?_⟩;unfold Xa;rw[show Xz (k.begun m mp).m (k.begun m mp).ep=c from o.o,show Jm (k.begun m mp).m (k.begun m mp).ep=f from W.o];have e:(k.begun m mp).cells c f=#[zs k.m,zi k.tc,zs k.mark,zi k.op,.map<|bO mp,zi m.ep,zs c,zs f,zi m.cnt,zs m.last,zs k.ahead,zi m.base,zi k.last,zi m.file,zi m.file,.bool k.dD,zi k.whole]:=by
    simp[Lk.cells,Lk.begun,h0]
   rw[e];exact xx.set y.o 14<|zi m.file
  clear h0 y n
  go_wp2
  go_region_held3 (fun a=>a.cell? (zq w.heap.size 2)=bO (zi m.cnt)/\a.cell? (zq w.heap.size 4)=bO (zi m.base)/\a.cell? (zq w.heap.size 5)=bO (zi m.file)/\a.cell? (zq w.heap.size 6)=bO (zi m.len)/\a.cell? (zq w.heap.size 8)=bO (zs m.last)) (first|with_reducible exact Y|with_reducible exact Z|with_reducible exact ba|with_reducible exact bb|with_reducible exact bc) (fail)
  all_goals (
   go_wp2
   go_end0
   exact HF.o)
 ·have i0:¬(0:Int)<(m.len:Int):=by omega
  have HF:Hid<|vD tv b k m (Y6 m d.L<|Xz k.m m.ep) w (.returned<|.tuple #[])<|((((w5.setCell (zq b 8)<|zi m.cnt).setCell (zq b 9)<|zs m.last).setCell (zq b 11)<|zi m.base).setCell (zq b 13)<|zi m.file).drew:=by
   show vD _ _ _ _ _ _ _ _;unfold vD;rw[o.o,HQ.o];refine⟨(A5.o.trans n.o).drew,rfl,mp,S.o,M5.o.but n.o.drew j,?_⟩;unfold Xa;rw[show Xz (k.begun m mp).m (k.begun m mp).ep=c from o.o,show Jm (k.begun m mp).m (k.begun m mp).ep=f from W.o];have e:(k.begun m mp).cells c f=#[zs k.m,zi k.tc,zs k.mark,zi k.op,.map<|bO mp,zi m.ep,zs c,zs f,zi m.cnt,zs m.last,zs k.ahead,zi m.base,zi k.last,zi m.file,zi k.dK,.bool k.dD,zi k.whole]:=by
    simp[Lk.cells,Lk.begun,h0]
   rw[e];exact y.o
  clear h0 y n
  go_wp2
  go_region_held3 (fun a=>a.cell? (zq w.heap.size 2)=bO (zi m.cnt)/\a.cell? (zq w.heap.size 4)=bO (zi m.base)/\a.cell? (zq w.heap.size 5)=bO (zi m.file)/\a.cell? (zq w.heap.size 6)=bO (zi m.len)/\a.cell? (zq w.heap.size 8)=bO (zs m.last)) (first|with_reducible exact Y|with_reducible exact Z|with_reducible exact ba|with_reducible exact bb|with_reducible exact bc) (fail)
  all_goals (
   go_wp2
   go_end0
   exact HF.o)
def Sr.FY(r:Sr)(s:Jo)(n:Nat):Mf:=⟨s.ep,r.op,r.cnt,s.bP.toNat,s.last.toNat,Ye s.named,n,[],r.mark⟩
def Sr.parts(r:Sr)(s:Jo):List Zl:=J8 (r.FY s (Vf s.L).length) (Xz r.m s.ep)<|Yq<|Vf s.L
def Sr.mf(r:Sr)(s:Jo):Mf:={r.FY s (Vf s.L).length with root:=J7<|r.parts s}
def Sr.jR(r:Sr)(s:Jo):Option Int×Sr:=
 if s.bP=999 then(bO 10,r)
 else if 16384<(Vf s.L).length\/r.d.room-J6 r.d.L<(r.roomFor (Vf s.L).length:Int)then(bO 9,r)
 else if(({r with sn:=bO {s with bP:=s.bP+1}}:Sr).lays (r.mf s) (r.parts s).flatten<|(r.mf s).bS<|Jm r.m s.ep).1=bL then
  (bO 0,{r with d:=(({r with sn:=bO {s with bP:=s.bP+1}}:Sr).lays (r.mf s) (r.parts s).flatten<|(r.mf s).bS<|Jm r.m s.ep).2,sn:=bO {s with bP:=s.bP+1,base:=s.last,named:=(Ye s.named:Int)}})
 else(bN,{r with d:=(({r with sn:=bO {s with bP:=s.bP+1}}:Sr).lays (r.mf s) (r.parts s).flatten<|(r.mf s).bS<|Jm r.m s.ep).2,sn:=bO {s with bP:=s.bP+1}})
def Sr.dG(r:Sr)(s:Jo):Option Int×Sr:=
 if(r.bW s).1=bO 0 then(r.bW s).2.jR (r.ses1 s)else r.bW s
def Kp{cv tv:Zv}(B:Nat)(r:Sr)(s:Jo)(w:Zy)(h:Jq w B r)(hs:r.sn=bO s)(dm:fV B r)(b0:∀r1,r.bW s=(bO 0,r1)->fV B r1/\r1.d.L.length+2<1000000/\jM (r.ses1 s).L/\(r.ses1 s).L.length<=1000000/\0<=(r.ses1 s).bP/\(r.ses1 s).bP<=999/\(qu r1.d.L<|Ye (r.ses1 s).named).length<=900000)(hG:iA cv tv w)(hP:∀c∈s.P,mF c)(dj:s.ep<=1000000):
  bE prog 42 #[zo B] w fun e w'=>∃a r',r.dG s=(a,r')/\e=FD cv a/\jt B r w r' w':=by
 have HH:=zl h;have HK:=zl dm;have HG:=zl hG;have HS:=zl hs;have HP:=zl hP;have cx:=zl b0;clear h dm b0 hG hs hP;go_enter func42.1,Tryz.ntmps42
 go_wp2
 refine(RI<|O_ B r s _ HH.o HS.o HK.o HG.o HP.o).mono ?_;rintro e w1 (⟨v,r1,hw,rfl,bq⟩|⟨r1,hw,rfl,bq⟩);rotate_left;have HR:Hid<|r.dG s=(bN,r1):=by
  show _=_;unfold Sr.dG;rw[hw,aB<|by simp]
 exact⟨rfl,bN,r1,HR.o,rfl,bq⟩;have HW:=zl hw;have T1:=zl bq;clear hw bq;by_cases hv:¬v=0
 ·have HR:Hid<|r.dG s=(bO v,r1):=by
   show _=_;unfold Sr.dG;rw[HW.o,aB<|by simpa using hv]
  have el:decide (v=0)=bK:=by simpa using hv
  go_wp2
  go_ret
  exact⟨_,_,HR.o,rfl,T1.o⟩
 obtain rfl:v=0:=by omega
 have i:=zl<|dT HS.o HW.o;have G1:=zl<|HG.o.but T1.o.but HK.o.own;obtain⟨de,bz,bd,df,b2,dr,cg⟩:=cx.o _ HW.o;have M:Hid<|r.dG s=r1.jR (r.ses1 s):=by
  show _=_;unfold Sr.dG;rw[HW.o,aA rfl]
 have dk:(r.ses1 s).ep<=1000000:=by unfold Sr.ses1;split<;>exact dj
 obtain⟨b,dq⟩:∃b,r.ses1 s=b:=⟨_,rfl⟩;rw[dq]at i bd df b2 dr cg M dk;have o:=zl de;have b9:=zl bd;have cr:Hid<|r1.d.L.length+2<1000000/\(qu r1.d.L<|Ye b.named).length<=900000:=⟨bz,cg⟩;have c7:w1.cell? (zq B 7)=bO (zo b.S):=(T1.o.at_.blk.cell 7 rfl).trans (by simp[Sr.cells,Sr.iJ,i.o]);have R:=(T1.o.at_.bU b i.o).1;have d6:w1.cell? (zq b.S 6)=bO (zi b.bP):=R.blk.cell 6 rfl;have d0:w1.cell? (zq b.S 0)=bO (.map<|bO b.mp):=R.blk.cell 0 rfl;have dw:=zl HG.o;clear dq de bd bz cg cx hv R dj HW HP HS HH HG;by_cases h9:b.bP=999
 ·have HR:Hid<|r.dG s=(bO 10,r1):=by
   show _=_;rw[M.o];unfold Sr.jR;rw[aA h9]
  rw[h9]at d6
  go_wp2
  go_ret
  exact⟨_,_,HR.o,rfl,T1.o⟩
 have H9:=zl h9;have d3:decide (b.bP=999)=bK:=by simpa using h9
 go_wp2
 refine(zrm b.mp b.L df b9.o _ (T1.o.at_.bU b i.o).1.map).mono ?_;rintro e w2 ⟨rfl,cf⟩;have T2:=zl<|T1.o.trans<|jt.nw T1.o.at_<|xb.of_below cf;have G2:=zl<|G1.o.but (S:=fun _=>False) (xb.of_below cf) fun _ x=>x.elim;obtain⟨x,Q⟩:∃x,Vf b.L=x:=⟨_,rfl⟩;have HX:=zl Q;have em:x.length<=50000000:=by
  have:=r_ b9.o (ks:=Vp b.L) fun k hk=>(b9.o.key hk).2;rw[o8]at this;rw[<-Q];show(List.flatMap (qO b.L)<|Vp b.L).length<=_;omega
 rw[Q];clear Q cf T1 G1 d0 d6 h9 d3;by_cases bx:16384<x.length
 ·have HR:Hid<|r.dG s=(bO 9,r1):=by
   show _=_;rw[M.o];unfold Sr.jR;rw[aB H9.o,aA<|.inl<|by rw[HX.o];exact bx]
  have dh:(16384:Int)<(x.length:Int):=by omega
  clear c7
  go_wp2
  go_quiet (fail)
  have T3:Hid<|jt B r w r1<|w2.drewN nq:=T2.o.trans<|jt.nw T2.o.at_ (xb.refl _ _).drewN'
  go_wp2
  go_ret
  exact⟨_,_,HR.o,rfl,T3.o⟩
 have cp:=zl bx;have dh:¬(16384:Int)<(x.length:Int):=by omega
 have ef:decide ((16384:Int)<(x.length:Int))=bK:=by simpa using dh
 have A2:=zl<|T2.o.at_.but (S:=fun _=>False) (xb.refl _ _).drew fun _ _=>id;have g:Hid<|∀w1,Nw w2 w1->w1.cell? (zq B 2)=bO (zo r1.D):=fun w1 hh=>(T2.o.at_.blk.but hh id).cell 2 rfl;have S0:=g.o w2<|xb.refl _ _;have dn:r1.roomFor x.length<=1000000:=by unfold Sr.roomFor;split<;>omega
 have cb:=zl<|tW B r1 x (by omega) w2.drew A2.o;have b5:=zl (Az r1.D r1.d w2.drew A2.o.disk o.o.files (by have:=o.o.room;omega)<|by have:=o.o.room;omega);obtain⟨rf,cj⟩:∃rf,r1.roomFor x.length=rf:=⟨_,rfl⟩;obtain⟨fr,ch⟩:∃fr,r1.d.room-J6 r1.d.L=fr:=⟨_,rfl⟩;have Y:=zl cj;have V:=zl ch;rw[cj]at cb dn;rw[ch]at b5;clear cj ch c7
 go_wp2
 go_region_held3 (fun w'=>w'.cell? (zq B 2)=bO (zo r1.D)) (first|exact S0|exact F)
  (first
   |(go_at_call 88;refine cb.o.mono ?_;rintro e w3 ⟨rfl,d8⟩;obtain rfl:=d8)
   |(go_at_call 89;refine b5.o.mono ?_;rintro e l ⟨rfl,di⟩;have N4:Hid<|Nw w2 l:=(xb.refl _ _).drew.trans<|xb.of_below di;have F:=g.o _ N4.o))
 have T4:=zl<|T2.o.trans<|jt.nw T2.o.at_ N4.o;have G4:=zl<|G2.o.but N4.o fun _ x=>x.elim;clear S0 F g cb b5 A2 N4 di T2 G2
 try clear hHeld
 by_cases dp:fr<(rf:Int)
 ·have HR:Hid<|r.dG s=(bO 9,r1):=by
   show _=_;rw[M.o];unfold Sr.jR;rw[aB H9.o,aA<|.inr<|by rw[HX.o,V.o,Y.o];exact dp]
  go_wp2
  go_ret
  exact⟨_,_,HR.o,rfl,T4.o⟩
 have c0:=zl dp;have eh:(rf:Int)<=fr:=by omega
 have g:Hid<|∀w1,Nw l w1->w1.cell? (zq B 3)=bO (zs r1.m)/\w1.cell? (zq B 4)=bO (zi r1.cnt)/\w1.cell? (zq B 5)=bO (zs r1.mark)/\w1.cell? (zq B 6)=bO (zi r1.op)/\w1.cell? (zq b.S 2)=bO (zi b.ep):=fun w1 hh=>by
  have R:=T4.o.at_.blk.but hh id;have k2:=(T4.o.at_.bU b i.o).1.blk.but hh id;exact⟨R.cell 3 rfl,R.cell 4 rfl,R.cell 5 rfl,R.cell 6 rfl,k2.cell 2 rfl⟩
 have N0:Hid<|Nw l l.drew:=(xb.refl _ _).drew;have NA:Hid<|Nw l<|l.drew.alloc<|.cells #[.string ⟨#[]⟩,.string ⟨#[]⟩] 145:=N0.o.trans<|xb.alloc _;have S0:=g.o l<|xb.refl _ _;have SA:=g.o _ NA.o;have TA:=zl<|(G4.o.but N0.o fun _ x=>x.elim).tab;have TB:=zl<|(G4.o.but NA.o fun _ x=>x.elim).tab;have XA:Hid<|xx (l.drew.alloc<|.cells #[.string ⟨#[]⟩,.string ⟨#[]⟩] 145) l.heap.size #[.string ⟨#[]⟩,.string ⟨#[]⟩] 145:=xx.new l.drew _ _
 go_wp2
 go_region_held3 (fun w'=>w'.cell? (zq B 3)=bO (zs r1.m)/\w'.cell? (zq B 4)=bO (zi r1.cnt)/\w'.cell? (zq B 5)=bO (zs r1.mark)/\w'.cell? (zq B 6)=bO (zi r1.op)/\w'.cell? (zq b.S 2)=bO (zi b.ep)) (first|exact S0|exact SA|exact F|exact SB|exact SC)
  (first
   |(go_at_call 90;refine(EO r1.m r1.mark (r1.cnt:Int) (r1.op:Int) b.ep o.o.m _ TA.o).mono ?_;rintro e J ⟨rfl,bb⟩;have N5:Hid<|Nw l J:=N0.o.trans<|xb.of_below bb;have F:=g.o _ N5.o;have NB:Hid<|Nw l<|J.alloc<|.cells #[.string ⟨#[]⟩,.string ⟨#[]⟩] 145:=N5.o.trans<|xb.alloc _;have SB:=g.o _ NB.o;have NC:Hid<|Nw l<|J.alloc<|.cells #[zs<|Xz r1.m b.ep,zs<|Jm r1.m b.ep] 145:=N5.o.trans<|xb.alloc _;have SC:=g.o _ NC.o;have X6:Hid<|xx (J.alloc<|.cells #[zs<|Xz r1.m b.ep,zs<|Jm r1.m b.ep] 145) J.heap.size #[zs<|Xz r1.m b.ep,zs<|Jm r1.m b.ep] 145:=xx.new J _ _;have bf:=N5.o.size)
   |(go_at_call 90;refine(EO r1.m r1.mark (r1.cnt:Int) (r1.op:Int) b.ep o.o.m _ TB.o).mono ?_;rintro e J ⟨rfl,bb⟩;have N5:Hid<|Nw l J:=NA.o.trans<|xb.of_below bb;have F:=g.o _ N5.o;have X5:=zl<|XA.o.below bb;have eb:=X5.o.cell 0 rfl;have ec:=X5.o.cell 1 rfl;have ed:=X5.o.bT 0;have ee:=X5.o.bT 1;have NC:Hid<|Nw l<|(J.setCell (zq l.heap.size 0)<|zs<|Xz r1.m b.ep).setCell (zq l.heap.size 1)<|zs<|Jm r1.m b.ep:=xb.fresh (xb.fresh N5.o (ze _)<|xb.set _ (zq l.heap.size 0) _) (ze _)<|xb.set _ (zq l.heap.size 1) _;have SC:=g.o _ NC.o;have X6:Hid<|xx ((J.setCell (zq l.heap.size 0)<|zs<|Xz r1.m b.ep).setCell (zq l.heap.size 1)<|zs<|Jm r1.m b.ep) l.heap.size #[zs<|Xz r1.m b.ep,zs<|Jm r1.m b.ep] 145:=(X5.o.set 0 _).set 1 _;have bf:=ze l.heap.size))
 all_goals (
  have T6:=T4.o.trans<|jt.nw T4.o.at_ NC.o;have G6:=G4.o.but NC.o fun _ x=>x.elim;have K6:=X6.o;have bi:Hid<|∀x,r1.own B x->x<l.heap.size:=fun x Q=>Sr.bX T4.o.at_ Q;have bj:=zl T6;have cs:=zl G6;have ct:=zl K6;clear T6 G6 K6 S0 SA F SC g N0 NA NC N5 TA TB XA X6 T4 G4 bb
  try clear NB
  try clear SB
  try clear X5
  try clear eb
  try clear ec
  try clear ed
  try clear ee
  try clear hHeld)
 have b6:Hid<|¬r1.own B J.heap.size:=fun x=>by have:=bi.o _ x;omega
 clear bi bf;generalize J.alloc (.cells #[zs<|Xz r1.m b.ep,zs<|Jm r1.m b.ep] 145)=w6 at*;generalize J.heap.size=kb at*;rotate_left;have b6:Hid<|¬r1.own B l.heap.size:=fun x=>by have:=bi.o _ x;omega
 clear bi bf;generalize(J.setCell (zq l.heap.size 0)<|zs<|Xz r1.m b.ep).setCell (zq l.heap.size 1) (zs<|Jm r1.m b.ep)=w6 at*;generalize l.heap.size=kb at*
 all_goals (
  go_wp2
  refine(xnk B r1 b x.length _ bj.o.at_ i.o).mono ?_;rintro e w7 ⟨rfl,bn⟩;have NV:UI r1 b x.length=(r1.FY b x.length).cells:=by
   have:=(o.o.bU b i.o).1;simp only[UI,Mf.cells,Sr.FY];rw[Int.toNat_of_nonneg b2,Int.toNat_of_nonneg this];rfl
  rw[NV];have T7:=zl<|bj.o.trans<|jt.nw bj.o.at_<|xb.of_below bn;have G7:=zl<|cs.o.but (S:=fun _=>False) (xb.of_below bn) fun _ x=>x.elim;have K7:=zl<|xx.below ct.o bn;obtain⟨f,ci⟩:∃f,r1.FY b x.length=f:=⟨_,rfl⟩;have X:=zl ci;rw[ci];clear ci bn NV bj cs ct;unfold Mf.cells
  go_wp2)
 all_goals (
  have N8:Hid<|Nw w7<|w7.alloc<|.cells f.cells 164:=xb.alloc _;have T:Hid<|xx (w7.alloc<|.cells f.cells 164) w7.heap.size f.cells 164:=xx.new _ _ _;have T8:=zl<|T7.o.trans<|jt.nw T7.o.at_ N8.o;have G8:=zl<|G7.o.but N8.o fun _ x=>x.elim;have K8:=zl<|K7.o.alloc<|.cells f.cells 164;have d7:kb≠w7.heap.size:=by have:=K7.o.lt;omega
  have b8:Hid<|¬r1.own B w7.heap.size:=fun x=>by have:=Sr.bX T7.o.at_ x;omega
  have cw:=zl T7.o.but.size;clear N8 T7 G7 K7;unfold Mf.cells at T T8 G8 K8;generalize w7.alloc (.cells _ 164)=w8 at*;generalize w7.heap.size=mb at*;obtain⟨C,bo⟩:∃C,Xz r1.m b.ep=C:=⟨_,rfl⟩;obtain⟨E,br⟩:∃E,Jm r1.m b.ep=E:=⟨_,rfl⟩;have du:=zl bo;have c3:=zl br;have dv:Hid<|C.length=16:=by show _=_;rw[<-bo];exact A9 _ _
  have dz:Hid<|E.length=32:=by show _=_;rw[<-br];exact F8 _ _
  rw[bo,br]at K8⊢;clear bo br;have g:Hid<|∀w1,Nw w8 w1->MC mb f f.root w1/\w1.cell? (zq kb 0)=bO (zs C)/\w1.cell? (zq kb 1)=bO (zs E):=fun w1 hh=>by
   have R:=T.o.but hh id;have k2:=K8.o.but hh id;exact⟨R.mc,k2.cell 0 rfl,k2.cell 1 rfl⟩
  have S0:=g.o w8<|xb.refl _ _;have N0:Hid<|Nw w8 w8.drew:=(xb.refl _ _).drew;obtain⟨dd,d1,d2⟩:=DU x;have U:Hid<|(∀y∈Yq x,y.length<=64)/\(Yq x).length<=256:=⟨dd,by omega⟩;clear dd d1 d2
  go_region_held3 (fun w'=>MC mb f f.root w'/\w'.cell? (zq kb 0)=bO (zs C)/\w'.cell? (zq kb 1)=bO (zs E)) (first|exact S0|exact F)
   (first
    |(go_at_call 93;refine(B_ x (by omega) _).mono ?_;rintro e w9 ⟨v9,rfl,be,dl⟩;have N9:Hid<|Nw w8 w9:=N0.o.trans dl;have F:=g.o _ N9.o;have dc:=zl<|Ul be)
    |(go_at_call 92;refine(Pb f (Yq x) v9 C E dv.o (fun y hy=>by have:=U.o.1 y hy;omega) (by have:=U.o.2;omega) _ dc.o).mono ?_;rintro e dt ⟨bs,rfl,H,bc⟩;have O:Hid<|Nw w8 dt:=N9.o.trans bc;have F:=g.o _ O.o;have c9:=zl H)))
 all_goals (
  have ek:=N9.o.size;have ei:=bc.size;have cc:=zl<|T8.o.trans<|jt.nw T8.o.at_ O.o;have b3:=zl<|G8.o.but O.o fun _ x=>x.elim;have bt:=zl<|T.o.but O.o id;have c5:=zl<|K8.o.but O.o id;have eg:=T.o.lt;have ej:=Sr.bX T8.o.at_<|.inr<|.inr ⟨b,i.o,.inl rfl⟩;have K:Hid<|(∀y∈J8 f C (Yq x),y.length<=64)/\(J8 f C<|Yq x).length<=256:=⟨Rb U.o.1,by rw[zZ];exact U.o.2⟩;have ca:Hid<|r1.parts b=J8 f C (Yq x):=by
   show _=_;unfold Sr.parts;rw[HX.o,X.o,du.o]
  have ba:Hid<|dt.ownsRow w9.heap.size 9 1 bs (J8 f C<|Yq x).length<|(J8 f C<|Yq x).map iU:=by
   show World.ownsRow _ _ _ _ _ _ _;rw[zZ];exact c9.o
  generalize J8 f C (Yq x)=ps at*;clear c9 S0 F g N0 N9 O dc be dl H bc T8 G8 T K8 U
  try clear hHeld
  go_wp2
  refine(Tp ps bs K.o.2 (fun y hy=>by have:=K.o.1 y hy;omega) _ b3.o.tab ba.o).mono ?_;rintro e en ⟨rfl,t⟩;have cd:=zl<|cc.o.trans<|jt.nw cc.o.at_<|xb.of_below t;have cm:=zl<|b3.o.but (S:=fun _=>False) (xb.of_below t) fun _ x=>x.elim;have G:=zl<|bt.o.below t;have c6:=zl<|c5.o.below t;have da:=zl<|yU ba.o (xb.of_below (S:=fun _=>False) t) fun _ _ x=>x;have b1:=Sd ps K.o.2;clear t cc b3 bt c5 ba
  go_wp2
  refine(KQ (st<|J7 ps) _).mono ?_;rintro e z ⟨rfl,ds⟩;obtain rfl:=ds;have q7:=G.o.cell 7 rfl;have p7:=G.o.bT 7;have cl:=(cd.o.at_.bU b i.o).1;have q6:z.cell? (zq b.S 6)=bO (zi b.bP):=cl.blk.cell 6 rfl;have p6:=cl.blk.bT 6;have d4:b.S≠mb:=fun e=>b8.o<|.inr<|.inr ⟨b,i.o,.inl e.symm⟩;have dg:¬mb=b.S:=fun e=>d4 e.symm;clear cl
  go_wp2)
 all_goals (
  have TA:=zl<|cd.o.fresh cw.o b8.o<|xb.set _ (zq mb 7)<|zs<|J7 ps;have ce:Hid<|jt B r w {r1 with sn:=bO {b with bP:=b.bP+1}}<|(z.setCell (zq mb 7)<|zs<|J7 ps).setCell (zq b.S 6)<|zi<|b.bP+1:=
   TA.o.trans (jt.lV (s:=b) (s':={b with bP:=b.bP+1}) TA.o.at_ i.o rfl rfl rfl rfl rfl rfl)
  have BB:Hid<|xb (fun y=>y=mb\/y=b.S) z<|(z.setCell (zq mb 7)<|zs<|J7 ps).setCell (zq b.S 6)<|zi<|b.bP+1:=
   ((xb.set z (zq mb 7) _).mono fun y hy=> .inl hy).trans ((xb.set _ (zq b.S 6) _).mono fun y hy=> .inr hy)
  have b4:=zl (cm.o.but BB.o (fun y hy=>by
   rcases hy with rfl|rfl;have:=dw.o.pos;have:=cw.o;omega;exact o.o.own _<|.inr<|.inr ⟨b,i.o,.inl rfl⟩))
  have bu:Hid<|xx ((z.setCell (zq mb 7)<|zs<|J7 ps).setCell (zq b.S 6)<|zi<|b.bP+1) mb _ 164:=(G.o.set 7 _).other (p:=zq b.S 6) dg _;have d5:kb≠b.S:=fun e=>b6.o<|.inr<|.inr ⟨b,i.o,.inl e⟩;have c8:Hid<|xx ((z.setCell (zq mb 7)<|zs<|J7 ps).setCell (zq b.S 6)<|zi<|b.bP+1) kb _ 145:=(c6.o.other (p:=zq mb 7) d7 _).other (p:=zq b.S 6) d5 _;have db:=zl (yU da.o BB.o fun q hq Q=>by rcases Q with rfl|rfl<;>omega);clear TA BB cd cm G c6 da q7 p7 q6 p6;generalize(z.setCell (zq mb 7)<|zs<|J7 ps).setCell (zq b.S 6) (zi<|b.bP+1)=w13 at*;have cu:Hid<|r1.mf b={f with root:=J7 ps}:=by
   show _=_;unfold Sr.mf;rw[ca.o,HX.o,X.o]
  have b7:Hid<|f.last.length=32:=by show _=_;rw[<-X.o];exact o.o.mark
  have bh:Hid<|(f.file:Int)=(Ye b.named:Int):=by show _=_;rw[<-X.o];rfl
  have cq:Hid<|(f.base:Int)=b.last:=by
   show _=_;rw[<-X.o];show((b.last.toNat:Nat):Int)=_;exact Int.toNat_of_nonneg (o.o.bU b i.o).1
  have dx:Hid<|fV B {r1 with sn:=bO {b with bP:=b.bP+1}}:=o.o.bP i.o _;have cy:Hid<|∀y,Sr.own B {r1 with sn:=bO {b with bP:=b.bP+1}} y->r1.own B y:=fun y hy=>(RK i.o).1 hy;obtain⟨lx,bp⟩:∃lx,Sr.lays {r1 with sn:=bO {b with bP:=b.bP+1}} {f with root:=J7 ps} ps.flatten (Mf.bS {f with root:=J7 ps} E)=lx:=⟨_,rfl⟩;have c2:Hid<|lx.1=bL->r.dG s=(bO 0,{r1 with d:=lx.2,sn:=bO {b with bP:=b.bP+1,base:=b.last,named:=(Ye b.named:Int)}}):=fun Q=>by
   rw[M.o];unfold Sr.jR;rw[HX.o,aB H9.o,aB<|by rw[V.o,Y.o];exact not_or.2 ⟨cp.o,by have:=c0.o;omega⟩,cu.o,ca.o,c3.o,bp,aA Q]
  have c1:Hid<|lx.1=bK->r.dG s=(bN,{r1 with d:=lx.2,sn:=bO {b with bP:=b.bP+1}}):=fun Q=>by
   rw[M.o];unfold Sr.jR;rw[HX.o,aB H9.o,aB<|by rw[V.o,Y.o];exact not_or.2 ⟨cp.o,by have:=c0.o;omega⟩,cu.o,ca.o,c3.o,bp,aB<|by rw[Q];simp]
  have cz:Hid<|ps.flatten.length<=16384:=by
   have h1:=zub K.o.1;have h2:=K.o.2;show _<=_;omega
  have CL:Hid<|∀W,Jq W B {r1 with sn:=bO {b with bP:=b.bP+1}}->iA cv tv W->bE prog 95 #[zo B,.agg #[zi f.ep,zi f.op,zi f.cnt,zi f.bP,zi f.base,zi f.file,zi f.len,zs<|J7 ps,zs f.last],zs ps.flatten,zs<|Mf.bS {f with root:=J7 ps} E] W fun e w'=>(e= .returned (.tuple #[])/\lx.1=bL/\jt B {r1 with sn:=bO {b with bP:=b.bP+1}} W {r1 with d:=lx.2,sn:=bO {b with bP:=b.bP+1}} w')\/(e=eF cv/\lx.1=bK/\jt B {r1 with sn:=bO {b with bP:=b.bP+1}} W {r1 with d:=lx.2,sn:=bO {b with bP:=b.bP+1}} w'):=fun W hA hG=>by
   have:=xri (sB B {r1 with sn:=bO {b with bP:=b.bP+1}} {f with root:=J7 ps} ps.flatten (Mf.bS {f with root:=J7 ps} E) W hA dx.o hG cr.o.1 (by have:=YR {f with root:=J7 ps} E b1 b7.o;omega) (by
    show(qu r1.d.L ((f.file:Nat):Int)).length+_<=_;rw[bh.o];have:=cr.o.2;have:=cz.o;omega) (by
    show f.file<=_;have:Ye b.named<=10002:=by unfold Ye;split<;>omega
    have:=bh.o;omega))
   rw[bp]at this;exact this
  have CS:Hid<|∀W,dF W->bE prog 97 #[.agg #[zi f.ep,zi f.op,zi f.cnt,zi f.bP,zi f.base,zi f.file,zi f.len,zs<|J7 ps,zs f.last],.agg #[zs C,zs E]] W fun e w'=>e= .returned (zs<|Mf.bS {f with root:=J7 ps} E)/\bC W.heap.size W w':=fun W hT=>
   sT {f with root:=J7 ps} C E (by have:=dz.o;omega) b1 b7.o W hT
  have g:Hid<|∀w1,xb (fun y=>Sr.own B {r1 with sn:=bO {b with bP:=b.bP+1}} y) w13 w1->MC mb f (J7 ps) w1/\w1.cell? (zq kb 0)=bO (zs C)/\w1.cell? (zq kb 1)=bO (zs E):=fun w1 hh=>by
   have R:=bu.o.but hh fun x=>b8.o<|cy.o _ x;have k2:=c8.o.but hh fun x=>b6.o<|cy.o _ x;exact⟨R.mc,k2.cell 0 rfl,k2.cell 1 rfl⟩
  have N0:Hid<|Nw w13 w13.drew:=(xb.refl _ _).drew;have O0:Hid<|w13.drew.ownsRow w9.heap.size 9 1 bs ps.length<|ps.map iU:=db.o;have S0:=g.o w13<|xb.refl _ _;generalize Mf.bS {f with root:=J7 ps} E=sld at*;clear bp
  go_region_held2 (fun w'=>MC mb f (J7 ps) w'/\w'.cell? (zq kb 0)=bO (zs C)/\w'.cell? (zq kb 1)=bO (zs E)) (first|exact S0|exact F)
   (first
    |(go_at_call 96;refine(Ba ps bs (by have:=K.o.2;omega) (by have:=cz.o;omega) _ O0.o).mono ?_;rintro e d9 ⟨rfl,bv⟩;have bk:Hid<|Nw w13 d9:=N0.o.trans<|xb.of_below bv;have F:=g.o _<|bk.o.mono fun _ x=>x.elim;have cn:=zl<|b4.o.but bk.o fun _ x=>x.elim)
    |(go_at_call 97;refine(CS.o _ cn.o.tab).mono ?_;rintro e ea ⟨rfl,bw⟩;have Z:Hid<|Nw w13 ea:=bk.o.trans<|xb.of_below bw;have F:=g.o _<|Z.o.mono fun _ x=>x.elim;have co:=zl<|b4.o.but Z.o fun _ x=>x.elim;have bl:=zl<|ce.o.trans<|jt.nw ce.o.at_ Z.o)
    |(go_at_call 95;refine(CL.o _ bl.o.at_ co.o).mono ?_;rintro e w16 (⟨rfl,I,n⟩|⟨rfl,I,n⟩);rotate_left;(exact⟨rfl,bN,_,c1.o I,rfl,bl.o.trans n⟩);have c4:=zl I;have bm:=zl<|bl.o.trans n;have F:=g.o _<|(Z.o.mono fun _ x=>x.elim).trans n.but)))
 all_goals (
  obtain⟨⟨-,-,-,-,q4,q5,-⟩,-⟩:=F;have bg:=(bm.o.at_.bU {b with bP:=b.bP+1} rfl).1;have q3:w16.cell? (zq b.S 3)=bO (zi b.base):=bg.blk.cell 3 rfl;have q6:w16.cell? (zq b.S 5)=bO (zi b.named):=bg.blk.cell 5 rfl;have p3:w16.frozen? (zq b.S 3)=bK:=bg.blk.bT 3;have p5:w16.frozen? (zq b.S 5)=bK:=bg.blk.bT 5;have TU:=jt.lV (j:=3) (v:=zi f.base) (s:={b with bP:=b.bP+1}) (s':={b with bP:=b.bP+1,base:=b.last}) bm.o.at_ rfl (by rw[cq.o];rfl) rfl rfl rfl rfl rfl;have TV:=jt.lV (j:=5) (v:=zi f.file) (s:={b with bP:=b.bP+1,base:=b.last}) (s':={b with bP:=b.bP+1,base:=b.last,named:=(Ye b.named:Int)}) TU.at_ rfl (by rw[bh.o];rfl) rfl rfl rfl rfl rfl;have TW:=(bm.o.trans TU).trans TV;have TX:Hid<|jt B r w {r1 with d:=lx.2,sn:=bO {b with bP:=b.bP+1,base:=b.last,named:=(Ye b.named:Int)}} ((w16.setCell (zq b.S 3)<|zi f.base).setCell (zq b.S 5)<|zi f.file).drew:=TW.trans<|jt.nw TW.at_ (xb.refl _ _).drew;have dy:=zl<|c2.o c4.o;clear bg TU TV TW S0 g CL CS c2 c1 cq bh b7 bm bl co cn bk Z bv bw n I ce b4 bu c8 db O0 N0
  try clear hHeld
  go_wp2
  go_region_with (fail)
  all_goals (
   go_wp2
   go_ret
   exact⟨_,_,dy.o,rfl,TX.o⟩))
end
section
variable {F:Ym} {L L':KV} {xs:List Zl} {n:Nat} {a:Nat} {k:Int}
def Jp(m mark:Zl)(tc op:Int)(mp:Nat):Lk:=⟨m,tc,mark,op,mp,0,0,oV,[],0,0,0,0,bK,0⟩
def qQ(F:Ym):Nat->Nat->Nat
 |0,n=>n
 |f+1,n=>if n<9999/\qu F ((n+1:Nat):Int)≠[]then qQ F f (n+1)else n
def Jl(F:Ym)(n:Nat):Nat:=qQ F (9999-n) n
def Rn(h:n<9999)(a:qu F ((n+1:Nat):Int)≠[]):Jl F n=Jl F (n+1):=by
 unfold Jl;obtain⟨f,b⟩:∃f,9999-n=f+1:=⟨9999-n-1,by omega⟩;rw[b,qQ,aA ⟨h,a⟩,show 9999-(n+1)=f by omega]
def ZJ(h:¬(n<9999/\qu F ((n+1:Nat):Int)≠[])):Jl F n=n:=by
 unfold Jl;cases hf:9999-n with
 |zero=>rfl
 |succ f=>rw[qQ,aB h]
def Ut(F:Ym):∀(f n:Nat),n<=qQ F f n/\qQ F f n<=n+f
 |0,n=>⟨ze _,ze _⟩
 |f+1,n=>by
  have:=Ut F f<|n+1;unfold qQ;split<;>omega
def PB(F:Ym)(n:Nat):n<=Jl F n/\(Jl F n<=n\/Jl F n<=9999):=by
 have:=Ut F (9999-n) n;unfold Jl;omega
open Classical in
noncomputable def Wr(k:Lk)(F:Ym):Option<|Lk×KV:=
 if qu F 0=[]then bO (k,[])
 else if qJ k.m k.tc (qu F 0)then(Y6 (iL<|qu F 0) F<|Xz k.m (iL<|qu F 0).ep).map fun L=>(k.begun (iL<|qu F 0) k.mp,L)
 else bN
open Classical in
noncomputable def Yu(k:Lk)(F:Ym):Option<|Lk×KV:=
 match Wr k F with
 |none=>bN
 |some (k1,L1)=>match dJ (fun i=>qu F (i:Int)) (k1.base.toNat+1) {k1 with last:=(Jl F k1.base.toNat:Int)} L1 (Jl F k1.base.toNat-k1.base.toNat)with
  |some (k2,L2)=>if sS k2 then bO (k2,L2)else bN
  |none=>bN
def KE(tv:Zv)(X:Nat->Option (Lk×KV))(w:Zy)(e:Ending)(w':Zy):Prop:=
 Nw w w'/\∃mp,w.heap.size<=mp/\(match X mp with
  |some (k,L)=>e= .returned (.agg<|k.cells (Xz k.m k.ep)<|Jm k.m k.ep)/\k.mp=mp/\Xd w' mp L
  |none=>e=eF tv)
def Lk.set(k q:Lk):Lk:={k with ep:=q.ep,cnt:=q.cnt,tag:=q.tag,ahead:=q.ahead}
def cI{k q:Lk}(f:q.m=k.m)(L:KV)(r:Bool)(cnt:Nat)(a body tag:Zl):lN (k.set q) L r cnt a body tag=(lN q L r cnt a body tag).map fun p=>(k.set p.1,p.2):=by
 have b:(k.set q).m=q.m:=f.symm;by_cases e:4096<(q.tag++a++body).length;rw[d_ (k:=k.set q) rfl e,d_ rfl e];rfl;by_cases c:tag=V1 (Jm q.m q.ep) (q.tag++a++body);have d:tag=V1 (Jm (k.set q).m (k.set q).ep) (q.tag++a++body):=by rw[b];exact c
 cases r with
 |true=>
  cases h3:nZ (iK (Xz q.m q.ep) (a.take 8) body)with
  |none=>rw[D_ h3,D_ (k:=k.set q)<|by rw[b];exact h3];rfl
  |some D=>rw[zu2 rfl (by omega) c h3,zu2 (k:=k.set q) rfl (show(q.tag++a++body).length<=4096 by omega) d<|by rw[b];exact h3];rfl
 |false=>rw[TT rfl (by omega) c,TT (k:=k.set q) rfl (show(q.tag++a++body).length<=4096 by omega) d];rfl
 rw[D6 rfl c,D6 (k:=k.set q) rfl<|by rw[b];exact c];rfl
def Hs{k q:Lk}(g:q.m=k.m)(L:KV)(kind:Zl)(ep cnt:Nat)(a body tag:Zl):jJ (k.set q) L kind ep cnt a body tag=(jJ q L kind ep cnt a body tag).map fun p=>(k.set p.1,p.2):=by
 unfold jJ;show(if cnt≠q.cnt+1 then bN else _)=_;by_cases b:cnt≠q.cnt+1;rw[aA b,aA b];rfl;rw[aB b,aB b];by_cases c:kind=[82];rw[aA c,aA c];show(if ep=q.ep then _ else _)=_;by_cases d:ep=q.ep;rw[aA d,aA d];exact cI g ..;rw[aB d,aB d];rfl;rw[aB c,aB c];by_cases e:kind=[75];rw[aA e,aA e];show(if ep=q.ep+1/\ep<=5/\body=[]then _ else _)=_;by_cases f:ep=q.ep+1/\ep<=5/\body=[];rw[aA f,aA f];exact cI (k:=k) (q:={q with ep:=ep}) g ..;rw[aB f,aB f];rfl;rw[aB e,aB e];rfl
def Eo{k k':Lk}{kind a body tag:Zl}{ep cnt:Nat}(h:jJ k L kind ep cnt a body tag=bO (k',L')):k'.m=k.m:=by
 unfold jJ at h;split at h;cases h;split at h;split at h;rw[DW h];cases h;split at h;split at h;rw[DW h];cases h;cases h
def Ef:∀(n:Nat) {k k':Lk} {L L':KV} {x r:Zl},x.length<=n->recs k L x=bO (k',L',r)->k'.m=k.m
 |n,k,k',L,L',x,r,hn,h=>by
  by_cases a:X7 x=bL;have b:=Wa a;cases hr:lY k L x with
  |none=>rw[JJ a hr]at h;cases h
  |some p=>
   obtain⟨d,c⟩:=p;rw[zX a hr]at h
   match n,hn with
   |0,hn=>omega
   |n+1,hn=>exact(Ef n (by rw[jb];omega) h).trans<|Eo hr
  rw[KH<|by simpa using a]at h;cases h;rfl
def cL:∀(n:Nat) {k q:Lk} {L:KV} {x:Zl},x.length<=n->q.m=k.m->recs (k.set q) L x=(recs q L x).map fun p=>(k.set p.1,p.2)
 |n,k,q,L,x,hn,hm=>by
  by_cases a:X7 x=bL;have c:=Wa a;have e:lY (k.set q) L x=(lY q L x).map fun p=>(k.set p.1,p.2):=Hs hm ..;cases hr:lY q L x with
  |none=>rw[hr]at e;rw[JJ a hr,JJ a e];rfl
  |some p=>
   obtain⟨f,d⟩:=p;rw[hr]at e;rw[zX a hr,zX a e]
   match n,hn with
   |0,hn=>omega
   |n+1,hn=>exact cL n (by rw[jb];omega)<|(Eo hr).trans hm
  have b:X7 x=bK:=by simpa using a
  rw[KH b,KH b];rfl
def oZ(k:Lk)(L:KV)(num:Nat)(x:Zl)(k':Lk)(L':KV):Prop:=∃y,x=nE num (k.cnt+1)++y/\y≠[]/\recs k L y=bO (k',L',[])
def zz6(n c:Nat):(nE n c).length=9:=by simp[nE,qt]
def oZ.eP{k k':Lk}{x:Zl}(h:oZ k L a x k' L'):eP k L a x=bO (k',L'):=by
 obtain⟨y,rfl,e,c⟩:=h;have b:=zz6 a<|k.cnt+1;have f:=qb.2 e;have d:(nE a (k.cnt+1)++y).take 9=83::(nb a 4++nb (k.cnt+1) 4):=Zd b;rw[zs0 (by simp only[zj];omega) d,Z6 b,c];simp only[zj,b,jn];rw[aB<|by omega];unfold Wq;rw[aB<|by omega]
def oZ.ne{k k':Lk}{x:Zl}(h:oZ k L a x k' L'):x≠[]:=by
 obtain⟨y,rfl,c,b⟩:=h;simp[nE]
def oZ.more{k k' b:Lk}{L L' a:KV}{c:Nat}{x z:Zl}(h:oZ k L c x k' L')(f:recs k' L' z=bO (b,a,[])):oZ k L c (x++z) b a:=by
 obtain⟨y,rfl,e,d⟩:=h;exact⟨y++z,by simp,by simp[e],(Ns _ z (ze _) d).trans f⟩
def oZ.new{k k':Lk}{z:Zl}(b:z≠[])(c:recs k L z=bO (k',L',[])):oZ k L a (nE a (k.cnt+1)++z) k' L':=⟨z,rfl,b,c⟩
def oZ.m{k k':Lk}{x:Zl}(h:oZ k L a x k' L'):k'.m=k.m:=by
 obtain⟨y,rfl,c,b⟩:=h;exact Ef _ (ze _) b
def oZ.set{k q q':Lk}{x:Zl}(b:q.m=k.m)(h:oZ q L a x q' L'):oZ (k.set q) L a x (k.set q') L':=by
 obtain⟨y,rfl,d,c⟩:=h;refine⟨y,rfl,d,?_⟩;rw[cL _ (ze _) b,c];rfl
inductive jY:Nat->Lk->KV->List Zl->Lk->KV->Prop where
 |nil (n:Nat) (k:Lk) (L:KV):jY n k L [] k L
 |snoc {n:Nat} {k k' k'':Lk} {L L' L'':KV} {xs:List Zl} {x:Zl} (h:jY n k L xs k' L') (hx:oZ k' L' (n+xs.length) x k'' L''):jY n k L (xs++[x]) k'' L''
def jY.m{k k':Lk}(h:jY n k L xs k' L'):k'.m=k.m:=by
 induction h with
 |nil=>rfl
 |snoc h hx ih=>exact hx.m.trans ih
def jY.set{k q q':Lk}(h:jY n q L xs q' L')(a:q.m=k.m):jY n (k.set q) L xs (k.set q') L':=by
 induction h with
 |nil=>exact .nil ..
 |snoc h hx ih=>exact .snoc ih<|hx.set<|h.m.trans a
def jY.dJ{fs:Nat->Zl}{k k':Lk}(h:jY n k L xs k' L')(a:∀i (h:i<xs.length),fs (n+i)=xs[i]):dJ fs n k L xs.length=bO (k',L'):=by
 induction h with
 |nil=>rfl
 |snoc h hx ih=>
  rename_i xs x
  have b:=ih fun i c=>by
   rw[a i<|by simp;omega,XU c]
  rw[zj,jd,Rp b,a xs.length<|by simp];simpa using hx.eP
def jY.ne{k k':Lk}(h:jY n k L xs k' L'):∀x∈xs,x≠[]:=by
 induction h with
 |nil=>simp
 |snoc h hx ih=>
  intro x b;rcases Je.1 b with a|a
  exact ih x a;rw[jp.1 a];exact hx.ne
def jY.more{k k' b:Lk}{L L' a:KV}{x z:Zl}(h:jY n k L (xs++[x]) k' L')(c:recs k' L' z=bO (b,a,[])):jY n k L (xs++[x++z]) b a:=by
 generalize hys:xs++[x]=ys at h;cases h with
 |nil=>simp at hys
 |snoc h hx=>
  obtain⟨rfl,e⟩:=List.append_inj' hys rfl;cases e;exact .snoc h<|hx.more c
def jY.new{k k' b:Lk}{L L' a:KV}{z:Zl}(h:jY n k L xs k' L')(c:z≠[])(d:recs k' L' z=bO (b,a,[])):jY n k L (xs++[nE (n+xs.length) (k'.cnt+1)++z]) b a:= .snoc h (.new c d)
def Y0(k:Lk)(F:Ym):Lk:=if qu F 0=[]then k else k.begun (iL<|qu F 0) k.mp
structure wY(m:Zl)(F:Ym)(L0:KV)(xs:List Zl)(q:Lk)(L:KV):Prop where
 m32:m.length=32
 X_:qu F 0≠[]->qJ m (q.cnt:Int) (qu F 0)
 st0:(qu F 0=[]->L0=[])/\(qu F 0≠[]->Y6 (iL<|qu F 0) F (Xz m (iL<|qu F 0).ep)=bO L0)
 log:jY ((Y0 (Jp m [] 0 0 0) F).base.toNat+1) (Y0 (Jp m [] 0 0 0) F) L0 xs q L
 dY:∀i (h:i<xs.length),qu F (((Y0 (Jp m [] 0 0 0) F).base.toNat+1+i:Nat):Int)=xs[i]
 stop:qu F (((Y0 (Jp m [] 0 0 0) F).base.toNat+1+xs.length:Nat):Int)=[]
 low:(Y0 (Jp m [] 0 0 0) F).base.toNat+xs.length<=9999
 own:∀n,qu F n≠[]->n=0\/n=(Y0 (Jp m [] 0 0 0) F).dK\/((Y0 (Jp m [] 0 0 0) F).base<n/\n<=(Y0 (Jp m [] 0 0 0) F).base+xs.length)
def Us(k:Lk)(F:Ym)(hk:k.base=0):(Y0 k F).base=(Y0 (Jp k.m [] 0 0 0) F).base:=by
 unfold Y0;split;exact hk;rfl
def AR(m:Zl)(F:Ym):0<=(Y0 (Jp m [] 0 0 0) F).base:=by
 unfold Y0;split;exact Int.le_refl _;exact Int.natCast_nonneg _
def Ni:∀(n b:Nat),b+n<=9999->(∀i,i<n->qu F ((b+1+i:Nat):Int)≠[])->qu F ((b+1+n:Nat):Int)=[]->Jl F b=b+n
 |0,b,h,h1,h2=>ZJ fun a=>a.2 h2
 |n+1,b,h,h1,h2=>by
  rw[Rn (by omega)<|h1 0<|by omega,Ni n (b+1) (by omega) (fun i c=>by have:=h1 (i+1) (by omega);rwa[show b+1+1+i=b+1+(i+1) by omega])<|by rwa[show b+1+1+n=b+1+(n+1) by omega]];omega
def wY.start{m:Zl}{b L:KV}{q:Lk}(h:wY m F b xs q L)(mark:Zl)(op:Int)(mp:Nat):Wr (Jp m mark q.cnt op mp) F=bO (Y0 (Jp m mark q.cnt op mp) F,b):=by
 unfold Wr Y0;by_cases a:qu F 0=[];rw[aA a,aA a,h.st0.1 a];rw[aB a,aB a];rw[aA (show qJ (Jp m mark q.cnt op mp).m (Jp m mark q.cnt op mp).tc (qu F 0)from h.X_ a)];have:=h.st0.2 a;rw[show(Jp m mark q.cnt op mp).m=m from rfl,this];rfl
def PF{m mark:Zl}{p L:KV}{q:Lk}(h:wY m F p xs q L)(op:Int)(mp:Nat)(g:q.tag=mark):
  Yu (Jp m mark q.cnt op mp) F=bO ({Y0 (Jp m mark q.cnt op mp) F with last:=(Y0 (Jp m [] 0 0 0) F).base+xs.length}.set q,L):=by
 have n:=h.start mark op mp;have d:(Y0 (Jp m mark q.cnt op mp) F).base=(Y0 (Jp m [] 0 0 0) F).base:=Us (Jp m mark q.cnt op mp) F rfl;have r:=AR m F;have c:Jl F (Y0 (Jp m mark q.cnt op mp) F).base.toNat=(Y0 (Jp m [] 0 0 0) F).base.toNat+xs.length:=by
  rw[d];exact Ni _ _ h.low (fun i o=>by rw[h.dY i o];exact h.log.ne _<|Zn o) h.stop
 have j:∀l,({Y0 (Jp m mark q.cnt op mp) F with last:=l}:Lk)=({Y0 (Jp m mark q.cnt op mp) F with last:=l}:Lk).set (Y0 (Jp m [] 0 0 0) F):=fun l=>by
  unfold Y0;split<;>rfl
 have s:(Y0 (Jp m [] 0 0 0) F).m=m:=by unfold Y0;split<;>rfl
 have f:(Y0 (Jp m mark q.cnt op mp) F).m=m:=by unfold Y0;split<;>rfl
 have a:=(h.log.set (k:={Y0 (Jp m mark q.cnt op mp) F with last:=(((Y0 (Jp m [] 0 0 0) F).base.toNat+xs.length:Nat):Int)})<|s.trans f.symm).dJ (fs:=fun i=>qu F (i:Int)) h.dY;rw[<-j]at a;dsimp only at a;rw[d]at a;have b:sS<|({Y0 (Jp m mark q.cnt op mp) F with last:=(((Y0 (Jp m [] 0 0 0) F).base.toNat+xs.length:Nat):Int)}:Lk).set q:=by
  refine .inl ⟨?_,?_⟩;show(q.cnt:Int)=(Y0 (Jp m mark q.cnt op mp) F).tc;unfold Y0;split<;>rfl
  show q.tag=(Y0 (Jp m mark q.cnt op mp) F).mark;rw[g];unfold Y0;split<;>rfl
 dsimp only at b;rw[d]at b;unfold Yu;rw[n];simp only;rw[c,d,Nat.add_sub_cancel_left,a];simp only;have e:(((Y0 (Jp m [] 0 0 0) F).base.toNat+xs.length:Nat):Int)=(Y0 (Jp m [] 0 0 0) F).base+xs.length:=by omega
 rw[aA b,e]
structure fM(F:Ym):Prop where
 nd:(F.map (·.1)).Nodup
 ne:∀p∈F,p.2.1≠[]
def fM.nil:fM []:=⟨List.nodup_nil,by simp⟩
def zrd{v:Zl×Int}{x:Int}:x∈(fF F k v).map (·.1)↔x=k\/x∈F.map (·.1):=by
 induction F with
 |nil=>simp[fF]
 |cons p F ih=>
  obtain⟨a,b⟩:=p;unfold fF;by_cases h:k=a;subst h;rw[aA rfl];simp;rw[aB h];simp only[xq,xf,ih];constructor;rintro(e|e|e);exact .inr<|.inl e;exact .inl e;exact .inr<|.inr e;rintro(e|e|e);exact .inr<|.inl e;exact .inl e;exact .inr<|.inr e
def zrc{k x:Int}(h:x∈(V6 F k).map (·.1)):x∈F.map (·.1):=by
 obtain⟨p,a,rfl⟩:=qp.1 h;exact qp.2 ⟨p,EM a,rfl⟩
def xnj(h:(F.map (·.1)).Nodup)(k:Int)(v:Zl×Int):((fF F k v).map (·.1)).Nodup:=by
 induction F with
 |nil=>simp[fF]
 |cons p F ih=>
  obtain⟨c,d⟩:=p;rw[xq,Zr]at h;unfold fF;by_cases e:k=c;subst e;rw[aA rfl,xq,Zr];exact h;rw[aB e,xq,Zr];refine⟨fun b=>?_,ih h.2⟩;rcases zrd.1 b with a|a
  exact e a.symm;exact h.1 a
def xni(h:(F.map (·.1)).Nodup)(k:Int):((V6 F k).map (·.1)).Nodup:=by
 induction F with
 |nil=>simp[V6]
 |cons p F ih=>
  obtain⟨b,c⟩:=p;rw[xq,Zr]at h;unfold V6;by_cases e:k=b;rw[aA e];exact h.2;rw[aB e,xq,Zr];exact⟨fun a=>h.1<|zrc a,ih h.2⟩
def zww(h:k∉F.map (·.1)):J9 F k=bN:=by
 induction F with
 |nil=>rfl
 |cons p F ih=>
  obtain⟨a,b⟩:=p;simp only[xq,xf,not_or]at h;unfold J9;rw[aB h.1,ih h.2]
def DH(k:Int)(v:Zl×Int):J9 (fF F k v) k=bO v:=by
 induction F with
 |nil=>simp[fF,J9]
 |cons p F ih=>
  obtain⟨a,b⟩:=p;unfold fF;by_cases e:k=a;rw[aA e];simp[J9];rw[aB e];simp only[J9];rw[aB e,ih]
def Ri(h:(F.map (·.1)).Nodup)(k:Int):J9 (V6 F k) k=bN:=by
 induction F with
 |nil=>rfl
 |cons p F ih=>
  obtain⟨a,b⟩:=p;rw[xq,Zr]at h;unfold V6;by_cases e:k=a;rw[aA e];subst e;exact zww h.1;rw[aB e];simp only[J9];rw[aB e,ih h.2]
def uS(h:fM F)(n:Int)(f:Zl×Int)(k:Int):qu (Yx F n f) k=if k=n then f.1 else qu F k:=by
 by_cases e:k=n;subst e;rw[aA rfl];unfold Yx;by_cases a:f.1=[];rw[aA a];unfold qu;rw[Ri h.nd];exact a.symm;rw[aB a];unfold qu;rw[DH];rfl;rw[aB e];unfold qu;rw[zt8 e]
def KW(h:fM F)(n k:Int):qu (V6 F n) k=if k=n then []else qu F k:=by
 by_cases e:k=n;subst e;rw[aA rfl];unfold qu;rw[Ri h.nd];rfl;rw[aB e];unfold qu;rw[Me e]
def fM.del(h:fM F)(n:Int):fM<|V6 F n:=⟨xni h.nd n,fun p a=>h.ne p<|EM a⟩
def fM.lay(h:fM F)(n:Int)(f:Zl×Int):fM<|Yx F n f:=by
 unfold Yx;by_cases a:f.1=[];rw[aA a];exact h.del n;rw[aB a];refine⟨xnj h.nd n f,fun p b=>?_⟩;rcases Uy b with rfl|b
 exact a;exact h.ne p b
def fM.mem(h:fM F):k∈F.map (·.1)↔qu F k≠[]:=by
 constructor;intro d;have c:=zlt d;obtain⟨v,a⟩:=Option.isSome_iff_exists.1 c;have:=h.ne _<|v_ a;unfold qu;rw[a];exact this;intro b;cases a:J9 F k with
 |none=>exfalso;apply b;unfold qu;rw[a];rfl
 |some v=>exact qp.2 ⟨_,v_ a,rfl⟩
def fM.nums(h:fM F):k∈Xs F↔qu F k≠[]:=LZ.trans h.mem
def zz7(k:Int)(v:Zl×Int):J6 (fF F k v)+((qu F k).length:Int)=J6 F+(v.1.length:Int):=by
 induction F with
 |nil=>simp[fF,J6,qu,J9]
 |cons p F ih=>
  obtain⟨a,b⟩:=p;unfold fF;by_cases e:k=a;rw[aA e];simp only[J6,xq,Vq,qu,J9,aA e,jv];omega;rw[aB e];simp only[J6,xq,Vq,qu,J9,aB e]at ih⊢;omega
def ZH(k:Int):J6 (V6 F k)+((qu F k).length:Int)=J6 F:=by
 induction F with
 |nil=>simp[V6,J6,qu,J9]
 |cons p F ih=>
  obtain⟨a,b⟩:=p;unfold V6;by_cases e:k=a;rw[aA e];simp only[J6,xq,Vq,qu,J9,aA e,jv];omega;rw[aB e];simp only[J6,xq,Vq,qu,J9,aB e]at ih⊢;omega
def Oq(k:Int)(f:Zl×Int):J6 (Yx F k f)+((qu F k).length:Int)=J6 F+(f.1.length:Int):=by
 unfold Yx;by_cases a:f.1=[];rw[aA a,ZH,a];simp;rw[aB a,zz7]
section
variable {m:List UInt8} {F F':Ym} {L0 L L':KV} {xs:List<|List UInt8} {q q':Lk} {z first:List UInt8} {p:Nat}
abbrev jT(m:Zl)(F:Ym):Nat:=(Y0 (Jp m [] 0 0 0) F).base.toNat
def OK(k:Lk)(h:qu F' 0=qu F 0):Y0 k F'=Y0 k F:=by unfold Y0;rw[h]
def P9(m:Zl)(F:Ym):(Y0 (Jp m [] 0 0 0) F).dK=0\/∃n:Nat,(Y0 (Jp m [] 0 0 0) F).dK=(n:Int)/\qu F 0≠[]/\n=(iL<|qu F 0).file/\0<(iL<|qu F 0).len:=by
 unfold Y0;by_cases h:qu F 0=[];rw[aA h];exact .inl rfl;rw[aB h];unfold Lk.begun;simp only;by_cases a:0<(iL<|qu F 0).len;rw[aA a];exact .inr ⟨_,rfl,h,rfl,a⟩;rw[aB a];exact .inl rfl
def rL{a:Mf}{c:Zl}{b:KV}(h:Y6 a F c=bO b)(d:0<a.len):a.file=10001\/a.file=10002:=by
 unfold Y6 nN at h;rw[aA d]at h;split at h;split at h
 assumption
 cases h;cases h
def zyp{a:Mf}{e:Zl}(h:0<a.len->(a.file=10001\/a.file=10002)->qu F' a.file=qu F a.file):Y6 a F' e=Y6 a F e:=by
 unfold Y6 nN;by_cases b:0<a.len;rw[aA b,aA b];by_cases d:a.len<=16384;rw[aA d,aA d];by_cases c:a.file=10001\/a.file=10002;rw[aA c,aA c,h b c];rw[aB c,aB c];rw[aB d,aB d];rw[aB b,aB b]
def wY.uO(h:wY m F L0 xs q L)(g:n<=10000)(c:n≠0):((n:Nat):Int)≠(Y0 (Jp m [] 0 0 0) F).dK:=by
 rcases P9 m F with e|⟨f,e,a,d,b⟩;rw[e];omega;rw[e];have:=rL (h.st0.2 a) b;omega
def wY.write(h:wY m F L0 xs q L)(E:recs q L z=bO (q',L',[]))(C:z≠[])(M:q.cnt<=q'.cnt)
  (D:(first=[]/\xs≠[]/\p=jT m F+xs.length)\/(first=nE (jT m F+xs.length+1) (q.cnt+1)/\p=jT m F+xs.length+1))(b:jT m F+xs.length+1<=9999)
  (f:∀k:Int,qu F' k=if k=(p:Int)then qu F p++(first++z)else qu F k):
  Y0 (Jp m [] 0 0 0) F'=Y0 (Jp m [] 0 0 0) F/\∃xs',wY m F' L0 xs' q' L'/\jT m F+xs'.length=p/\xs'≠[]:=by
 have G:=AR m F;have H:1<=p/\p<=9999:=by
  rcases D with⟨_,w,e⟩|⟨_,e⟩;have:=qb.2 w;omega;omega
 have j:qu F' 0=qu F 0:=by rw[f,aB<|by omega]
 have hk:Y0 (Jp m [] 0 0 0) F'=Y0 (Jp m [] 0 0 0) F:=OK _ j;have v:(qu F' 0=[]->L0=[])/\(qu F' 0≠[]->Y6 (iL<|qu F' 0) F' (Xz m (iL<|qu F' 0).ep)=bO L0):=by
  rw[j];refine⟨h.st0.1,fun x=>?_⟩;rw[zyp (F:=F) fun _ K=>by rw[f,aB<|by omega]];exact h.st0.2 x
 have g:qu F' 0≠[]->qJ m (q'.cnt:Int) (qu F' 0):=by
  rw[j];intro x;have:=h.X_ x;exact⟨this.len,this.head,this.ep,this.tag,by have:=this.cnt;omega⟩
 refine⟨hk,?_⟩;rcases D with⟨rfl,w,e⟩|⟨rfl,e⟩
 obtain⟨s,y,rfl⟩:∃s y,xs=s++[y]:=⟨xs.dropLast,xs.getLast w,(List.dropLast_concat_getLast w).symm⟩;simp only[zj,jd]at e b;have J:qu F p=y:=by
  have:=h.dY s.length (by simp);rw[XT<|by omega]at this;simp only[V9,List.getElem_cons_zero]at this;rw[<-this,e]
  congr 1
  simp only[jT];omega
 refine⟨s++[y++z],⟨h.m32,g,v,?_,?_,?_,?_,?_⟩,by simp;omega,by simp⟩;rw[hk];exact h.log.more E;intro i B;simp only[zj,jd]at B;rw[hk,f];by_cases d:i<s.length;have:=h.dY i (by simp;omega);rw[XU d]at this⊢;rw[aB<|by simp only[jT]at e;omega];exact this;have:i=s.length:=by omega
 subst this;rw[aA<|by simp only[jT]at e;omega,XT<|by omega,J];simp;rw[hk,f,aB<|by simp only[jT]at e;simp only[zj,jd];omega];have:=h.stop;simpa using this;rw[hk];simp only[zj,jd];simp only[jT]at b;omega;intro n o;rw[hk];rw[f]at o;by_cases r:n=(p:Int);refine .inr<|.inr ?_;simp only[zj,jd];simp only[jT]at e;omega;rw[aB r]at o;simpa using h.own n o;have t:qu F p=[]:=by
  have:=h.stop;rw[<-this,e]
  congr 1
  simp only[jT];omega
 refine⟨xs++[nE (jT m F+1+xs.length) (q.cnt+1)++z],⟨h.m32,g,v,?_,?_,?_,?_,?_⟩,by simp;omega,by simp⟩;rw[hk];exact h.log.new C E;intro i B;simp only[zj,jd]at B;rw[hk,f];by_cases d:i<xs.length;have:=h.dY i d;rw[XU d];rw[aB<|by simp only[jT]at e;omega];exact this;have:i=xs.length:=by omega
 subst this;rw[aA<|by simp only[jT]at e;omega,XT<|by omega,t];simp only[V9,List.getElem_cons_zero,jk]
 congr 2
 omega;rw[hk,f];simp only[zj,jd];rw[aB<|by simp only[jT]at e;omega];cases I:qu F (((Y0 (Jp m [] 0 0 0) F).base.toNat+1+(xs.length+1):Nat):Int)with
 |nil=>rfl
 |cons a l=>
  exfalso;rcases h.own _ (by rw[I];simp)with c|c|c
  omega;exact h.uO (by simp only[jT]at b;omega) (by omega) c;simp only[jT]at b;omega
 rw[hk];simp only[zj,jd];simp only[jT]at b;omega;intro n o;rw[hk];rw[f]at o;simp only[zj,jd];by_cases r:n=(p:Int);refine .inr<|.inr ?_;simp only[jT]at e;omega;rw[aB r]at o;rcases h.own n o with c|c|c
 exact .inl c;exact .inr<|.inl c;exact .inr<|.inr ⟨c.1,by omega⟩
end
end
section
attribute [local go_sem] xe zv yN
def wM(s:Zl)(n:Nat):Zl:=(s++aM (n-s.length) 0).take n
def xoo(s:Zl)(n:Nat):(wM s n).length=n:=by simp[wM];omega
def Dr(s:Zl)(n:Nat)(t:n<=100)(i:Int)(l:i=(n:Int))(w:Zy):bE prog 17 #[zs s,zi i] w fun e w'=>e= .returned (zs<|wM s n)/\bC w.heap.size w w':=by
 subst l;go_enter func17.1,Tryz.ntmps17
 go_wp2
 go_loopw [0] (fun v wr=>∃k:Nat,(k=0\/s.length+k<=n)/\v=zs (s++aM k 0)/\bC w.heap.size w wr) (fun v _=>match v with| .string b=>n-b.size|_=>0)
 case atStart=>exact⟨0,Or.inl rfl,by simp,zr _ _⟩
 case round=>
  obtain⟨k,hk,rfl,g⟩:=hrel;have r:(s++aM k 0).length=s.length+k:=by simp
  have f:Hid<|s++aM (k+1) 0=(s++aM k 0)++[0]:=by
   show _=_;rw[Zq];congr 1;rw[<-List.replicate_succ']
  have d:Hid<|¬s.length+k<n->(s++aM k 0).take n=wM s n:=fun h=>by
   unfold wM;by_cases q:s.length<=n;have:k=n-s.length:=by omega
   rw[this];have m:k=0:=by omega
   have o:n-s.length=0:=by omega
   rw[m,o]
  by_cases c:s.length+k<n
  ·have x:((s.length:Nat):Int)+(k:Int)<(n:Int):=by omega
   generalize s++aM k 0=X at*;have p:((X.length:Nat):Int)<(n:Int):=by omega
   go_wp2
   go_roundw
   case rel=>exact⟨k+1,Or.inr<|by omega,by rw[f.o];rfl,g⟩
   case measure=>(show n-(st<|X++[0]).size<n-(st X).size;rw[xe,xe,zj];simp;omega)
  have a:=d.o c;have j:=zl a;clear a d f;generalize s++aM k 0=X at*;have p:¬((X.length:Nat):Int)<(n:Int):=by omega
  have y:(n:Int)<=((X.length:Nat):Int):=by omega
  have z:(0:Int)<=(n:Int):=by omega
  go_wp2
  go_ret
  exact⟨by rw[<-j.o];rfl,g⟩
def Sr.new(room nW lim:Int)(m:Zl)(D M:Nat):Sr:=⟨nW,lim,D,⟨room,M,[],bN⟩,m,0,oV,0,bN⟩
def xpw(a d b:Int)(m:Zl)(K:0<=a)(L:a<=100000)(O:1<=d)(Q:d<=100000)(R:0<=b)(T:b<=999)(U:m.length=32)(w:Zy):
  bE prog 35 #[zi a,zi d,zi b,zs m] w fun e w'=>∃B D M,e= .returned (.tuple #[zo B,zi 0])/\w.heap.size<=B/\w.heap.size<=D/\w.heap.size<=M/\bC w.heap.size w w'/\Jq w' B (Sr.new a d b m D M):=by
 have V:¬a<0:=by omega
 have W:¬100000<a:=by omega
 have X:¬d<1:=by omega
 have Y:¬100000<d:=by omega
 have Z:¬b<0:=by omega
 have i6:¬999<b:=by omega
 have I:(m.length:Int)=32:=by omega
 go_enter func35.1,Tryz.ntmps35
 go_wp2
 refine(xma a _).mono ?_;rintro e w1 ⟨rfl,n,k,l⟩;have q:=zl k;have v:=zl l;have p:=zl n;clear k l n
 go_wp2
 have C:Hid<|xx (w1.alloc<|.cells #[zi d,zi b,zo<|w.heap.size+1,.string ⟨#[]⟩,zi 0,.string ⟨#[]⟩,zi 0,.pointer bN] 94) w1.heap.size #[zi d,zi b,zo<|w.heap.size+1,.string ⟨#[]⟩,zi 0,.string ⟨#[]⟩,zi 0,.pointer bN] 94:=xx.new _ _ _;have y:=zl<|v.o.but (S:=fun _=>False) (xb.alloc<|.cells #[zi d,zi b,zo<|w.heap.size+1,.string ⟨#[]⟩,zi 0,.string ⟨#[]⟩,zi 0,.pointer bN] 94) fun _ _=>id;have r:=zl<|q.o.alloc (by have:=p.o;omega)<|.cells #[zi d,zi b,zo<|w.heap.size+1,.string ⟨#[]⟩,zi 0,.string ⟨#[]⟩,zi 0,.pointer bN] 94;generalize w1.alloc (.cells #[zi d,zi b,zo<|w.heap.size+1,.string ⟨#[]⟩,zi 0,.string ⟨#[]⟩,zi 0,.pointer bN] 94)=w2 at*;refine(aE _).mono ?_;rintro e o ⟨rfl,i⟩;have g:=zl<|C.o.below i;have z:=zl<|y.o.but (S:=fun _=>False) (xb.of_below i) fun _ _=>id;have t:=zl<|Yg r.o i;have x3:=g.o.cell 3 rfl;have x4:=g.o.cell 4 rfl;have x5:=g.o.cell 5 rfl;have x6:=g.o.cell 6 rfl;have y3:=g.o.bT 3;have y4:=g.o.bT 4;have y5:=g.o.bT 5;have y6:=g.o.bT 6;have f:w.heap.size<=w1.heap.size:=by have:=p.o;omega
 have E:=(((g.o.set 3<|zs m).set 4<|zi 0).set 5<|zs oV).set 6<|zi 0;have j:w1.heap.size≠w.heap.size+1/\w1.heap.size≠w.heap.size:=by have:=p.o;omega
 have F:Hid<|∃B D M,Ending.returned (.tuple #[zo w1.heap.size,zi 0])= .returned (.tuple #[zo B,zi 0])/\w.heap.size<=B/\w.heap.size<=D/\w.heap.size<=M/\bC w.heap.size w ((((o.setCell (zq w1.heap.size 3)<|zs m).setCell (zq w1.heap.size 4)<|zi 0).setCell (zq w1.heap.size 5)<|zs oV).setCell (zq w1.heap.size 6)<|zi 0)/\Jq ((((o.setCell (zq w1.heap.size 3)<|zs m).setCell (zq w1.heap.size 4)<|zi 0).setCell (zq w1.heap.size 5)<|zs oV).setCell (zq w1.heap.size 6)<|zi 0) B (Sr.new a d b m D M):=by
  refine⟨w1.heap.size,w.heap.size+1,w.heap.size,rfl,f,by omega,ze _,?_,E,?_,fun s e=>by cases e⟩;exact(((t.o.setCell f _).setCell f _).setCell f _).setCell f _;have G:xb (·=w1.heap.size) o<|(((o.setCell (zq w1.heap.size 3)<|zs m).setCell (zq w1.heap.size 4)<|zi 0).setCell (zq w1.heap.size 5)<|zs oV).setCell (zq w1.heap.size 6)<|zi 0:=(((xb.set o (zq w1.heap.size 3) _).trans<|xb.set _ (zq w1.heap.size 4) _).trans<|xb.set _ (zq w1.heap.size 5) _).trans<|xb.set _ (zq w1.heap.size 6) _;refine z.o.but G fun x J e=>?_;have e:=e;rcases J with h|h|⟨c,H,_⟩
  exact j.1<|e.symm.trans h;exact j.2<|e.symm.trans h;cases H
 clear E j f i C y r g z t v q p
 go_wp2
 go_ret2
 exact F.o
end
section
attribute [local go_sem] xe zv
end
section
variable {L:KV}
def iF(L L':KV):Prop:=Nd L/\Nd L'/\∀x,Zh L x=Zh L' x
def iF.rfl'(h:Nd L):iF L L:=⟨h,h,fun _=>rfl⟩
def iF.symm{L L':KV}(h:iF L L'):iF L' L:=⟨h.2.1,h.1,fun x=>(h.2.2 x).symm⟩
def iF.trans{L L' a:KV}(h:iF L L')(k:iF L' a):iF L a:=⟨h.1,k.2.1,fun x=>(h.2.2 x).trans<|k.2.2 x⟩
def iF.app1{L L':KV}(h:iF L L')(c:dM):iF (app1 L c)<|app1 L' c:=⟨h.1.app1 c,h.2.1.app1 c,fun x=>by rw[QL h.1,QL h.2.1,h.2.2]⟩
def iF.app:∀(D:List dM) {L L':KV},iF L L'->iF (cO L D) (cO L' D)
 |[],_,_,h=>h
 |c::D,_,_,h=>iF.app D<|h.app1 c
def sD(l:KV):Prop:=l.Pairwise fun p q=>p.1<q.1
def fD(L:KV):KV:=(Vp L).map fun k=>(k,(Zh L k).getD [])
def YF{a b:Zl}(h:¬b<=a):a<b:=by
 rcases List.le_total a b with c|c;exact jr fun d=>h<|List.not_lt.1 d;exact absurd c h
def Nj{a b:Zl}(h:a<=b)(c:a≠b):a<b:=YF fun d=>c<|List.le_antisymm h d
def zxn{a b c:Zl}(h:a<b)(k:b<=c):a<c:=YF fun d=>by
 have:b<=a:=List.le_trans k d;have e:=List.le_antisymm this<|List.le_of_lt h;subst e;exact W9 _ h
def QJ(L:KV):(Vp L).Perm (L.map (·.1)):=Xw _ _
def cV(h:Nd L):(Vp L).Pairwise (·<·):=by
 have g:∀a b c:Zl,lT a b=bL->lT b c=bL->lT a c=bL:=fun a b c d e=>by simp only[lT,X9]at*;exact List.le_trans d e
 have f:∀a b:Zl,(lT a b||lT b a)=bL:=fun a b=>by simp only[lT,Yk,X9];exact List.le_total a b
 have d:(Vp L).Pairwise fun a b=>lT a b=bL:=PR g f _;have e:(Vp L).Pairwise fun a b=>a≠b:=(QJ L).nodup_iff.2 h;exact(d.and e).imp fun⟨a,b⟩=>Nj (by simpa[lT]using a) b
def KN(L:KV):(fD L).map (·.1)=Vp L:=by unfold fD;rw[uP];simp[PS]
def BF(h:Nd L):sD<|fD L:=by
 unfold sD fD;rw[List.pairwise_map];exact cV h
def Td(f:Zl->Zl)(x:Zl):∀ks:List Zl,Zh (ks.map fun k=>(k,f k)) x=if x∈ks then bO (f x)else bN
 |[]=>by simp[Zh]
 |k::ks=>by
  simp only[xq,Zh,xf];by_cases h:x=k;subst h;simp;rw[aB h,Td f x ks];simp[h]
def YI{x:Zl}(h:x∈L.map (·.1)):∃v,Zh L x=bO v:=by
 induction L with
 |nil=>cases h
 |cons p L ih=>
  obtain⟨k,v⟩:=p;unfold Zh;by_cases e:x=k;exact⟨v,aA e⟩;rw[aB e];exact ih<|by simpa[e]using h
def yH(L:KV)(x:Zl):Zh (fD L) x=Zh L x:=by
 unfold fD;rw[Td];by_cases h:x∈Vp L;rw[aA h];obtain⟨v,b⟩:=YI<|JH.1 h;rw[b];rfl;rw[aB h,QC fun a=>h<|JH.2 a]
def sD.nd{l:KV}(h:sD l):Nd l:=by
 unfold Nd;unfold sD at h;rw[List.nodup_iff_pairwise_ne,List.pairwise_map];exact h.imp fun a e=>by rw[e]at a;exact W9 _ a
def cX(h:Nd L):iF (fD L) L:=⟨(BF h).nd,h,yH L⟩
def sD.absent{p:Zl×Zl}{l:KV}(h:sD (p::l)){x:Zl}(hx:x<=p.1):Zh l x=bN:=by
 refine QC fun b=>?_;obtain⟨q,c,rfl⟩:=qp.1 b;have a:p.1<q.1:=(Yd.1 h).1 q c;exact W9 _<|zxn a hx
def RQ:∀{l l':KV},sD l->sD l'->(∀x,Zh l x=Zh l' x)->l=l'
 |[],[],_,_,_=>rfl
 |[],p::l',_,_,h=>by have:=h p.1;simp[Zh]at this
 |p::l,[],_,_,h=>by have:=h p.1;simp[Zh]at this
 |p::l,p'::l',h1,h2,h=>by
  have hk:p.1=p'.1:=by
   rcases List.le_total p.1 p'.1 with e|e;refine jr fun b=>?_;have a:=h p.1;simp only[Zh,if_true]at a;rw[aB b,h2.absent e]at a;cases a;refine jr fun b=>?_;have a:=h p'.1;simp only[Zh,if_true]at a;rw[aB fun e=>b e.symm,h1.absent e]at a;cases a
  have d:p.2=p'.2:=by
   have a:=h p.1;simp only[Zh,if_true]at a;rw[aA hk]at a;exact jf a
  have c:p=p':=Prod.ext hk d;subst c
  congr 1
  refine RQ (Yd.1 h1).2 (Yd.1 h2).2 fun x=>?_;by_cases e:x=p.1;subst e;rw[h1.absent<|List.le_refl _,h2.absent<|List.le_refl _];have a:=h x;simp only[Zh]at a;rwa[aB e,aB e]at a
def VK{L L':KV}(h:iF L L'):fD L=fD L':=RQ (BF h.1) (BF h.2.1) fun x=>by rw[yH,yH,h.2.2]
def Ti{k v:Zl}:∀{L:KV},k∉L.map (·.1)->dA L k v=L++[(k,v)]
 |[],_=>rfl
 |p::L,h=>by
  obtain⟨a,b⟩:=p;simp only[xq,xf,not_or]at h;unfold dA;rw[aB h.1,Ti h.2];rfl
def xrr{k:Zl}(h:k≠[]):[]<k:=by
 cases k with
 |nil=>exact absurd rfl h
 |cons a l=>exact List.nil_lt_cons a l
def Hc(k v:Zl)(r:Zl):lX k v++r≠[]:=by simp[lX,nb]
def Qx(g:Zl->Zl):∀(ks:List Zl) (ab:Zl) (acc:KV),(∀k∈ks,k≠[]/\k.length<=16/\(g k).length<=32)->ks.Pairwise (·<·)->(∀k∈ks,ab<k)->(∀k∈ks,k∉acc.map (·.1))->
  xM (ks.flatMap fun k=>lX k<|g k) ab acc=bO (acc++ks.map fun k=>(k,g k))
 |[],ab,acc,_,_,_,_=>by simp[cY]
 |k::ks,ab,acc,hok,hp,hab,hacc=>by
  obtain⟨d,e,f⟩:=hok k (by simp);have c:=Yd.1 hp;rw[PT,Qy<|Hc _ _ _,Nn d e f];simp only;rw[aA<|hab k<|by simp,Ti<|hacc k<|by simp,Qx g ks k (acc++[(k,g k)]) (fun x b=>hok x<|by simp[b]) c.2 c.1 fun x b a=>?_];simp;rw[Jd,Je]at a;rcases a with a|a
  exact hacc x (by simp[b]) a;have:x=k:=by simpa using a
  subst this;exact W9 _<|c.1 x b
def L9(h:jM L)(f:Nd L){k:Zl}(hk:k∈Vp L):k≠[]/\k.length<=16/\((Zh L k).getD []).length<=32:=by
 have c:=JH.1 hk;obtain⟨v,a⟩:=YI c;rw[a];have:∀{L:KV} {x v:Zl},Zh L x=bO v->(x,v)∈L:=by
  intro L;induction L with
  |nil=>intro x v h;cases h
  |cons p L ih=>
   intro x v h;obtain⟨d,g⟩:=p;unfold Zh at h;by_cases e:x=d;rw[aA e]at h;cases h;subst e;simp;rw[aB e]at h;exact xj _<|ih h
 have b:=h _<|this a;exact b
def zrl(a:Nd L)(ho:jM L):rH (Vf L)=bO (fD L):=by
 have h:=Qx (fun k=>(Zh L k).getD []) _ [] [] (fun k hk=>L9 ho a hk) (cV a) (fun k hk=>xrr (L9 ho a hk).1) (by simp);rw[jk]at h;exact h
def NP:List Nat->Prop
 |[]=>True
 |[n]=>0<n/\n<=64
 |n::m::ns=>n=64/\NP (m::ns)
def Br:∀(ps:List Zl),NP (ps.map List.length)->Yq ps.flatten=ps
 |[],_=>rfl
 |[p],h=>by
  have h:0<p.length/\p.length<=64:=h;have a:p≠[]:=qb.1 h.1;simp only[Wu,List.flatten_nil,Xq];rw[DY a,qj h.2,XV h.2];rfl
 |p::q::ps,h=>by
  have h:p.length=64/\NP ((q::ps).map List.length):=h;have a:p++(q::ps).flatten≠[]:=by
   intro e;have:=congrArg List.length e;simp only[zj,jn]at this;omega
  rw[Wu,DY a,Zd h.1,Z6 h.1,Br (q::ps) h.2]
def Oj:∀(n:Nat) (x:Zl),x.length<=n->NP ((Yq x).map List.length)
 |n,x,hn=>by
  by_cases b:x=[];subst b;rw[RD];trivial;have c:=qb.2 b;rw[DY b];by_cases hd:x.drop 64=[];rw[hd,RD];have a:=congrArg List.length hd;rw[jb,jn]at a;show 0<(x.take 64).length/\(x.take 64).length<=64;rw[xt];omega;have a:=qb.2 hd;rw[jb]at a
  match n,hn with
  |0,hn=>omega
  |n+1,hn=>
   have d:=Oj n (x.drop 64) (by rw[jb];omega);rw[DY hd]at d⊢;refine⟨?_,d⟩;rw[xt];omega
def Ps(m:Mf)(a:Zl)(xs:List Zl):(J8 m a xs).map List.length=xs.map List.length:=by
 apply Jt;intro i;simp only[J8,List.getElem?_map,List.getElem?_mapIdx,Option.map_map]
 congr 1
 funext x;exact yJ _ _ _
def LI(m:Mf)(a x:Zl):Yq (J8 m a<|Yq x).flatten=J8 m a (Yq x):=Br _<|by rw[Ps];exact Oj _ x<|ze _
def zE{m m':Mf}(a:Zl)(b:∀i,m'.fH i=m.fH i)(xs:List Zl):J8 m' a (J8 m a xs)=xs:=by
 apply Jt;intro i;simp only[J8,List.getElem?_mapIdx,Option.map_map];cases h:xs[i]?with
 |none=>rfl
 |some x=>
  simp only[js,Function.comp_apply,b];rw[Ra]
def DO:∀{xs ys:List Zl},xs.map List.length=ys.map List.length->xs.flatten.length=ys.flatten.length:=by
 intro xs ys h;rw[List.length_flatten,List.length_flatten,h]
def Lq(m:Mf)(a x:Zl):(J8 m a<|Yq x).flatten.length=x.length:=by
 rw[DO<|Ps m a<|Yq x,(DU x).2.2]
structure Mf.ok(m:Mf):Prop where
 ep:m.ep<=5
 op:m.op<65536
 cnt:m.cnt<4294967296
 bP:m.bP<65536
 base:m.base<4294967296
 file:m.file<65536
 len:m.len<4294967296
 root:m.root.length=32
 last:m.last.length=32
section
variable {m:Mf} (h:m.ok) (tk:List UInt8)
def Y_:oW (m.bS tk)=nb m.ep 1++(nb m.op 2++(nb m.cnt 4++(nb m.bP 2++(nb m.base 4++(nb m.file 2++(nb m.len 4++(m.root++(m.last++V1 tk m.text)))))))):=by
 simp[oW,Mf.bS,Mf.text]
def Z_:sM (m.bS tk)=nb m.op 2++(nb m.cnt 4++(nb m.bP 2++(nb m.base 4++(nb m.file 2++(nb m.len 4++(m.root++(m.last++V1 tk m.text))))))):=by
 rw[sM,Y_];exact Z6<|qt _ _
def Aa:rP (m.bS tk)=nb m.cnt 4++(nb m.bP 2++(nb m.base 4++(nb m.file 2++(nb m.len 4++(m.root++(m.last++V1 tk m.text)))))):=by
 rw[rP,Z_];exact Z6<|qt _ _
def Ab:sN (m.bS tk)=nb m.bP 2++(nb m.base 4++(nb m.file 2++(nb m.len 4++(m.root++(m.last++V1 tk m.text))))):=by
 rw[sN,Aa];exact Z6<|qt _ _
def Ad:rQ (m.bS tk)=nb m.base 4++(nb m.file 2++(nb m.len 4++(m.root++(m.last++V1 tk m.text)))):=by
 rw[rQ,Ab];exact Z6<|qt _ _
def Ae:sO (m.bS tk)=nb m.file 2++(nb m.len 4++(m.root++(m.last++V1 tk m.text))):=by
 rw[sO,Ad];exact Z6<|qt _ _
def Ag:rM (m.bS tk)=nb m.len 4++(m.root++(m.last++V1 tk m.text)):=by
 rw[rM,Ae];exact Z6<|qt _ _
def Ah:sP (m.bS tk)=m.root++(m.last++V1 tk m.text):=by
 rw[sP,Ag];exact Z6<|qt _ _
def Ai:rO (m.bS tk)=m.last++V1 tk m.text:=by
 rw[rO,Ah];exact Z6 h.root
def gR:vJ (m.bS tk)=V1 tk m.text:=by
 rw[vJ,Ai h];exact Z6 h.last
def Nk:iL (m.bS tk)=m:=by
 have a:(oW<|m.bS tk).take 1=nb m.ep 1:=by rw[Y_];exact Zd<|qt _ _
 have b:(sM<|m.bS tk).take 2=nb m.op 2:=by rw[Z_];exact Zd<|qt _ _
 have c:(rP<|m.bS tk).take 4=nb m.cnt 4:=by rw[Aa];exact Zd<|qt _ _
 have d:(sN<|m.bS tk).take 2=nb m.bP 2:=by rw[Ab];exact Zd<|qt _ _
 have e:(rQ<|m.bS tk).take 4=nb m.base 4:=by rw[Ad];exact Zd<|qt _ _
 have f:(sO<|m.bS tk).take 2=nb m.file 2:=by rw[Ae];exact Zd<|qt _ _
 have g:(rM<|m.bS tk).take 4=nb m.len 4:=by rw[Ag];exact Zd<|qt _ _
 have e8:(sP<|m.bS tk).take 32=m.root:=by rw[Ah];exact Zd h.root
 have i:(rO<|m.bS tk).take 32=m.last:=by rw[Ai h];exact Zd h.last
 obtain⟨j,k,l,n,o,p,q,r,s⟩:=h;unfold iL;rw[a,b,c,d,e,f,g,e8,i,wQ<|by omega,wQ<|by omega,wQ<|by omega,wQ<|by omega,wQ<|by omega,wQ<|by omega,wQ<|by omega]
def Lz:m.text.length=84:=by simp[Mf.text,qt,h.root,h.last]
def zxs{a:Zl}{tc:Int}(b:(m.cnt:Int)<=tc):qJ a tc<|m.bS<|Jm a m.ep:=by
 have e:=Nk h<|Jm a m.ep;refine⟨YR m _ h.root h.last,?_,by rw[e];exact h.ep,?_,by rw[e];exact b⟩;simp[Mf.bS,Mf.text];rw[gR h,e]
 congr 1
 exact(Zd<|Lz h).symm
end
end
section
attribute [local go_sem] xe zv
def sJ(L:Ym)(l:List Int):Ze:=l.flatMap fun n=>[.int .i64 n,.string<|st<|qu L n]
def under52:prog.underlying 33=bO (.slice 36):=(cK 33).trans Tryz.underlying33
def info110:∃i,prog.info? 36=bO i/\i.zero=bO (.agg #[zi 0,.string ⟨#[]⟩])/\i.size=2/\i.bytes=24:=by
 have h:(prog.info? 36).map (fun i=>(i.zero,i.size,i.bytes))=bO (bO<|.agg #[zi 0,.string ⟨#[]⟩],2,24):=by kernel_rfl
 cases hq:prog.info? 36 with
 |none=>rw[hq]at h;simp at h
 |some i=>
  rw[hq]at h;simp only[js,zp,qg]at h;exact⟨i,rfl,h.1,h.2.1,h.2.2⟩
def tL(D:Nat)(d:Dk)(w:Zy)(h:Xg w D d)(hk:mE d.L):
  bE prog 37 #[zo D] w fun e w'=>∃v,e= .returned v/\w'.ownsRow w.heap.size 36 2 v (Xs d.L).length (sJ d.L<|Xs d.L)/\Nw w w':=by
 obtain⟨J,hi,G,H,I⟩:=info110;have M:=zl h;have O:=zl hk;clear h hk;go_enter func37.1,Tryz.ntmps37
 go_wp2
 refine(QK D d w M.o O.o).mono ?_;rintro e w1 ⟨p,g,ba,rfl,S,hg,o,y⟩;have X:=zl S;have Y:=zl o;have B:Hid<|Nw w w1:=xb.of_below y;have V:Hid<|(Xs d.L).length<=1000000:=by show _<=_;rw[yZ];exact O.o.cnt
 clear S o y hg
 go_wp2
 go_loopw [3,9] (fun v i wr=>∃k:Nat,k<=(Xs d.L).length/\i=zi k/\wr.ownsRow w1.heap.size 36 2 v k (sJ d.L<|(Xs d.L).take k)/\Nw w1 wr) (fun _ i _=>((Xs d.L).length-aJ i).toNat)
 case atStart=>exact⟨0,by omega,rfl,Vl _ _ _ _,xb.refl _ _⟩
 case round=>
  obtain⟨k,hk,rfl,a,b⟩:=hrel;have W:=V.o;obtain⟨Q,l,rfl,E⟩:=Jh a;by_cases f:k<(Xs d.L).length
  ·have i1:(k:Int)<((Xs d.L).length:Nat):=by omega
   have i0:(0:Int)<=(k:Int):=by omega
   have F:=X.o (fun e=>by rw[e]at f;simp at f);subst F;have hc:=(Y.o.but b id) k f;have U:Hid<|sJ d.L ((Xs d.L).take<|k+1)=sJ d.L ((Xs d.L).take k)++[zi (Xs d.L)[k],zs<|qu d.L (Xs d.L)[k]]:=by show _=_;rw[xy f];unfold sJ;rw[List.flatMap_append];rfl
   have C:=zl a;have r:=zl b;generalize sJ d.L ((Xs d.L).take k)=cs at*;generalize(Xs d.L)[k]=n at*;clear a b
   go_wp2
   refine(AV D d n _<|M.o.but (B.o.trans r.o) fun _ _=>id).mono ?_;rintro e T ⟨rfl,rfl⟩;have bc:=(B.o.trans r.o).size;have bb:=r.o.size
   go_wp2_with (refine wpList_append_lies _ rfl _ _ 33 rfl w1.heap.size 36 J _ 2 24 under52 hi G H I rfl (by decide) (.slice Q k l) k cs rfl ?own _ 1 1 [zi n,zs<|qu d.L n] rfl rfl ?nw ?o1 (by decide) ?m1 ?m2 ?m3 (T.heap.size+1) ?m4 ?_)
   case own=>exact C.o.alloc _
   case m1=>unfold maxLen;omega
   case m2=>omega
   case m3=>simp;omega
   try case m4=>simp
   case o1=>first|exact⟨rfl,rfl⟩|(intro z q;simp at q;rcases q with rfl|rfl<;>rfl)
   try case nw=>
    intro j z q;cases j with
    |zero=>simp at q;subst q;simp[go_sem,Addr.add]
    |succ j=>cases j with
     |zero=>simp at q;subst q;simp[go_sem,Addr.add]
     |succ j=>simp at q
   intro g3 t K c m x R;have s:bC w1.heap.size (T.alloc<|.cells #[zi n,zs<|qu d.L n] 36) K:=(zr _ _).grown m (by simp;omega)<|Vs C.o;have Z:Hid<|Nw w1 K:=(r.o.trans<|xb.alloc _).dH s;have O3:Hid<|K.ownsRow w1.heap.size 36 2 (.slice (bO ⟨g3,0,bN⟩) (k+1) t) (k+1)<|sJ d.L<|(Xs d.L).take<|k+1:=by
    show World.ownsRow _ _ _ _ _ _ _;rw[U.o];simpa using c
   clear c m x s
   go_wp2
   go_roundw
   case rel=>exact⟨k+1,by omega,by go_num,O3.o,Z.o⟩
   case measure=>simp[aJ];omega
  obtain rfl:k=(Xs d.L).length:=by omega
  have i1:¬((Xs d.L).length:Int)<((Xs d.L).length:Nat):=by omega
  rw[Yw]at a;have C:Hid<|wr.ownsRow w.heap.size 36 2 (.slice Q (Xs d.L).length l) (Xs d.L).length<|sJ d.L<|Xs d.L:=EG a B.o.size;have r:=zl b;clear a b
  go_wp2
  go_ret
  exact⟨_,rfl,C.o,B.o.trans r.o⟩
end
end P
end Go.Proofs.YtjnbhiamaabbgabGreatDoor
