import Derived.Test.YtjnbhiamaabbgaaGreatDoorM5
import Derived.Shelf.SlMaps.Clone
import Derived.RangeFuncNested
import Derived.Shelf.Strings.Repeat
import Derived.Shelf.Strings.OnBuilder
import Derived.Shelf.Strings.BuilderK
set_option linter.all false
set_option maxRecDepth 100000
set_option maxHeartbeats 8000000
namespace Go.Proofs.YtjnbhiamaabbgaaGreatDoor
open Bool renaming false->bK,true->bL
open Go renaming Calls->bE,results->aN,undef->bJ
open Go.Instr renaming findKey->aT
open Go.Result renaming andThen->aY
open Go.RowKit renaming Below->bC,intOf->aJ
open Option renaming none->bN,some->bO
namespace P
open A.Tryq Go.RowKit Go.Maps Go.Sort Go.Shelf Go.MapKept
attribute [local go_sem] xe zv
def Xd.owns{w:Zy}{m:Nat}{L:KV}(h:Xd w m L)(hk:∀p∈L,p.1.length<=maxLen)(G:L.length<=maxLen):
  ∃D:DataW Nat,w.ownsMap prog 9 xZ m L.length D/\Maps.size D=L.length/\(strKeys D).Perm (L.map (·.1)):=by
 obtain⟨c,b,z,j,B⟩:=h;have f:c.size=L.length:=by
  have:=congrArg List.length j;simpa using this
 have i:∀x∈c.toList,∃p∈L,x.key=zs p.1/\WideElems.rd prog 9 xZ x=bO (.string p.1,.nil):=fun x n=>by
  obtain⟨p,o,g,_⟩:=p9 j x n;refine⟨p,o,g, ?_⟩;have C:=hk p o;have k:(ByteArray.mk p.1.toArray).size<=maxLen:=by simpa[ByteArray.size]using C
  simp[WideElems.rd,g,keyOf,mapKey,underlying9,k,xZ,st]
 refine⟨_,⟨c,b,z,⟨by omega,B,fun x n=>by obtain⟨p,_,_,e⟩:=i x n;exact⟨_,e⟩⟩,by omega,rfl⟩, ?_, ?_⟩;simp only[Maps.size_eq];rw[(IW _).length_eq];simpa using f;simp only[strKeys];refine((IW _).map _).trans ?_;rw[uP];have:∀(l:List MapEntry) (L:KV),lJ l L->(∀x∈l,x∈c.toList)->l.map ((fun p=>Go.strOf p.1)∘WideElems.rg prog 9 xZ)=L.map (·.1):=by
  intro l;induction l with
  |nil=>intro L d _;cases L with
   |nil=>rfl
   |cons p L=>exact(Rh d).elim
  |cons x l ih=>
   intro L d a;cases L with
   |nil=>unfold lJ at d;simp at d
   |cons p L=>
    obtain⟨r,F,s⟩:=h_ d;obtain⟨q,_,t,v⟩:=i x (a x<|by simp);have:=Eu<|Value.string.inj<|r.symm.trans t;rw[xq,xq];refine congr (congrArg _ ?_) ?_;rw[Function.comp_apply,WideElems.rg_of v];exact this.symm;exact ih L s fun y E=>a y<|by simp[E]
 rw[this c.toList L j fun _ h=>h]
def wK(m:Nat):AnyZ.SortsIn prog fT Fence.wide m:=
 ⟨fun blk d a f W e b c=>callsIn_wide.2<|AnyM.slices_Sort_string lF blk d a f W e b c,
 fun p a W=>callsIn_wide.2<|AnyM.slices_Sort_string_none lF p a W⟩
abbrev lT:Zl->Zl->Bool:=fun x y=>decide (x<=y)
def Vp(L:KV):List Zl:=(L.map (·.1)).mergeSort lT
def Oz(m:Nat)(w:Zy):bE prog 46 #[.map<|bO m] w fun e w'=>e= .returned (.func (.func 74) #[] #[zo w.heap.size])/\w'=w.alloc (.cells #[.map<|bO m] 91):=
 (callsIn_wide (n:=5)).1 (AnyZ.keys_in kX Fence.wide 5 trivial rfl (bO m) w)
def Mr(m b:Nat)(L:KV)(w:Zy)(h:Xd w m L)(F:w.cell? (zq b 0)=bO (.map<|bO m))(z:b<w.heap.size)(hk:∀p∈L,p.1.length<=1000000)(I:L.length<=1000000):
  bE prog 45 #[.func (.func 74) #[] #[zo b]] w fun e w'=>∃v,e= .returned v/\w'.ownsRow w.heap.size 9 1 v (Vp L).length ((Vp L).map encStr)/\bC w.heap.size w w':=by
 obtain⟨j,l,q,g⟩:=h.owns (fun p H=>xz (hk p H)<|by simp only[maxLen];omega) (by simp only[maxLen];omega);have k:Maps.size j<=maxLen:=by rw[q];simp only[maxLen];omega
 have d:Maps.size j*16<=140737488355328:=by rw[q];omega
 have n:SeqGives Fence.wide 2 prog 74 #[zo b] encStr (fun i=>i.Perm<|strKeys j) (Maps.size j) w:=
  AnyZ.keys_gives {kX with} _ _ trivial rfl (by omega) b m _ j _ z F l
 have B:=AnyZ.sorted_in nD _ 5 trivial trivial trivial trivial rfl (by omega) (wK _) (enters_of func73.1 (by kernel_rfl) rfl) 74 _ trivial (enters_of func74.1 (by kernel_rfl) rfl) _ _ k d _ n;change CallsIn _ _ prog 45 _ _ _ at B;refine((callsIn_wide).1 B).mono ?_;rintro e w' ⟨v,i,rfl,E,f,C,z⟩;have D:∀a b c:Zl,lT a b=bL->lT b c=bL->lT a c=bL:=fun a b c s t=>by simp only[lT,X9]at*;exact List.le_trans s t
 have r:∀a b:Zl,(lT a b||lT b a)=bL:=fun a b=>by simp only[lT,Yk,X9];exact List.le_total a b
 have o:i.mergeSort (fun x y=>decide (x<=y))=Vp L:=by
  refine List.Perm.eq_of_pairwise (le:=fun a b=>lT a b=bL) (fun a b _ _ s t=>?_) (PR D r i) (PR D r _)<|((Xw i _).trans<|E.trans g).trans (Xw _ _).symm;simp only[lT,X9]at s t;exact List.le_antisymm s t
 have G:i.length=(Vp L).length:=by rw[<-o];exact(Xw i _).length_eq.symm
 rw[o,G]at f;exact⟨v,rfl,f,z⟩
def xw6(m:Nat)(w:Zy):(binOp .eql 91 (.map<|bO m)<|.map bN).run prog w= .ok (.bool bK) w:=run_eql_map_nil_sl w 91 9 94 (bO m) yO
def k9(m:Nat)(L:KV)(w:Zy)(h:Xd w m L):bE prog 43 #[.map<|bO m] w fun e w'=>e= .returned (.map<|bO w.heap.size)/\bC w.heap.size w w'/\w'.heap.size=w.heap.size+1/\Xd w' w.heap.size L:=by
 obtain⟨c,a,g,f,b⟩:=h;have i:=xw6 m;have d:Hid<|Xd (w.alloc<|.map c a) w.heap.size L:=⟨c,a,jw _ _,f,b⟩;go_enter func43.1,Tryz.ntmps43
 go_wp2
 rw[run_callFunc_extern func71 (by kernel_rfl) (by kernel_rfl) (by kernel_rfl) (e:=Extern.MapsClone.clone)<|by kernel_rfl,run_maps_clone_sl w 91 g];simp only[aY];rw[Oper.upon_value]
 go_wp2
 rw[run_typeAssert_map_sl _ 91 20 _ _ _ yO];simp only[aY];rw[Oper.upon_value]
 go_wp2
 go_ret
 exact⟨rfl,(zr _ _).alloc (ze _) _,by simp,d.o⟩
end P
namespace P
open A.Tryq Go.RowKit
attribute [local go_sem] xe zv
def FG(m:Nat)(w:Zy):bE prog 44 #[.map<|bO m,.slice bN 0 0] w fun e w'=>e= .returned (.tuple #[])/\w'=w:=by
 go_enter func44.1,Tryz.ntmps44
 go_wp2_with fail
 go_loopw [10] (fun i wr=>i=zi 0/\wr=w) (fun i _=>0)
 case atStart=>exact⟨rfl,rfl⟩
 case round=>
  obtain⟨rfl,rfl⟩:=hrel
  go_wp2
  go_end0
  exact⟨rfl,rfl⟩
def ZQ{w:Zy}{v:Zv}{D:List dM}(h:w.ownsRow 0 126 1 v D.length<|D.map iC):(v= .slice bN 0 0/\D=[])\/∃g cap,v= .slice (bO ⟨g,0,bN⟩) D.length cap/\uU w g D/\g<w.heap.size:=by
 rcases h.2 with⟨b,e⟩|⟨g,cap,a,j,l,c,m,k,n,f⟩;exact .inl ⟨b,xa e⟩;refine .inr ⟨g,cap,j,fun i d=>?_,(za.1 c).1⟩;have:a.toList[i]?=bO (iC D[i]):=by
  have b:(a.toList.take<|D.length*1)[i]?=bO (iC D[i]):=by
   rw[f];simp[d]
  rw[Jf]at b;simpa[d]using b
 simp only[World.cell?,c];simpa using this
def Qu(m:Nat)(L:KV)(v:Zv)(D:List dM)(j:D.length<=1000000)(w:Zy)(i:Xd w m L)(a:w.ownsRow 0 126 1 v D.length<|D.map iC):bE prog 44 #[.map<|bO m,v] w fun e w'=>e= .returned (.tuple #[])/\xb (·=m) w w'/\Xd w' m (cO L D):=by
 rcases ZQ a with⟨rfl,rfl⟩|⟨g,d,rfl,k,n⟩;exact(FG m w).mono fun e w' ⟨h,b⟩=>⟨h,by rw[b];exact xb.refl _ _,by rw[b];exact i⟩;refine QY m g d L D j w i k ?_;obtain⟨f,h,_⟩:=AC a rfl;obtain⟨l,c,b⟩:=i.blk;exact(show xx w g f 126 from h).cZ b
def Jo.now(s:Jo):KV:=cO s.L s.P
def Pr(B:Nat)(r:Sr)(s:Jo)(w:Zy)(h:Jq w B r)(I:r.sn=bO s)(hP:s.P.length<=20)(hk:∀p∈s.now,p.1.length<=1000000)(Y:s.now.length<=1000000):bE prog 23 #[.pointer<|bO ⟨B,0,bN⟩] w fun e w'=>∃v,e= .returned (.tuple #[v,.int .i64 0])/\w'.ownsRow w.heap.size 9 1 v (Vp s.now).length ((Vp s.now).map encStr)/\Nw w w':=by
 have M:=h.blk.cell 7 rfl;have i:w.cell? ⟨B,7,bN⟩=bO (.pointer<|bO ⟨s.S,0,bN⟩):=by rw[M];simp[Sr.cells,Sr.iJ,I]
 have H:=(h.bU s I).1;have W:w.cell? ⟨s.S,0,bN⟩=bO (.map<|bO s.mp):=H.blk.cell 0 rfl;have K:=zl H;have T:=zl hk;have C:=zl i;clear h M H I hk;go_enter func23.1,Tryz.ntmps23
 go_wp2_with fail
 refine(k9 s.mp s.L w K.o.map).mono ?_;rintro e w1 ⟨rfl,c,Z,hm1⟩;have q:=zl c;have D:=zl hm1;have m:=K.o.but (xb.of_below c) fun _ _=>id;have X:=(xb.of_below (S:=fun _=>False) c).cell id C.o;have O:w1.cell? ⟨s.S,1,bN⟩=bO s.pv:=m.blk.cell 1 rfl;have o:=zl m;obtain⟨a,V,g,Q⟩:=Jh m.pend;rw[g]at O;have G:=zl g;clear c hm1 m g i W
 go_wp2_with fail
 refine(Qu _ s.L _ s.P (by omega) w1 D.o<|by rw[<-G.o];exact o.o.pend).mono ?_;rintro e l ⟨rfl,j,f⟩;have t:Hid<|Nw w l:=xb.fresh (xb.of_below q.o) (ze _) j;have E:Hid<|Xd l w.heap.size s.now:=f;have ba:=f.lt;clear j f X O
 go_wp2_with fail
 refine(Oz _ _).mono ?_;rintro e n ⟨rfl,b⟩;have F:Hid<|Xd n w.heap.size s.now:=by show Xd _ _ _;rw[b];exact E.o.but (S:=fun _=>False) (xb.alloc _) id
 have z:Hid<|n.cell? ⟨l.heap.size,0,bN⟩=bO (.map<|bO w.heap.size):=by show _=_;rw[b];exact(xx.new l _ 91).cell 0 rfl
 have x:Hid<|Nw w n:=by show Nw _ _;rw[b];exact t.o.trans<|xb.alloc _
 have J:l.heap.size<n.heap.size:=by rw[b];simp
 clear b
 go_wp2_with fail
 refine(Mr _ _ s.now _ F.o z.o J T.o Y).mono ?_;rintro e R ⟨v,rfl,d,k⟩;have U:Hid<|R.ownsRow w.heap.size 9 1 v (Vp s.now).length<|(Vp s.now).map encStr:=EG d (by omega);have y:Hid<|Nw w R:=x.o.trans<|xb.of_below k;clear d k
 go_wp2_with fail
 refine jz (by simp[aN,Tryz.results23,go_sem]) rfl ⟨v,rfl,U.o,y.o⟩
end P
namespace P
open A.Tryq Go.RowKit Go.Shelf
attribute [local go_sem] Oper.semAt_some
def mO(D:List dM)(j:Nat):List<|Int×dM:=((List.range' j<|D.length-j).reverse).map fun(i:Nat)=>((i:Int),D[i]?.getD (.del []))
def B9(D:List dM)(j:Nat)(h:j<D.length):mO D j=mO D (j+1)++[((j:Int),D[j]?.getD (.del []))]:=by
 unfold mO;rw[show D.length-j=(D.length-(j+1))+1 by omega,IG,List.reverse_cons,Jd];rfl
def Mn(D:List dM)(j:Nat):(mO D j).length=D.length-j:=by simp[mO]
def Mp(D:List dM):mO D D.length=[]:=by simp[mO]
def xqg(n:Nat)(R:1<=n)(l Bs o b cap:Nat)(D:List dM)(O:D.length<=1000000)(H:b<o)(p:Bs<o)(J w:List (Int×dM)->Zy->Prop)
  (G:∀pre (x:Int×dM) W,J pre W->pre.length<D.length->YieldAt Fence.wide (n-1) prog l #[.int .i64 x.1,iC x.2] W fun e W'=>
   (e= .returned (.bool bL)/\J (pre++[x]) W'/\bC o W W')\/(e= .returned (.bool bK)/\w (pre++[x]) W'))
  (W:Zy)(q:W.cell? ⟨Bs,0,bN⟩=bO (.slice (bO ⟨b,0,bN⟩) D.length cap))(I:∀j,j<D.length->W.cell? ⟨b,j,bN⟩=bO (iC<|D[j]?.getD (.del [])))(E:J [] W):
  CallsIn Fence.wide n prog 149 #[.func (.yield l) #[] #[],.pointer<|bO ⟨Bs,0,bN⟩] W fun e W'=>(∃v,e= .returned v)/\
   ((∃ys,ys=mO D 0/\J ys W')\/(∃pre,(∃k,k<=D.length/\pre=mO D k)/\w pre W')):=by
 refine callsIn_of_wp func149.1 rfl trivial ?_ rfl;simp only[Tryz.ntmps149,jg,zh,jn,Nat.reduceAdd,Nat.reduceSub,qw,qx,Z7,Zi,jk,jc]
 gi_wp2
 gi_loopw [3] (fun i wr=>∃j:Nat,j<=D.length/\i= .int .i64 ((j:Int)-1)/\J (mO D j) wr/\bC o W wr)
  (fun i _=>(aJ i+1).toNat)
 case atStart=>exact⟨D.length,ze _,rfl,by rw[Mp];exact E,zr _ _⟩
 case round=>
  obtain⟨j,Q,rfl,f,a⟩:=hrel;cases j with
  |zero=>
   have t:((0:Nat):Int)-1= -1:=by omega
   rw[t]
   gi_wp2
   go_end0
   exact⟨⟨_,rfl⟩,.inl ⟨_,rfl,f⟩⟩
  |succ j=>
   have t:((j+1:Nat):Int)-1=(j:Int):=by omega
   rw[t];have h:j<D.length:=by omega
   have B:=(a.cell H).trans<|I j h;have z:=(a.cell p).trans q;have T:(j:Int)<(D.length:Nat):=by omega
   have S:(0:Int)<=(j:Int):=by omega
   obtain⟨M,C,m,y,K,F⟩:=G _ ((j:Int),D[j]?.getD (.del [])) wr f (by rw[Mn];omega);dsimp only at K;have d:=zl<|B9 D j h;generalize D[j]?.getD (.del [])=c at*
   gi_wp2
   refine F.mono ?_;rintro e L (⟨rfl,r,s⟩|⟨rfl,g⟩)
   ·gi_wp2
    go_roundw
    case rel=>exact⟨j,by omega,rfl,by rw[d.o];exact r,a.trans s⟩
    case measure=>simp[aJ]
   gi_wp2
   refine jz (results_none rfl _ _ _) rfl ?_;exact⟨⟨_,rfl⟩,.inr ⟨_,⟨j,by omega,d.o.symm⟩,g⟩⟩
def zzr(n:Nat)(l Bs:Nat)(J:List (Int×dM)->Zy->Prop)(W:Zy)(c:W.cell? (zq Bs 0)=bO (.slice bN 0 0))(b:J [] W):
  CallsIn Fence.wide n prog 149 #[.func (.yield l) #[] #[],zo Bs] W fun e W'=>(∃v,e= .returned v)/\J [] W':=by
 refine callsIn_of_wp func149.1 rfl trivial ?_ rfl;simp only[Tryz.ntmps149,jg,zh,jn,Nat.reduceAdd,Nat.reduceSub,qw,qx,Z7,Zi,jk,jc]
 gi_wp2
 gi_loopw [3] (fun i wr=>i=zi (-1)/\J [] wr) (fun _ _=>0)
 case atStart=>exact⟨rfl,b⟩
 case round=>
  obtain⟨rfl,a⟩:=hrel
  gi_wp2
  go_end0
  exact⟨⟨_,rfl⟩,a⟩
def zvp(a:Option Addr)(len cap:Nat)(w:Zy):bE prog 94 #[.slice a len cap] w fun e w'=>e= .returned (.func (.func 149) #[] #[zo w.heap.size])/\w'=w.alloc (.cells #[.slice a len cap] 95):=by
 go_enter func94.1,Tryz.ntmps94
 go_wp2
 go_ret
 exact⟨rfl,rfl⟩
def C0(n:Nat)(z:1<=n)(Bs f:Nat)(sv:Zv)(D:List dM)(r:D.length<=1000000)(w:Zy)(b:Bs<f)(i:f<=w.heap.size)(y:w.cell? (zq Bs 0)=bO sv)(s:(sv= .slice bN 0 0/\D=[])\/∃g cap,sv= .slice (bO ⟨g,0,bN⟩) D.length cap/\uU w g D/\g<f):
  SeqStopsK Fence.wide n prog 149 #[zo Bs] (fun x:Int×dM=>#[zi x.1,iC x.2]) (bC f) (fun ys=>ys=mO D 0) (fun pre=>∃k,k<=D.length/\pre=mO D k) D.length w:=fun l J p W t _ _ v m=>by
 have c:=t.mono i;have d:=(c.cell b).trans y;rcases s with⟨rfl,rfl⟩|⟨g,cap,rfl,B,o⟩
 exact(zzr n l Bs J W d m).mono fun e q ⟨h,a⟩=>⟨h,.inl ⟨_,rfl,a⟩⟩;refine(xqg n z l Bs f g cap D r o b J p v W d (fun j a=>?_) m).mono ?_;have:=(c.cell o).trans<|B j a;rw[this];simp[a];rintro e q ⟨h,⟨ys,rfl,a⟩|⟨pre,hk,a⟩⟩;exact⟨h,.inl ⟨_,rfl,a⟩⟩;exact⟨h,.inr ⟨_,hk,a⟩⟩
end P
namespace P
open Go.RowKit
section
variable {L:KV} {x:Zl} {D:List dM}
def Nd(L:KV):Prop:=(L.map (·.1)).Nodup
def H4{k v:Zl}:x∈(dA L k v).map (·.1)↔x=k\/x∈L.map (·.1):=by
 induction L with
 |nil=>simp[dA]
 |cons p L ih=>
  obtain⟨a,b⟩:=p;by_cases hk:k=a;subst hk;simp[dA];simp only[dA,hk,if_false,xq,xf,ih];constructor;rintro(h|h|h);exact .inr<|.inl h;exact .inl h;exact .inr<|.inr h;rintro(h|h|h);exact .inr<|.inl h;exact .inl h;exact .inr<|.inr h
def Ek{k:Zl}:x∈(dO L k).map (·.1)->x∈L.map (·.1):=by
 induction L with
 |nil=>exact id
 |cons p L ih=>
  obtain⟨a,b⟩:=p;by_cases hk:k=a;simp only[dO,hk,if_true];exact fun h=>xj _ h;simp only[dO,hk,if_false,xq,xf];rintro(h|h);exact .inl h;exact .inr<|ih h
def Nd.dA(h:Nd L)(k v:Zl):Nd<|dA L k v:=by
 induction L with
 |nil=>simp[Nd,P.dA]
 |cons p L ih=>
  obtain⟨c,d⟩:=p;have a:=Zr.1 h;by_cases hk:k=c;subst hk;simp only[Nd,P.dA,if_true,xq];exact Zr.2 a;simp only[Nd,P.dA,hk,if_false,xq];refine Zr.2 ⟨fun b=>?_,ih a.2⟩;rcases H4.1 b with e|e
  exact hk e.symm;exact a.1 e
def Nd.dO(h:Nd L)(k:Zl):Nd<|dO L k:=by
 induction L with
 |nil=>exact h
 |cons p L ih=>
  obtain⟨c,d⟩:=p;have a:=Zr.1 h;by_cases hk:k=c;simp only[Nd,P.dO,hk,if_true];exact a.2;simp only[Nd,P.dO,hk,if_false,xq];exact Zr.2 ⟨fun b=>a.1<|Ek b,ih a.2⟩
def Nd.app1(h:Nd L)(c:dM):Nd<|app1 L c:=by
 cases c with
 |put k v=>exact h.dA k v
 |del k=>exact h.dO k
def Nd.cO(h:Nd L)(D:List dM):Nd<|cO L D:=by
 induction D generalizing L with
 |nil=>exact h
 |cons c D ih=>exact ih<|h.app1 c
def Xd.nd{w:Zy}{m:Nat}(h:Xd w m L):Nd L:=by
 obtain⟨b,c,_,d,f⟩:=h;have e:b.toList.map (·.key)=L.map fun p=>zs p.1:=by
  have:=congrArg (List.map Prod.fst) d;simpa[uP,PS]using this
 have a:=f.2.2;rw[e]at a;have:(L.map fun p=>zs p.1)=(L.map (·.1)).map fun k=>zs k:=by simp
 rw[this]at a;unfold List.Nodup at a;rw[List.pairwise_map]at a;exact a.imp fun h e=>h<|by rw[e]
def Qq(k v x:Zl):Zh (dA L k v) x=if x=k then bO v else Zh L x:=by
 induction L with
 |nil=>by_cases h:x=k<;>simp[dA,Zh,h]
 |cons p L ih=>
  obtain⟨a,b⟩:=p;by_cases hk:k=a;subst hk;by_cases h:x=k<;>simp[dA,Zh,h]
  simp only[dA,hk,if_false,Zh,ih];by_cases h:x=a;subst h;simp[fun e=>hk<|Eq.symm e,Ne.symm hk];simp[h]
def QC(h:x∉L.map (·.1)):Zh L x=bN:=by
 induction L with
 |nil=>rfl
 |cons p L ih=>
  obtain⟨a,b⟩:=p;simp only[xq,xf,not_or]at h;simp[Zh,h.1,ih h.2]
def Qp(c:Nd L)(k x:Zl):Zh (dO L k) x=if x=k then bN else Zh L x:=by
 induction L with
 |nil=>by_cases h:x=k<;>simp[dO,Zh]
 |cons p L ih=>
  obtain⟨b,d⟩:=p;have a:=Zr.1 c;by_cases hk:k=b;subst hk;by_cases h:x=k;subst h;simp[dO,QC a.1];simp[dO,Zh,h];simp only[dO,hk,if_false,Zh,ih a.2];by_cases h:x=b;subst h;simp[Ne.symm hk];simp[h]
def nU(c:dM)(x:Zl):Option<|Option Zl:=match c with
 | .put k v=>if k=x then bO (bO v)else bN
 | .del k=>if k=x then bO bN else bN
def QL(a:Nd L)(c:dM)(x:Zl):Zh (app1 L c) x=(nU c x).getD (Zh L x):=by
 cases c with
 |put k v=>
  show Zh (dA L k v) x=_;rw[Qq];by_cases h:k=x;subst h;simp[nU];simp[nU,h,Ne.symm h]
 |del k=>
  show Zh (dO L k) x=_;rw[Qp a];by_cases h:k=x;subst h;simp[nU];simp[nU,h,Ne.symm h]
def Lc(a:Nd L)(h:∀c∈D,nU c x=bN):Zh (cO L D) x=Zh L x:=by
 induction D generalizing L with
 |nil=>rfl
 |cons c D ih=>
  show Zh (cO (app1 L c) D) x=_;rw[ih (a.app1 c) fun y b=>h y<|xj _ b,QL a,h c<|jo ..];rfl
def Av(D:List dM)(j:Nat)(h:j<=D.length):(mO D j).map (·.2)=(D.drop j).reverse:=by
 unfold mO;rw[uP,List.map_reverse]
 congr 1
 apply List.ext_getElem;simp;intro i a b;simp at a b⊢;have:j+i<D.length:=by omega
 simp[Yh this]
def SU(d:Nd L){k:Nat}(hk:k<=D.length){q:List<|Int×dM}{y:Int×dM}{o:Option Zl}(h:mO D k=q++[y])(i:∀z∈q,nU z.2 x=bN)(hy:nU y.2 x=bO o):Zh (cO L D) x=o:=by
 have a:=Av D k hk;rw[h,Jd,xq,DN]at a;have e:D.drop k=y.2::(q.map (·.2)).reverse:=by
  have:=congrArg List.reverse a;simpa using this.symm
 have f:D=D.take k++(y.2::(q.map (·.2)).reverse):=by rw[<-e,PW]
 have g:cO L D=cO (app1 (cO L<|D.take k) y.2) (q.map (·.2)).reverse:=by
  conv=>lhs;rw[f]
  simp[cO,IJ]
 rw[g,Lc<|(d.cO _).app1 _,QL<|d.cO _,hy];rfl;intro c b;rw[List.mem_reverse,qp]at b;obtain⟨z,j,rfl⟩:=b;exact i z j
def FA(d:Nd L)(e:∀z∈mO D 0,nU z.2 x=bN):Zh (cO L D) x=Zh L x:=by
 refine Lc d fun c b=>?_;have a:=Av D 0<|Vj _;have:c∈(mO D 0).map (·.2):=by rw[a];simpa using b
 obtain⟨z,f,rfl⟩:=qp.1 this;exact e z f
end
end P
namespace P
open A.Tryq Go.RowKit Go.Shelf
attribute [local go_sem] xe zv
attribute [local go_sem] Oper.semAt_some
def xx.kept{W W':Zy}{row:Option Nat}{r:Nat}{cs:Za}{t:Zt}(h:xx W r cs t)(a:W.grownBy W' row)(b:∀r,row=bO r->∃o:Obj,W.heap[r]?=bO o/\o.isCells=bK):xx W' r cs t:=
 (grownBy_keeps_cells a b h rfl).trans h
def VS(w:Zy):(zeroValue 94).run prog w= .ok (kF []) w:=by kernel_rfl
structure xws(w:Zy)(key:Zl)(pre:List<|Int×dM)(W:Zy):Prop where
 k:xx W w.heap.size #[zs key] 9
 v:xx W (w.heap.size+1) #[.string ⟨#[]⟩] 9
 b:xx W (w.heap.size+1+1) #[.bool bK] 4
 below:bC w.heap.size w W
 sz:w.heap.size+1+1+1+1<=W.heap.size
 no:∀z∈pre,nU z.2 key=bN
structure xwt(w:Zy)(key:Zl)(c:Code)(pre:List<|Int×dM)(W:Zy):Prop where
 ret:c= .ret
 hit:∃q y o,pre=q++[y]/\(∀z∈q,nU z.2 key=bN)/\nU y.2 key=bO o/\xx W (w.heap.size+1) #[zs<|o.getD []] 9/\xx W (w.heap.size+1+1) #[.bool o.isSome] 4
 below:bC w.heap.size w W
def xmr(s:Jo)(key:List UInt8)(w:World)(h:xE w s)(hP:s.P.length<=20):bE prog 59 #[.pointer<|bO ⟨s.S,0,bN⟩,.string<|st key] w fun e w'=>e= .returned (.tuple #[.string<|st<|(Zh s.now key).getD [],.bool (Zh s.now key).isSome])/\Nw w w':=by
 refine(callsIn_wide (n:=4)).1 ?_;obtain⟨a,cap,hpv,hcap⟩:=Jh h.pend;have HA:=zl h;have HPV:=zl hpv;have c1:w.cell? ⟨s.S,1,bN⟩=bO (.slice a s.P.length cap):=by rw[<-hpv];exact h.blk.cell 1 rfl
 have hSl:=h.blk.lt;have c1':(((w.alloc<|.cells #[.string<|st key] 9).alloc<|.cells #[.string ⟨#[]⟩] 9).alloc<|.cells #[.bool bK] 4).cell? ⟨s.S,1,bN⟩=bO (.slice a s.P.length cap):=(xb.alloc (S:=fun _=>False) _).cell id<|(xb.alloc (S:=fun _=>False) _).cell id<|(xb.alloc (S:=fun _=>False) _).cell id c1;clear h hpv c1;have hfB:Fence.wide.fn 94:=trivial;refine callsIn_of_wp_marks func59.1 rfl trivial ?_ rfl;simp only[Tryz.ntmps59,jg,zh,jn,Nat.reduceAdd,Nat.reduceSub,qw,qx,Z7,Zi,jk,jc]
 gi_wp2_with (gi_at_call 94;refine(callsIn_wide.2<|zvp _ _ _ _).mono ?_;rintro e w' ⟨rfl,rfl⟩)
 obtain⟨W0,hW0⟩:∃W0,(((w.alloc<|.cells #[.string<|st key] 9).alloc<|.cells #[.string ⟨#[]⟩] 9).alloc<|.cells #[.bool bK] 4).alloc (.cells #[.slice a s.P.length cap] 95)=W0:=⟨_,rfl⟩;rw[hW0];have B0:bC w.heap.size w W0:=by
  rw[<-hW0];exact((((zr _ w).alloc (ze _) _).alloc (by simp) _).alloc (by simp;omega) _).alloc (by simp;omega) _
 have S0:W0.heap.size=w.heap.size+1+1+1+1:=by rw[<-hW0];simp
 have K0:xx W0 w.heap.size #[.string<|st key] 9:=by
  rw[<-hW0];exact(((xx.new w #[.string<|st key] 9).alloc _).alloc _).alloc _
 have V0:xx W0 (w.heap.size+1) #[.string ⟨#[]⟩] 9:=by
  rw[<-hW0];have:=xx.new (w.alloc<|.cells #[.string<|st key] 9) #[.string ⟨#[]⟩] 9;simp only[xh]at this;exact(this.alloc _).alloc _
 have L0:xx W0 (w.heap.size+1+1) #[.bool bK] 4:=by
  rw[<-hW0];have:=xx.new ((w.alloc<|.cells #[.string<|st key] 9).alloc<|.cells #[.string ⟨#[]⟩] 9) #[.bool bK] 4;simp only[xh]at this;exact this.alloc _
 have X0:xx W0 (w.heap.size+1+1+1) #[.slice a s.P.length cap] 95:=by
  rw[<-hW0];have:=xx.new (((w.alloc<|.cells #[.string<|st key] 9).alloc<|.cells #[.string ⟨#[]⟩] 9).alloc<|.cells #[.bool bK] 4) #[.slice a s.P.length cap] 95;simp only[xh]at this;exact this
 have HW0:=zl<|HA.o.but (S:=fun _=>False) (xb.of_below B0) fun _ _=>id;have hrows:=ZQ HW0.o.pend;rw[HPV.o]at hrows;clear hW0 c1';refine wpIn_rangeFunc_ownF rfl (by omega) (gf:=149) (lb:=#[.pointer<|bO ⟨w.heap.size+1+1+1,0,bN⟩]) rfl trivial (enters_of func149.1 (by kernel_rfl) rfl)
  (C0 3 (by omega) (w.heap.size+1+1+1) W0.heap.size (.slice a s.P.length cap) s.P (by omega) W0 (by omega) (ze _) (X0.cell 0 rfl) hrows) belowK_t (belowK_b<|ze _) (zr _ _) (fun _=>rfl)
  (xws w key) (xwt w key)
  (fun pre A B row hs hg hr=>⟨hs.k.kept hg fun r e=>(hr r e).2,hs.v.kept hg fun r e=>(hr r e).2,hs.b.kept hg fun r e=>(hr r e).2,hs.below.grown hg hs.below.size fun k e=>by have:=(hr k e).1;omega,xz hs.sz hg.size,hs.no⟩)
  (fun c pre A B row hs hg hr=>⟨hs.ret,by
   obtain⟨q,y,o,h1,h2,h3,h4,h5⟩:=hs.hit;exact⟨q,y,o,h1,h2,h3,h4.kept hg fun r e=>(hr r e).2,h5.kept hg fun r e=>(hr r e).2⟩,hs.below.grown hg hs.below.size fun k e=>by have:=(hr k e).1;omega⟩)
  ⟨K0,V0,L0,B0,by omega,fun z hz=>by cases hz⟩
  (fun x=>{tmps:=#[.pointer<|bO ⟨s.S,0,bN⟩,.string<|st key,bJ,.pointer<|bO ⟨w.heap.size,0,bN⟩,.pointer<|bO ⟨w.heap.size+1,0,bN⟩,.pointer<|bO ⟨w.heap.size+1+1,0,bN⟩,bJ,iC x.2,bJ,bJ,bJ,bJ,
   .pointer (bO ⟨s.S,0,bN⟩),.pointer<|bO ⟨s.S,0,bN⟩,.pointer<|bO ⟨s.S,1,bN⟩,.slice a s.P.length cap,.func (.func 149) #[] #[.pointer<|bO ⟨w.heap.size+1+1+1,0,bN⟩],.int .i64 x.1,iC x.2,
   bJ,bJ,bJ,bJ,bJ,bJ,bJ,bJ,bJ,bJ,bJ,bJ,bJ,bJ,bJ,bJ,bJ,bJ,bJ,bJ,bJ,bJ,bJ,bJ,bJ,bJ,bJ,bJ,bJ],defers:=[]}) ?assign ?body ?done ?stop
 case assign=>
  intro l x W K hK
  gi_wp2
  exact hK
 case body=>
  rintro l pre ⟨ix,c⟩ W ⟨hk,hv,hb,hbel,hsz,hno⟩ _;have HK:=zl hk;have HV:=zl hv;have HB:=zl hb;have HE:=zl hbel;have HN:=zl hno;have hlt:w.heap.size+1+1<W.heap.size:=by omega
  clear hk hv hb hbel hno K0 V0 L0 X0 B0 hrows;cases c with
  |put ky vl=>
   have h86:=Ig (.agg #[.string<|st ky,.string<|st vl]) W;simp only[iC];by_cases hm:ky=key
   ·subst hm
    have A1:=HK.o.alloc<|.cells #[.string<|st ky,.string<|st vl] 86;have A2:=HV.o.alloc<|.cells #[.string<|st ky,.string<|st vl] 86;have A3:=HB.o.alloc<|.cells #[.string<|st ky,.string<|st vl] 86;have ck:=A1.cell 0 rfl;have cv:=A2.cell 0 rfl;have fv:=A2.bT 0;have cb:=A3.cell 0 rfl;have fb:=A3.bT 0;have cn0:(W.alloc<|.cells #[.string<|st ky,.string<|st vl] 86).cell? ⟨W.heap.size,0,bN⟩=bO (.string<|st ky):=(xx.new W #[.string<|st ky,.string<|st vl] 86).cell 0 rfl;have cn1:(W.alloc<|.cells #[.string<|st ky,.string<|st vl] 86).cell? ⟨W.heap.size,1,bN⟩=bO (.string<|st vl):=(xx.new W #[.string<|st ky,.string<|st vl] 86).cell 1 rfl;clear A1 A2 A3
    gi_wp2
    refine⟨?_,rfl,⟨pre,(ix,.put ky vl),bO vl,rfl,HN.o,by simp[nU], ?_, ?_⟩, ?_⟩
    ·exact((KeepsOthers.alloc _ _).trans<|KeepsOthers.setCell _ _ _).trans<|KeepsOthers.setCell _ _ _
    ·exact((HV.o.alloc _).set 0 _).other (by simp) _
    ·exact((HB.o.alloc _).other (by simp) _).set 0 _
    ·exact HE.o.trans<|(((zr _ W).alloc (by omega) _).setCell (p:=⟨w.heap.size+1,0,bN⟩) (by simp) _).setCell (p:=⟨w.heap.size+1+1,0,bN⟩) (by simp;omega) _
   ·have hmb:((st ky).toList==(st key).toList)=bK:=by rw[xo,xo,Xy];exact hm
    have A1:=HK.o.alloc<|.cells #[.string<|st ky,.string<|st vl] 86;have A2:=HV.o.alloc<|.cells #[.string<|st ky,.string<|st vl] 86;have A3:=HB.o.alloc<|.cells #[.string<|st ky,.string<|st vl] 86;have ck:=A1.cell 0 rfl;have cv:=A2.cell 0 rfl;have fv:=A2.bT 0;have cb:=A3.cell 0 rfl;have fb:=A3.bT 0;have cn0:(W.alloc<|.cells #[.string<|st ky,.string<|st vl] 86).cell? ⟨W.heap.size,0,bN⟩=bO (.string<|st ky):=(xx.new W #[.string<|st ky,.string<|st vl] 86).cell 0 rfl;have cn1:(W.alloc<|.cells #[.string<|st ky,.string<|st vl] 86).cell? ⟨W.heap.size,1,bN⟩=bO (.string<|st vl):=(xx.new W #[.string<|st ky,.string<|st vl] 86).cell 1 rfl;clear A1 A2 A3
    gi_wp2
    refine⟨KeepsOthers.alloc _ _,(zr _ W).alloc (by omega) _,HK.o.alloc _,HV.o.alloc _,HB.o.alloc _,HE.o.trans<|(zr _ W).alloc (by omega) _,by simp;omega,fun z hz=>?_⟩;rcases Je.1 hz with hz|hz
    ·exact HN.o z hz
    ·simp only[jp]at hz
     subst hz;simp[nU,hm]
  |del ky=>
   have h86:=Fz (.agg #[.string<|st ky]) W;have h88:=Ih (.agg #[.string<|st ky]) W;simp only[iC];by_cases hm:ky=key
   ·subst hm
    have A1:=HK.o.alloc<|.cells #[.string<|st ky] 88;have A2:=HV.o.alloc<|.cells #[.string<|st ky] 88;have A3:=HB.o.alloc<|.cells #[.string<|st ky] 88;have ck:=A1.cell 0 rfl;have cv:=A2.cell 0 rfl;have fv:=A2.bT 0;have cb:=A3.cell 0 rfl;have fb:=A3.bT 0;have cn0:(W.alloc<|.cells #[.string<|st ky] 88).cell? ⟨W.heap.size,0,bN⟩=bO (.string<|st ky):=(xx.new W #[.string<|st ky] 88).cell 0 rfl;clear A1 A2 A3
    gi_wp2
    refine⟨?_,rfl,⟨pre,(ix,.del ky),bN,rfl,HN.o,by simp[nU], ?_, ?_⟩, ?_⟩
    ·exact((KeepsOthers.alloc _ _).trans<|KeepsOthers.setCell _ _ _).trans<|KeepsOthers.setCell _ _ _
    ·exact((HV.o.alloc _).set 0 _).other (by simp) _
    ·exact((HB.o.alloc _).other (by simp) _).set 0 _
    ·exact HE.o.trans<|(((zr _ W).alloc (by omega) _).setCell (p:=⟨w.heap.size+1,0,bN⟩) (by simp) _).setCell (p:=⟨w.heap.size+1+1,0,bN⟩) (by simp;omega) _
   ·have hmb:((st ky).toList==(st key).toList)=bK:=by rw[xo,xo,Xy];exact hm
    have A1:=HK.o.alloc<|.cells #[.string<|st ky] 88;have A2:=HV.o.alloc<|.cells #[.string<|st ky] 88;have A3:=HB.o.alloc<|.cells #[.string<|st ky] 88;have ck:=A1.cell 0 rfl;have cv:=A2.cell 0 rfl;have fv:=A2.bT 0;have cb:=A3.cell 0 rfl;have fb:=A3.bT 0;have cn0:(W.alloc<|.cells #[.string<|st ky] 88).cell? ⟨W.heap.size,0,bN⟩=bO (.string<|st ky):=(xx.new W #[.string<|st ky] 88).cell 0 rfl;clear A1 A2 A3
    gi_wp2
    refine⟨KeepsOthers.alloc _ _,(zr _ W).alloc (by omega) _,HK.o.alloc _,HV.o.alloc _,HB.o.alloc _,HE.o.trans<|(zr _ W).alloc (by omega) _,by simp;omega,fun z hz=>?_⟩;rcases Je.1 hz with hz|hz
    ·exact HN.o z hz
    ·simp only[jp]at hz
     subst hz;simp[nU,hm]
 case done=>
  rintro D xs W hD rfl ⟨hk,hv,hb,hbel,hsz,hno⟩ hK;have HM:Hid<|Zh s.now key=Zh s.L key:=FA HA.o.map.nd hno;have HV:=zl hv;have HB:=zl hb;have HE:=zl hbel;have HD:=zl hK;have AW:=HA.o.but (S:=fun _=>False) (xb.of_below hbel) fun _ _=>id;have ck:=hk.cell 0 rfl;have cm:W.cell? ⟨s.S,0,bN⟩=bO (.map<|bO s.mp):=AW.blk.cell 0 rfl;have hget:=Be (P:=prog) (w:=W.drew) yO underlying9 VS AW.map key;have AW2:=AW.but (S:=fun _=>False) (xb.alloc<|.cells #[.string ⟨#[]⟩] 94) fun _ _=>id;have hget2:=Be (P:=prog) (w:=(W.alloc<|.cells #[.string ⟨#[]⟩] 94).drew) yO underlying9 VS AW2.map key;have cm2:(W.alloc<|.cells #[.string ⟨#[]⟩] 94).cell? ⟨s.S,0,bN⟩=bO (.map<|bO s.mp):=AW2.blk.cell 0 rfl;have ck2:=(hk.alloc<|.cells #[.string ⟨#[]⟩] 94).cell 0 rfl;unfold kF at hget hget2;clear AW2;clear hk hv hb hbel hno hK AW K0 V0 L0 X0 B0 hrows
  gi_wp2
  refine wpIn_wide.2 ?_
  go_region
  all_goals
   have VA:=(HV.o.alloc<|.cells #[.string<|st<|(Zh s.L key).getD []] 94).drew;have BA:=(HB.o.alloc<|.cells #[.string<|st<|(Zh s.L key).getD []] 94).drew;have NA:=(xx.new W #[.string<|st<|(Zh s.L key).getD []] 94).drew;have DA:(W.alloc<|.cells #[.string<|st<|(Zh s.L key).getD []] 94).drew.heap[D]?=bO (.deferred<|bO []):=(qy W _ D (za.1 HD.o).1).trans HD.o;have EA:Hid<|Nw w (W.alloc<|.cells #[.string<|st<|(Zh s.L key).getD []] 94).drew:=((xb.of_below HE.o).trans<|xb.alloc _).drew;generalize(W.alloc<|.cells #[.string<|st<|(Zh s.L key).getD []] 94).drew=WA at*;obtain⟨vl,hvl⟩:∃vl,(Zh s.L key).getD []=vl:=⟨_,rfl⟩;have HVL:=zl hvl;rw[hvl]at NA⊢;clear hvl hget hget2;have ca:=NA.cell 0 rfl;have cv:=VA.cell 0 rfl;have fv:=VA.bT 0;have cb:=BA.cell 0 rfl;have fb:=BA.bT 0
   gi_wp2
   have VC:=(VA.set 0<|.string<|st vl).other (p:=⟨w.heap.size+1+1,0,bN⟩) (by simp)<|.bool (Zh s.L key).isSome;have BC:=(BA.other (p:=⟨w.heap.size+1,0,bN⟩) (by simp)<|.string<|st vl).set 0<|.bool (Zh s.L key).isSome;have DC:((WA.setCell ⟨w.heap.size+1,0,bN⟩<|.string<|st vl).setCell ⟨w.heap.size+1+1,0,bN⟩<|.bool (Zh s.L key).isSome).heap[D]?=bO (.deferred<|bO []):=(V8 _ _ _ _<|by simp;omega).trans<|(V8 _ _ _ _<|by simp;omega).trans DA;have EC:Nw w<|(WA.setCell ⟨w.heap.size+1,0,bN⟩<|.string<|st vl).setCell ⟨w.heap.size+1+1,0,bN⟩<|.bool (Zh s.L key).isSome:=(EA.o.fresh (Nat.le_succ _)<|xb.set WA ⟨w.heap.size+1,0,bN⟩ _).fresh (show w.heap.size<=w.heap.size+1+1 by omega)<|xb.set _ ⟨w.heap.size+1+1,0,bN⟩ _;generalize(WA.setCell ⟨w.heap.size+1,0,bN⟩<|.string<|st vl).setCell ⟨w.heap.size+1+1,0,bN⟩ (.bool (Zh s.L key).isSome)=WC at*;refine⟨by simp,.inl ⟨_,_,rfl,run_takeDeferred DC, ?_⟩⟩;have hkr:∀r,bO D=bO r->∃o:Obj,WC.heap[r]?=bO o/\o.isCells=bK:=fun r e=>by cases e;exact⟨_,DC,rfl⟩
   have r1:=(VC.kept (grownBy_putObj' WC D<|.deferred bN) hkr).cell 0 rfl;have r2:=(BC.kept (grownBy_putObj' WC D<|.deferred bN) hkr).cell 0 rfl;refine⟨.tuple #[.string<|st vl,.bool (Zh s.L key).isSome],by simp[aN,Tryz.results59,go_sem,r1,r2],by rw[HM.o,HVL.o], ?_⟩;exact⟨EC.os,EC.output,by simpa using EC.size,fun k hk _=>(World.putObj_heap_other<|by omega).trans<|EC.block k hk id⟩
 case stop=>
  rintro D c pre W hD ⟨k,hk,rfl⟩ ⟨rfl,⟨q,y,o,h1,h2,h3,h4,h5⟩,hbel⟩ hK;have HM:Hid<|Zh s.now key=o:=SU HA.o.map.nd hk h1 h2 h3
  gi_wp2
  refine⟨by simp,.inl ⟨_,_,rfl,run_takeDeferred hK, ?_⟩⟩;have hkr:∀r,bO D=bO r->∃o:Obj,W.heap[r]?=bO o/\o.isCells=bK:=fun r e=>by cases e;exact⟨_,hK,rfl⟩
  have r1:=(h4.kept (grownBy_putObj' W D<|.deferred bN) hkr).cell 0 rfl;have r2:=(h5.kept (grownBy_putObj' W D<|.deferred bN) hkr).cell 0 rfl;refine⟨.tuple #[.string<|st<|o.getD [],.bool o.isSome],by simp[aN,Tryz.results59,go_sem,r1,r2],by rw[HM.o], ?_⟩;exact⟨hbel.os,hbel.output,by simpa using hbel.size,fun k hk _=>(World.putObj_heap_other<|by omega).trans<|hbel.block k hk⟩
end P
namespace P
open A.Tryq Go.RowKit
attribute [local go_sem] xe zv
def Sr.gets(r:Sr)(key:Zl):Zl×Int:=match r.sn with
 |none=>([],5)
 |some s=>if Ve key=bK then([],6)else match Zh s.now key with
  |none=>([],8)
  |some v=>(v,0)
def TM(B:Nat)(r:Sr)(a:Zl)(w:Zy)(h:Jq w B r)(k:∀s,r.sn=bO s->s.P.length<=20):bE prog 32 #[zo B,zs a] w fun e w'=>e= .returned (.tuple #[.string<|st (r.gets a).1,.int .i64 (r.gets a).2])/\Nw w w':=by
 have i:=h.blk.cell 7 rfl;have n:=zl h;cases hs:r.sn with
 |none=>
  have j:w.cell? (zq B 7)=bO (.pointer bN):=by rw[i];simp[Sr.cells,Sr.iJ,hs]
  have b:Hid<|r.gets a=([],5):=by show _=_;unfold Sr.gets;rw[hs]
  clear h i hs k;go_enter func32.1,Tryz.ntmps32
  go_wp2_with fail
  refine jz (v:= .tuple #[.string ⟨#[]⟩,zi 5]) (by simp[aN,Tryz.results32,go_sem]) rfl ⟨by rw[b.o];rfl,xb.refl _ _⟩
 |some s=>
  have j:w.cell? (zq B 7)=bO (zo s.S):=by rw[i];simp[Sr.cells,Sr.iJ,hs]
  have g:=zl hs;have d:=k s hs;clear h i hs k;go_enter func32.1,Tryz.ntmps32
  go_wp2_with fail
  refine(KD a _).mono ?_;rintro e w1 ⟨rfl,l⟩;obtain rfl:=l.symm;cases hk:decide (0<a.length/\a.length<=16)with
  |false=>
   have b:Hid<|r.gets a=([],6):=by show _=_;unfold Sr.gets;rw[g.o];simp only[Ve,hk,if_true]
   clear hk
   go_wp2_with fail
   refine jz (v:= .tuple #[.string ⟨#[]⟩,zi 6]) (by simp[aN,Tryz.results32,go_sem]) rfl ⟨by rw[b.o];rfl,xb.refl _ _⟩
  |true=>
   have c:Hid<|Ve a=bL:=hk;clear hk
   go_wp2_with fail
   refine(xmr s a _ (n.o.bU s g.o).1 d).mono ?_;rintro e o ⟨rfl,f⟩;have m:=zl f;clear f;cases ha:Zh s.now a with
   |none=>
    have b:Hid<|r.gets a=([],8):=by show _=_;unfold Sr.gets;rw[g.o];simp only[c.o,ha];rfl
    simp only[Option.getD_none,Option.isSome_none];clear ha
    go_wp2_with fail
    refine jz (v:= .tuple #[.string ⟨#[]⟩,zi 8]) (by simp[aN,Tryz.results32,go_sem]) rfl ⟨by rw[b.o];rfl,m.o⟩
   |some v=>
    have b:Hid<|r.gets a=(v,0):=by show _=_;unfold Sr.gets;rw[g.o];simp only[c.o,ha];rfl
    simp only[jv,Option.isSome_some];clear ha
    go_wp2_with fail
    refine jz (v:= .tuple #[zs v,zi 0]) (by simp[aN,Tryz.results32,go_sem]) rfl ⟨by rw[b.o],m.o⟩
def A9(m:Zl)(ep:Nat):(Xz m ep).length=16:=SQ _ _ 16<|by decide
def F8(m:Zl)(ep:Nat):(Jm m ep).length=32:=SQ _ _ 32<|by decide
def Wv(kind:Zl)(ep op cnt n:Nat):Zl:=kind++(nb ep 1++(nb op 2++(nb (cnt+1) 4++nb n 2)))
def qE(m kind:Zl)(ep op cnt:Nat)(plain:Zl):Zl:=iK (Xz m ep) ((Wv kind ep op cnt plain.length).take 8) plain
def nH(m mark kind:Zl)(ep op cnt:Nat)(plain:Zl):Zl:=V1 (Jm m ep)<|mark++Wv kind ep op cnt plain.length++qE m kind ep op cnt plain
def Y5(m mark kind:Zl)(ep op cnt:Nat)(plain:Zl):Zl:=Wv kind ep op cnt plain.length++qE m kind ep op cnt plain++nH m mark kind ep op cnt plain
def MY(m mark kind:Zl)(ep op cnt:Nat)(plain:Zl)(hm:m.length=32)(t:mark.length=32)(X:kind.length=1)(v:plain.length<=4000)(bc:cnt<1000000000)(w:Zy)(J:dF w):
  bE prog 98 #[.agg #[.string<|st m,.int .i64 (cnt:Int),.string<|st mark,.int .i64 (op:Int)],.string<|st kind,.int .i64 (ep:Int),.string<|st plain] w fun e w'=>e= .returned (.string<|st<|Y5 m mark kind ep op cnt plain)/\bC w.heap.size w w':=by
 have I:=zl J;have HM:=zl hm;have R:=zl t;have E:=zl v;have l1:=qt ep 1;have l2:=qt op 2;have l3:=qt (cnt+1) 4;have l4:=qt plain.length 2;have D:Hid<|IntKind.i64.wrap ((cnt:Int)+1)=((cnt+1:Nat):Int):=by show _=_;simp[IntKind.wrap,IntKind.bits,IntKind.signed];omega
 have W0:Hid<|bC w.heap.size w<|w.alloc<|.cells #[.string<|st m,.int .i64 (cnt:Int),.string<|st mark,.int .i64 (op:Int)] 78:=(zr _ _).alloc (ze _) _;have H:Hid<|xx (w.alloc<|.cells #[.string<|st m,.int .i64 (cnt:Int),.string<|st mark,.int .i64 (op:Int)] 78) w.heap.size #[.string<|st m,.int .i64 (cnt:Int),.string<|st mark,.int .i64 (op:Int)] 78:=xx.new _ _ _;clear J hm t v;go_enter func98.1,Tryz.ntmps98
 go_wp2_with fail
 generalize w.alloc (.cells #[.string<|st m,.int .i64 (cnt:Int),.string<|st mark,.int .i64 (op:Int)] 78)=W at*;have b:Hid<|∀w1,bC W.heap.size W w1->w1.cell? ⟨w.heap.size,3,bN⟩=bO (.int .i64 (op:Int))/\w1.cell? ⟨w.heap.size,1,bN⟩=bO (.int .i64 (cnt:Int)):=fun w1 h=>⟨(H.o.below h).cell 3 rfl,(H.o.below h).cell 1 rfl⟩;have F:=b.o W<|zr _ _;have a:Hid<|bC W.heap.size W W.drew:=(zr _ _).drew
 go_region_held3 (fun w'=>w'.cell? ⟨w.heap.size,3,bN⟩=bO (.int .i64 (op:Int))/\w'.cell? ⟨w.heap.size,1,bN⟩=bO (.int .i64 (cnt:Int))) (first|exact F|exact p)
  (first
   |(go_at_call 153;refine(NG _ ep rfl _).mono ?_;rintro e w1 ⟨rfl,q⟩;replace a:=zl<|Yg a.o q;have p:=b.o _ a.o)
   |(go_at_call 154;refine(RV _ _).mono ?_;rintro e w1 ⟨rfl,q⟩;replace a:=zl<|Yg a.o q;have p:=b.o _ a.o)
   |(go_at_call 155;refine(XK _ _ D.o _).mono ?_;rintro e w1 ⟨rfl,q⟩;replace a:=zl<|Yg a.o q;have p:=b.o _ a.o))
 obtain⟨hd,k⟩:∃hd,kind++(nb ep 1++(nb op 2++(nb (cnt+1) 4++nb plain.length 2)))=hd:=⟨_,rfl⟩;have Q:Hid<|Wv kind ep op cnt plain.length=hd:=k;have be:hd.length=10:=by rw[<-k];simp[X,l1,l2,l3,l4]
 rw[k];have f:=zl<|H.o.below a.o;have U:=zl<|W0.o.trans<|a.o.mono W0.o.size;have T1:=zl<|I.o.below I.o.pos U.o;have d0:=f.o.cell 0 rfl;have d1:=f.o.cell 1 rfl;have d2:=f.o.cell 2 rfl;have d3:=f.o.cell 3 rfl;clear k F b a H W0 l1 l2 l3 l4 D;clear p
 try clear hHeld
 go_wp2_with fail
 refine(EO m mark _ _ ep HM.o _ T1.o).mono ?_;rintro e x ⟨rfl,r⟩;have W2:=zl<|Yg U.o r;have o:=zl<|f.o.below r;have ba:=o.o.lt;obtain⟨d,j⟩:∃d,Xz m ep=d:=⟨_,rfl⟩;obtain⟨c,l⟩:∃c,Jm m ep=c:=⟨_,rfl⟩;rw[j,l];have M:=zl j;have S:=zl l;have O:Hid<|d.length=16:=by show _=_;rw[<-j];exact A9 m ep
 have T:Hid<|c.length<=4096:=by show _<=_;rw[<-l,F8 m ep];omega
 clear r j l U f T1 d0 d1 d2 d3
 go_wp2_with fail
 have g:Hid<|xx (x.alloc<|.cells #[.string<|st d,.string<|st c] 120) x.heap.size #[.string<|st d,.string<|st c] 120:=xx.new _ _ _;have C:=zl<|o.o.alloc<|.cells #[.string<|st d,.string<|st c] 120;have V:=zl<|W2.o.alloc (by omega)<|.cells #[.string<|st d,.string<|st c] 120;have KS:Hid<|∀z s,s=st (hd.take 8)->bE prog 156 #[.agg #[.string<|st d,.string<|st c],.string s,.string<|st plain] z fun e w'=>e= .returned (.string<|st<|iK d (hd.take 8) plain)/\bC z.heap.size z w':=fun z s Y=>by rw[Y];exact ZI d c _ plain O.o (by rw[xt];omega) (by have:=E.o;omega) z
 generalize x.alloc (.cells #[.string<|st d,.string<|st c] 120)=W at*;have b:Hid<|∀w1,bC W.heap.size W w1->w1.cell? ⟨x.heap.size,0,bN⟩=bO (.string<|st d)/\w1.cell? ⟨x.heap.size,1,bN⟩=bO (.string<|st c):=fun w1 h=>⟨(g.o.below h).cell 0 rfl,(g.o.below h).cell 1 rfl⟩;have F:=b.o W<|zr _ _;have a:Hid<|bC W.heap.size W W.drew:=(zr _ _).drew;have h8:(8:Int)<=(hd.length:Nat):=by omega
 go_region_held3 (fun w'=>w'.cell? ⟨x.heap.size,0,bN⟩=bO (.string<|st d)/\w'.cell? ⟨x.heap.size,1,bN⟩=bO (.string<|st c)) (first|exact F|exact p)
  ((go_at_call 156;refine(KS.o _ _<|yN hd 8).mono ?_;rintro e z ⟨rfl,q⟩;replace a:=zl<|Yg a.o q;have p:=b.o _ a.o))
 obtain⟨n,i⟩:∃n,iK d (hd.take 8) plain=n:=⟨_,rfl⟩;rw[i];have L:=zl i;have bb:n.length=plain.length:=by rw[<-i];exact yJ _ _ _
 have K:=zl<|C.o.below a.o;have B:=zl<|g.o.below a.o;have W4:=zl<|V.o.trans<|a.o.mono V.o.size;have T4:=zl<|I.o.below I.o.pos W4.o;have d2:=K.o.cell 2 rfl;have e0:=B.o.cell 0 rfl;have e1:=B.o.cell 1 rfl;have t:=R.o;have v:=E.o;have Z:Hid<|∀y s,s=st (mark++(hd++n))->dF y->bE prog 157 #[.agg #[.string<|st d,.string<|st c],.string s] y fun e w'=>e= .returned (.string<|st<|V1 c<|mark++(hd++n))/\bC y.heap.size y w':=fun y s Y J=>by rw[Y];exact TC d c _ T.o (by simp only[zj];omega) y J
 clear i F b a C g V KS h8 W2 o;clear p
 try clear hHeld
 go_wp2_with fail
 refine(Z.o _ _ rfl T4.o).mono ?_;rintro e y ⟨rfl,G⟩;have bf:=wP c<|mark++(hd++n);have HE:Hid<|st (hd++(n++V1 c (mark++(hd++n))))=st (Y5 m mark kind ep op cnt plain):=by
  show _=_;simp only[Y5,nH,qE,Q.o,M.o,S.o,L.o,Zq]
 have W5:=zl<|Yg W4.o G;clear G Z
 go_wp2_with fail
 go_ret
 exact⟨by rw[<-HE.o];rfl,W5.o⟩
def xb.drewN'{S:ZP}{w w':Zy}{n:Nat}(h:xb S w w'):xb S w<|w'.drewN n:=⟨h.os,h.output,h.size,h.block⟩
def nE(n c:Nat):Zl:=83::(nb n 4++nb c 4)
def Sr.place(r:Sr)(s:Jo):Nat×Zl:=
 if s.base<s.last/\((qu r.d.L s.last).length:Int)<r.nW then(s.last.toNat,[])else(s.last.toNat+1,nE (s.last.toNat+1)<|r.cnt+1)
def Hh(B:Nat)(r:Sr)(s:Jo)(w:Zy)(h:Jq w B r)(V:r.sn=bO s)(J:0<=s.last)(K:s.last<=1000000000000)(H:r.cnt<1000000000):bE prog 96 #[zo B] w fun e w'=>e= .returned (.tuple #[zi<|(r.place s).1,.string<|st (r.place s).2])/\Nw w w':=by
 obtain⟨c,k⟩:∃c:Nat,s.last=(c:Int):=⟨s.last.toNat,by omega⟩;have T:w.cell? (zq B 7)=bO (zo s.S):=by rw[h.blk.cell 7 rfl];simp[Sr.cells,Sr.iJ,V]
 have Q:w.cell? (zq B 0)=bO (zi r.nW):=h.blk.cell 0 rfl;have R:w.cell? (zq B 2)=bO (zo r.D):=h.blk.cell 2 rfl;have l:w.cell? (zq B 4)=bO (zi r.cnt):=h.blk.cell 4 rfl;have C:=(h.bU s V).1;have U:w.cell? (zq s.S 3)=bO (zi s.base):=C.blk.cell 3 rfl;have m:w.cell? (zq s.S 4)=bO (zi c):=by rw[<-k];exact C.blk.cell 4 rfl
 have f:Hid<|r.place s=if s.base<s.last/\((qu r.d.L s.last).length:Int)<r.nW then(s.last.toNat,[])else(s.last.toNat+1,nE (s.last.toNat+1)<|r.cnt+1):=rfl;rw[k]at f;have bb:(c:Int)<=1000000000000:=by omega
 have y:Hid<|∀n,bE prog 76 #[zo r.D,zi c] (w.drewN n) fun e w'=>e= .returned (zs<|qu r.d.L (c:Int))/\w'=w.drewN n:=fun n=>AV r.D r.d (c:Int) (w.drewN n) ⟨h.disk.blk,h.disk.map,h.disk.eU⟩;have o:Hid<|IntKind.i64.wrap ((r.cnt:Int)+1)=((r.cnt+1:Nat):Int):=by show _=_;simp[IntKind.wrap,IntKind.bits,IntKind.signed];omega
 have g:Hid<|IntKind.i64.wrap ((c:Int)+1)=((c+1:Nat):Int):=by show _=_;simp[IntKind.wrap,IntKind.bits,IntKind.signed];omega
 have O:Hid<|∀w1 a b,a=((c+1:Nat):Int)->b=((r.cnt+1:Nat):Int)->bE prog 152 #[zi a,zi b] w1 fun e w'=>e= .returned (zs<|nE (c+1)<|r.cnt+1)/\bC w1.heap.size w1 w':=fun w1 a b X i=>by subst X i;exact Lf (c+1) (r.cnt+1) w1
 obtain⟨z,t⟩:∃z,qu r.d.L (c:Int)=z:=⟨_,rfl⟩;rw[t]at y f;clear h C k t J K H;generalize r.nW=sg at*;generalize s.base=ba at*;go_enter func96.1,Tryz.ntmps96
 go_wp2_with fail
 by_cases i:ba<(c:Int)
 ·by_cases I:(z.length:Int)<sg
  ·have p:Hid<|r.place s=(c,[]):=by show _=_;rw[f.o,aA ⟨i,I⟩];simp
   go_quiet ((go_at_call 76;refine Calls.quiet_of_same<|y.o _))
   go_wp2_with fail
   refine jz (v:= .tuple #[zi c,.string ⟨#[]⟩]) (by simp[aN,Tryz.results96,go_sem]) rfl ⟨by rw[p.o];rfl,(xb.refl _ _).drewN'⟩
  have p:Hid<|r.place s=(c+1,nE (c+1)<|r.cnt+1):=by show _=_;rw[f.o,aB fun x=>I x.2];simp
  have Z:decide ((z.length:Int)<sg)=bK:=by simpa using I
  go_quiet ((go_at_call 76;refine Calls.quiet_of_same<|y.o _))
  go_wp2_with fail
  have F:(w.drewN nq).cell? (zq s.S 4)=bO (zi c)/\(w.drewN nq).cell? (zq B 4)=bO (zi r.cnt):=⟨m,l⟩;have E:Hid<|Nw w<|w.drewN nq:=(xb.refl _ _).drewN';have j:Hid<|∀w1,Nw w w1->w1.cell? (zq s.S 4)=bO (zi c)/\w1.cell? (zq B 4)=bO (zi r.cnt):=fun w1 h=>⟨h.cell id m,h.cell id l⟩;clear m l Q R U T;generalize w.drewN nq=W at*
  go_region_held3 (fun w'=>w'.cell? (zq s.S 4)=bO (zi c)/\w'.cell? (zq B 4)=bO (zi r.cnt)) (first|exact F|exact G)
  ((go_at_call 152;refine(O.o _ _ _ g.o o.o).mono ?_;rintro e M ⟨rfl,i⟩;have q:Hid<|Nw w M:=E.o.drew.trans<|xb.of_below i;have G:=j.o _ q.o))
  go_wp2_with fail
  refine jz (v:= .tuple #[zi<|IntKind.i64.wrap<|(c:Int)+1,zs<|nE (c+1)<|r.cnt+1]) (by simp[aN,Tryz.results96,go_sem]) rfl ⟨by rw[p.o,g.o],q.o⟩
 have p:Hid<|r.place s=(c+1,nE (c+1)<|r.cnt+1):=by show _=_;rw[f.o,aB fun x=>i x.1];simp
 have Y:decide (ba<(c:Int))=bK:=by simpa using i
 go_quiet ((go_at_call 76;refine Calls.quiet_of_same<|y.o _))
 go_wp2_with fail
 have F:(w.drewN nq).cell? (zq s.S 4)=bO (zi c)/\(w.drewN nq).cell? (zq B 4)=bO (zi r.cnt):=⟨m,l⟩;have E:Hid<|Nw w<|w.drewN nq:=(xb.refl _ _).drewN';have j:Hid<|∀w1,Nw w w1->w1.cell? (zq s.S 4)=bO (zi c)/\w1.cell? (zq B 4)=bO (zi r.cnt):=fun w1 h=>⟨h.cell id m,h.cell id l⟩;clear m l Q R U T;generalize w.drewN nq=W at*
 go_region_held3 (fun w'=>w'.cell? (zq s.S 4)=bO (zi c)/\w'.cell? (zq B 4)=bO (zi r.cnt)) (first|exact F|exact G)
 ((go_at_call 152;refine(O.o _ _ _ g.o o.o).mono ?_;rintro e M ⟨rfl,i⟩;have q:Hid<|Nw w M:=E.o.drew.trans<|xb.of_below i;have G:=j.o _ q.o))
 go_wp2_with fail
 refine jz (v:= .tuple #[zi<|IntKind.i64.wrap<|(c:Int)+1,zs<|nE (c+1)<|r.cnt+1]) (by simp[aN,Tryz.results96,go_sem]) rfl ⟨by rw[p.o,g.o],q.o⟩
end P
namespace P
open Go.RowKit
section
variable {B:Nat}
structure iA(cv tv:Zv)(w:Zy):Prop where
 FT:mJ cv w
 Am:Wh tv w
 tab:dF w
def iA.but{cv tv:Zv}{S:ZP}{w w':Zy}(h:iA cv tv w)(a:xb S w w')(b:∀x,S x->4<x):iA cv tv w':=
 ⟨h.FT.but a fun x=>by have:=b 0 x;omega,h.Am.but a fun x=>by have:=b 1 x;omega,h.tab.but a fun x=>by have:=b 4 x;omega⟩
def iA.pos{cv tv:Zv}{w:Zy}(h:iA cv tv w):4<w.heap.size:=h.tab.pos
structure fV(B:Nat)(r:Sr):Prop where
 m:r.m.length=32
 mark:r.mark.length=32
 cnt:r.cnt<1000000
 op:r.op<1000000
 room:0<=r.d.room/\r.d.room<=1000000
 files:mE r.d.L
 few:r.d.L.length<1000000
 nx:∀c,r.d.nx=bO c->i64 c.2.1/\0<=c.2.2/\i64 c.2.2
 own:∀x,r.own B x->4<x
 bU:∀s,r.sn=bO s->0<=s.last/\s.last<=1000000000000/\s.P.length<=20
def fV.FU{r:Sr}(h:fV B r):dL r.D r.d:=⟨h.files,h.nx,fun x=>by have:=h.own 0<|.inr<|.inl x;omega⟩
def jt.disk{r:Sr}{w w':Zy}{d':Dk}(h:Jq w B r)(b:xb (r.d.own r.D) w w')(hd:Xg w' r.D d')(g:d'.M=r.d.M)(ho:∀x,d'.own r.D x->r.d.own r.D x):jt B r w {r with d:=d'} w':=by
 refine⟨b.mono fun x a=> .inr (.inl a),⟨?_,hd,fun s c=>?_⟩,fun x a=>?_⟩;exact h.blk.but b h.fB;exact⟨(h.bU s c).1.but b fun x a f=>h.apart c a f,by rw[g];exact(h.bU s c).2⟩;rcases a with e|e|e
 exact .inl<|.inl e;exact .inl<|.inr<|.inl<|ho x e;exact .inl<|.inr<|.inr e
def Dk.gQ(d:Dk):d.lost.M=d.M:=by unfold Dk.lost;split<;>rfl
def Dk.dQ(d:Dk)(D x:Nat)(h:d.lost.own D x):d.own D x:=by
 rcases h with e|e|⟨c,a,e⟩;exact .inl e;exact .inr (.inl<|by rw[<-Dk.gQ];exact e);unfold Dk.lost at a;split at a;exact .inr<|.inr ⟨c,a,e⟩;cases a
def Yz.st{cv:Zv}{r:Sr}{L':Ym}{w w':Zy}{e:Ending}(h:Jq w B r)(g:Yz cv r.D r.d L' w e w'):
  (e= .returned (.tuple #[])/\r.d.stops=bK/\jt B r w {r with d:={r.d.tick with L:=L'}} w')\/(e=eF cv/\r.d.stops=bL/\jt B r w {r with d:=r.d.lost} w'):=by
 obtain⟨f,⟨a,hd,b⟩|⟨a,hd,b⟩⟩:=g;exact .inl ⟨a,b.o,jt.disk h f hd (Dk.eB r.d) fun x c=>(Dk.dS r.d r.D x).1 c⟩;exact .inr ⟨a,b.o,jt.disk h f hd (Dk.gQ r.d) fun x c=>Dk.dQ r.d r.D x c⟩
def Dk.app(d:Dk)(n:Int)(x:Zl):Dk:={d.tick with L:=Yx d.L n (qu d.L n++x,(Vu d.L n).2)}
def Dk.mR(d:Dk)(n:Int):Dk:={d.tick with L:=Yx d.L n (qu d.L n,(qu d.L n).length)}
def Dk.mG(d:Dk)(n:Int)(x:Zl):Dk:={d.tick with L:=Yx d.L n (x,x.length)}
def Dk.rem(d:Dk)(n:Int):Dk:={d.tick with L:=V6 d.L n}
def Dk.cut(d:Dk)(n:Int)(m:Nat):Dk:={d.tick with L:=Yx d.L n ((qu d.L n).take m,((qu d.L n).take m).length)}
def Dk.rG(d:Dk):d.tick.room=d.room:=by unfold Dk.tick;split<;>rfl
def fV.disk{r:Sr}(h:fV B r){L':Ym}(b:r.d.stops=bK)(f:mE L')(g:L'.length<1000000):fV B {r with d:={r.d.tick with L:=L'}} where
 m:=h.m
 mark:=h.mark
 cnt:=h.cnt
 op:=h.op
 room:=by
  show 0<=r.d.tick.room/\r.d.tick.room<=1000000;rw[Dk.rG];exact h.room
 files:=f
 few:=g
 nx:=fun c a=>by
  have a:r.d.tick.nx=bO c:=a;unfold Dk.tick at a;unfold Dk.stops at b;split at a;exact h.nx c a
  rename_i c' hc'
  rw[hc']at b;have:=h.nx c' hc';cases a;simp at b;unfold i64 at*;simp only;omega
 own:=fun x i=>h.own x (by
  rcases i with e|e|e;exact .inl e;exact .inr<|.inl<|(Dk.dS r.d r.D x).1 e;exact .inr<|.inr e)
 bU:=h.bU
def zud(L:Ym):0<=J6 L:=by
 induction L with
 |nil=>simp[J6]
 |cons p L ih=>simp only[J6,xq,Vq]at ih⊢;omega
def Eb(L:Ym)(n:Int):((qu L n).length:Int)<=J6 L:=by
 unfold qu;induction L with
 |nil=>simp[J9,J6]
 |cons p L ih=>
  obtain⟨k,v⟩:=p;have:=zud L;have e:J6 ((k,v)::L)=(v.1.length:Int)+J6 L:=by simp[J6]
  by_cases hk:n=k;simp only[J9,hk,if_true,jv];omega;simp only[J9,hk,if_false];omega
def mE.lay{L:Ym}(h:mE L){n:Int}{f:Zl×Int}(b:i64 n)(a:0<=f.2/\f.2<=(f.1.length:Nat)/\f.1.length<=1000000)(c:L.length<1000000):mE<|Yx L n f:=by
 refine⟨h.each.lay b a, ?_⟩;unfold Yx;split;exact xz (RF _ _) h.cnt;have:=TI L n f;omega
end
end P
namespace P
open A.Tryq Go.RowKit
attribute [local go_sem] xe zv
def Sr.wrote(r:Sr)(s:Jo)(kind:Zl)(ep:Nat)(plain:Zl):Sr:=
 {r with d:=(r.d.app (r.place s).1<|(r.place s).2++Y5 r.m r.mark kind ep r.op r.cnt plain).mR (r.place s).1,cnt:=r.cnt+1,mark:=nH r.m r.mark kind ep r.op r.cnt plain,sn:=bO {s with last:=(r.place s).1}}
def Sr.writes(r:Sr)(s:Jo)(kind:Zl)(ep:Nat)(plain:Zl):Option Int×Sr:=
 if(r.cnt:Int)=r.lim then(bO 10,r)
 else if r.d.room-J6 r.d.L<((r.place s).2.length:Int)+10+plain.length+32 then(bO 9,r)
 else if r.d.stops=bL then(bN,{r with d:=r.d.lost})
 else if(r.d.app (r.place s).1<|(r.place s).2++Y5 r.m r.mark kind ep r.op r.cnt plain).stops=bL then(bN,{r with d:=(r.d.app (r.place s).1<|(r.place s).2++Y5 r.m r.mark kind ep r.op r.cnt plain).lost})
 else(bO 0,r.wrote s kind ep plain)
def FD(cv:Zv):Option Int->Ending
 |some v=> .returned (zi v)
 |none=>eF cv
def b_(r:Sr)(s:Jo):(r.place s).2.length<=9:=by
 unfold Sr.place;split;simp;simp[nE,qt]
def QT(m mark kind:Zl)(ep op cnt:Nat)(plain:Zl)(hk:kind.length=1):(Y5 m mark kind ep op cnt plain).length=42+plain.length:=by
 simp[Y5,Wv,qE,nH,qt,yJ,wP,hk];omega
def MD(m mark kind:Zl)(ep op cnt:Nat)(plain:Zl)(hk:kind.length=1):(Y5 m mark kind ep op cnt plain).drop (10+plain.length)=nH m mark kind ep op cnt plain:=by
 have h:(Wv kind ep op cnt plain.length++qE m kind ep op cnt plain).length=10+plain.length:=by simp[Wv,qE,qt,yJ,hk];omega
 unfold Y5;rw[<-h,Z6];rfl
def dL.step{D:Nat}{d:Dk}(h:dL D d){L':Ym}(b:d.stops=bK)(e:mE L'):dL D {d.tick with L:=L'} where
 files:=e
 nx:=fun c a=>by
  have a:d.tick.nx=bO c:=a;unfold Dk.tick at a;unfold Dk.stops at b;split at a;exact h.nx c a
  rename_i c' hc'
  rw[hc']at b;have:=h.nx c' hc';cases a;simp at b;unfold i64 at*;simp only;omega
 zero:=fun x=>h.zero<|(Dk.dS d D 0).1 x
def jt.counted{B:Nat}{r:Sr}{s:Jo}{w:Zy}{n:Int}{c:Nat}{t:Zl}(h:Jq w B r)(i:r.sn=bO s):
  jt B r w {r with cnt:=c,mark:=t,sn:=bO {s with last:=n}} (((w.setCell (zq s.S 4)<|zi n).setCell (zq B 4)<|zi c).setCell (zq B 5)<|zs t):=by
 obtain⟨k,o⟩:=h.bU s i;have b:s.S≠B:=fun e=>k.blk.ne h.blk (by decide) e;have j:xb (fun x=>x=s.S\/x=B) w<|((w.setCell (zq s.S 4)<|zi n).setCell (zq B 4)<|zi c).setCell (zq B 5)<|zs t:=
  (((xb.set w _ _).mono fun x a=> .inl a).trans<|(xb.set _ _ _).mono fun x a=> .inr a).trans ((xb.set _ _ _).mono fun x a=> .inr a)
 refine⟨j.mono fun x a=>?_,⟨?_, ?_,fun F d=>?_⟩,fun x a=>?_⟩;rcases a with e|e
 exact .inr<|.inr ⟨s,i,.inl e⟩;exact .inl e;have:=((h.blk.other (p:=zq s.S 4) (Ne.symm b)<|zi n).set 4<|zi c).set 5<|zs t;have e:((r.cells).setIfInBounds 4<|zi c).setIfInBounds 5 (zs t)=Sr.cells {r with cnt:=c,mark:=t,sn:=bO {s with last:=n}}:=by
  simp[Sr.cells,Sr.iJ,i]
 rw[e]at this;exact this;refine h.disk.but j fun x a q=>?_;rcases q with e|e
 exact h.apart i (.inl e) a;exact h.fB (by rw[<-e];exact a);cases d;refine⟨⟨?_, ?_, ?_⟩,o⟩;have:=((k.blk.set 4<|zi n).other (p:=zq B 4) b<|zi c).other (p:=zq B 5) b<|zs t;exact this;refine k.map.but j fun a=>?_;obtain⟨H,G,y⟩:=k.map.blk;rcases a with e|e
 exact k.blk.cZ y e.symm;exact h.blk.cZ y e.symm;refine⟨k.pend.1, ?_⟩;rcases k.pend.2 with z|⟨g,l,f,D,C,m,E⟩
 exact .inl z;refine .inr ⟨g,l,f,D,C,(j.block g (za.1 m).1 fun a=>?_).trans m,E⟩;have v:xx w g f 126:=m;rcases a with e|e
 exact k.blk.ne v (by decide) e.symm;exact h.blk.ne v (by decide) e.symm;rcases a with e|e|⟨F,d,a⟩
 exact .inl<|.inl e;exact .inl<|.inr<|.inl e;cases d;exact .inl<|.inr<|.inr ⟨s,i,a⟩
def cH{cv tv:Zv}(B:Nat)(r:Sr)(s:Jo)(kind:Zl)(ep:Nat)(plain:Zl)(w:Zy)(h:Jq w B r)(hs:r.sn=bO s)(W:fV B r)(hG:iA cv tv w)(bb:kind.length=1)(bd:plain.length<=4000):
  bE prog 65 #[zo B,zs kind,zi ep,zs plain] w fun e w'=>∃a r',r.writes s kind ep plain=(a,r')/\e=FD cv a/\jt B r w r' w':=by
 have HH:=zl h;have i:=zl W;have HG:=zl hG;have J:=zl hs;have H:=zl bb;have c1:w.cell? (zq B 1)=bO (zi r.lim):=h.blk.cell 1 rfl;have c4:w.cell? (zq B 4)=bO (zi r.cnt):=h.blk.cell 4 rfl;clear h W hG hs;go_enter func65.1,Tryz.ntmps65;by_cases c:(r.cnt:Int)=r.lim
 ·have HR:Hid<|r.writes s kind ep plain=(bO 10,r):=by show _=_;unfold Sr.writes;rw[aA c]
  rw[<-c]at c1;clear c
  go_wp2_with fail
  go_quiet (fail)
  go_wp2_with fail
  go_ret
  exact⟨_,_,HR.o,rfl,⟨(xb.refl _ _).drewN',HH.o.but ((xb.refl _ _).drewN') fun _ _=>id,fun x G=> .inl G⟩⟩
 have bc:decide ((r.cnt:Int)=r.lim)=bK:=by simpa using c
 have p:=zl c
 go_wp2_with fail
 go_quiet (fail)
 have T0:Hid<|jt B r w r<|w.drewN nq:=⟨(xb.refl _ _).drewN',HH.o.but ((xb.refl _ _).drewN') fun _ _=>id,fun x G=> .inl G⟩;have G0:Hid<|iA cv tv<|w.drewN nq:=HG.o.but (S:=fun _=>False) ((xb.refl _ _).drewN') fun _ x=>x.elim;clear c1 c4;generalize w.drewN nq=w0 at*
 go_wp2_with fail
 refine(Hh B r s _ T0.o.at_ J.o (i.o.bU s J.o).1 (i.o.bU s J.o).2.1<|by have:=i.o.cnt;omega).mono ?_;rintro e w1 ⟨rfl,z⟩;have T1:=zl<|T0.o.trans ⟨z.mono fun _ x=>x.elim,T0.o.at_.but z fun _ _=>id,fun x G=> .inl G⟩;have G1:=zl<|G0.o.but z fun _ x=>x.elim;obtain⟨j,E⟩:∃j,(r.place s).1=j:=⟨_,rfl⟩;obtain⟨n,C⟩:∃n,(r.place s).2=n:=⟨_,rfl⟩;have bg:n.length<=9:=by rw[<-C];exact b_ r s
 rw[E,C];have I:=zl E;have T:Hid<|j<=2000000000000:=by
  show j<=_;rw[<-E];have:=(i.o.bU s J.o).2.1;unfold Sr.place;split<;>simp only<;>omega
 have k:=zl C;have c2:w1.cell? (zq B 2)=bO (zo r.D):=T1.o.at_.blk.cell 2 rfl;clear z T0 G0 E C bc c
 go_wp2_with fail
 refine(Az r.D r.d _ T1.o.at_.disk i.o.files (by have:=i.o.room;omega)<|by have:=i.o.room;omega).mono ?_;rintro e w2 ⟨rfl,v⟩;have T2:=zl<|T1.o.trans ⟨xb.of_below v,T1.o.at_.but (xb.of_below v) fun _ _=>id,fun x G=> .inl G⟩;have G2:=zl<|G1.o.but (S:=fun _=>False) (xb.of_below v) fun _ x=>x.elim;clear v T1 G1 c2;obtain⟨fr,O⟩:∃fr,r.d.room-J6 r.d.L=fr:=⟨_,rfl⟩;have l:=zl O;rw[O];clear O;by_cases Z:fr<(n.length:Int)+10+plain.length+32
 ·have HR:Hid<|r.writes s kind ep plain=(bO 9,r):=by show _=_;unfold Sr.writes;rw[aB p.o,aA<|by rw[l.o,k.o];exact Z]
  go_wp2_with fail
  go_ret
  exact⟨_,_,HR.o,rfl,T2.o⟩
 have bh:(n.length:Int)+10+plain.length+32<=fr:=by omega
 have d3:w2.cell? (zq B 3)=bO (zs r.m):=T2.o.at_.blk.cell 3 rfl;have d4:w2.cell? (zq B 4)=bO (zi r.cnt):=T2.o.at_.blk.cell 4 rfl;have d5:w2.cell? (zq B 5)=bO (zs r.mark):=T2.o.at_.blk.cell 5 rfl;have d6:w2.cell? (zq B 6)=bO (zi r.op):=T2.o.at_.blk.cell 6 rfl;clear Z
 go_wp2_with fail
 refine(MY r.m _ kind ep r.op r.cnt plain i.o.m i.o.mark H.o bd (by have:=i.o.cnt;omega) _ G2.o.tab).mono ?_;rintro e w3 ⟨rfl,y⟩;have Q:=zl<|T2.o.trans ⟨xb.of_below y,T2.o.at_.but (xb.of_below y) fun _ _=>id,fun x G=> .inl G⟩;have G3:=zl<|G2.o.but (S:=fun _=>False) (xb.of_below y) fun _ x=>x.elim;obtain⟨o,F⟩:∃o,Y5 r.m r.mark kind ep r.op r.cnt plain=o:=⟨_,rfl⟩;have be:o.length=42+plain.length:=by rw[<-F];exact QT _ _ _ _ _ _ _ H.o
 have q:=zl F;rw[F];have e2:w3.cell? (zq B 2)=bO (zo r.D):=Q.o.at_.blk.cell 2 rfl;clear y T2 G2 d3 d4 d5 d6 F
 go_wp2_with fail
 refine(Qm r.D r.d _ _ (by simp only[zj];omega) _ Q.o.at_.disk i.o.FU G3.o.FT).mono ?_;intro e w4 X;rcases X.st Q.o.at_ with⟨rfl,b,g⟩|⟨rfl,b,g⟩
 rotate_left;refine⟨rfl,bN,{r with d:=r.d.lost}, ?_,rfl,Q.o.trans g⟩;unfold Sr.writes;rw[aB p.o,aB<|by rw[l.o,k.o];omega,aA b];have K:Hid<|jt B r w {r with d:=r.d.app (j:Int)<|n++o} w4:=Q.o.trans g;have G4:=zl<|HG.o.but K.o.but i.o.own;have U:=zl b;have R:Hid<|dL r.D<|r.d.app (j:Int)<|n++o:=by
  refine i.o.FU.step b<|i.o.files.lay ⟨by omega,by have:=T.o;omega⟩ ?_ i.o.few;have h1:=i.o.files.each.dat (j:Int);have h2:=Eb r.d.L (j:Int);have h3:=l.o;have h4:=i.o.room;have h5:(Vu r.d.L (j:Int)).1.length=(qu r.d.L (j:Int)).length:=rfl;simp only[zj];omega
 have f2:w4.cell? (zq B 2)=bO (zo r.D):=K.o.at_.blk.cell 2 rfl;clear g b X Q G3 e2
 go_wp2_with fail
 refine(Tn r.D (r.d.app _ _) _ _ K.o.at_.disk R.o G4.o.FT).mono ?_;intro e w5 Y;rcases Y.st (r:={r with d:=r.d.app (j:Int)<|n++o}) K.o.at_ with⟨rfl,b,g⟩|⟨rfl,b,g⟩
 rotate_left;refine⟨rfl,bN,{r with d:=(r.d.app _ _).lost}, ?_,rfl,K.o.trans g⟩;unfold Sr.writes;rw[aB p.o,aB<|by rw[l.o,k.o];omega,aB<|by rw[U.o];decide,I.o,k.o,q.o,aA b];have t:Hid<|jt B r w {r with d:=(r.d.app (j:Int)<|n++o).mR (j:Int)} w5:=K.o.trans g;have V:Hid<|(r.d.app (j:Int)<|n++o).stops=bK:=b;clear g b Y K G4 f2;have f:=(t.o.at_.bU s J.o).1;have g7:w5.cell? (zq B 7)=bO (zo s.S):=by rw[t.o.at_.blk.cell 7 rfl];simp[Sr.cells,Sr.iJ,J.o]
 have g4:w5.cell? (zq B 4)=bO (zi r.cnt):=t.o.at_.blk.cell 4 rfl;have g5:w5.cell? (zq B 5)=bO (zs r.mark):=t.o.at_.blk.cell 5 rfl;have k4:=t.o.at_.blk.bT 4;have k5:=t.o.at_.blk.bT 5;have s4:w5.cell? (zq s.S 4)=bO (zi s.last):=f.blk.cell 4 rfl;have j4:=f.blk.bT 4;have ba:¬s.S=B:=fun e=>f.blk.ne t.o.at_.blk (by decide) e;have bi:¬B=s.S:=fun e=>ba e.symm;clear f
 go_wp2_with fail
 have bf:wrap64 ((r.cnt:Int)+1)=((r.cnt+1:Nat):Int):=by have:=i.o.cnt;unfold wrap64;omega
 have M:(st o).extract (42+plain.length-32) (42+plain.length)=st (nH r.m r.mark kind ep r.op r.cnt plain):=by
  rw[<-MD r.m r.mark kind ep r.op r.cnt plain H.o,q.o,<-be,J_,show o.length-32=10+plain.length by omega]
 rw[bf,M]
 go_ret
 refine⟨bO 0,r.wrote s kind ep plain, ?_,rfl,t.o.trans ?_⟩;unfold Sr.writes;rw[aB p.o,aB<|by rw[l.o,k.o];omega,aB<|by rw[U.o];decide,I.o,k.o,q.o,aB<|by rw[V.o];decide];have hw:r.wrote s kind ep plain={{r with d:=(r.d.app (j:Int)<|n++o).mR (j:Int)}with cnt:=r.cnt+1,mark:=nH r.m r.mark kind ep r.op r.cnt plain,sn:=bO {s with last:=(j:Int)}}:=by
  unfold Sr.wrote;rw[I.o,k.o,q.o]
 rw[hw];exact jt.counted t.o.at_ J.o
def jA(k:Lk):List Int->Dk->Bool×Dk
 |[],d=>(bL,d)
 |n::ns,d=>if pJ k n=bL then jA k ns d else if d.stops=bL then(bK,d.lost)else jA k ns (d.rem n)
def mE.del{L:Ym}(h:mE L)(n:Int):mE<|V6 L n:=⟨fun p a=>h.each p<|EM a,xz (RF _ _) h.cnt⟩
def Dk.jE(d:Dk)(n:Int)(D x:Nat):(d.rem n).own D x↔d.own D x:=Dk.dS d D x
def Dk.GD(d:Dk)(n:Int):(d.rem n).M=d.M:=Dk.eB d
def qC(k:Lk)(d:Dk):Bool×Lk×Dk:=((jA k (Xs d.L) d).1,k,(jA k (Xs d.L) d).2)
def Xi(k:Lk)(d:Dk):Bool×Lk×Dk:=
 if k.dD=bL/\0<k.whole then(if d.stops=bL then(bK,k,d.lost)else qC k (d.cut k.last k.whole.toNat))
 else if k.dD=bL then(if d.stops=bL then(bK,k,d.lost)else qC {k with last:=k.last-1} (d.rem k.last))
 else qC k d
def E5(cv:Zv)(b:Nat)(D:Nat)(d0:Dk)(w:Zy)(x:Bool×Lk×Dk)(e:Ending)(w':Zy):Prop:=
 e=(if x.1=bL then .returned (.tuple #[])else eF cv)/\xb (fun y=>y=b\/d0.own D y) w w'/\Xa w' b x.2.1/\Xg w' D x.2.2/\(∀y,x.2.2.own D y->d0.own D y)
structure MJ(w:Zy)(b D:Nat)(d:Dk)(k kk:Lk)(dd:Dk)(ww:Zy):Prop where
 M:Xi k d=qC kk dd
 A:Xg ww D dd
 L:Xa ww b kk
 K:dL D dd
 O:∀y,dd.own D y->d.own D y
 B:xb (fun y=>y=b\/d.own D y) w ww
def xnf{cv:Zv}(b:Nat)(k:Lk)(D:Nat)(d:Dk)(w:Zy)(hl:Xa w b k)(hd:Xg w D d)(hk:dL D d)(cc:d.L.length<1000000)(hG:mJ cv w)(C:¬d.own D b)(cd:b≠0)
  (hw:k.dD=bL->0<=k.whole/\k.whole<=((qu d.L k.last).length:Nat))(cm:-1000000000000<=k.last/\k.last<=1000000000000):
  bE prog 68 #[.pointer<|bO ⟨b,0,bN⟩,.pointer<|bO ⟨D,0,bN⟩] w (E5 cv b D d w<|Xi k d):=by
 have HL:Hid<|Xa w b k:=hl;have HD:Hid<|Xg w D d:=hd;have Q:Hid<|dL D d:=hk;have HG:Hid<|mJ cv w:=hG;have HW:Hid<|k.dD=bL->0<=k.whole/\k.whole<=((qu d.L k.last).length:Nat):=hw;have bh:w.cell? ⟨b,15,bN⟩=bO (.bool k.dD):=hl.cell 15 rfl;have T:w.cell? ⟨b,16,bN⟩=bO (.int .i64 k.whole):=hl.cell 16 rfl;have br:w.cell? ⟨b,12,bN⟩=bO (.int .i64 k.last):=hl.cell 12 rfl;clear hl hd hk hG hw;go_enter func68.1,Tryz.ntmps68;cases htn:k.dD
 focus
  rw[htn]at bh;have Y:Hid<|Xi k d=qC k d:=by show _=_;unfold Xi;rw[aB<|by rw[htn];simp,aB<|by rw[htn];simp]
  have X:Hid<|Xg w D d:=HD.o;have LA:Hid<|Xa w b k:=HL.o;have Z:Hid<|dL D d:=Q.o;have OA:Hid<|∀y,d.own D y->d.own D y:=fun _ h=>h;have W:Hid<|xb (fun y=>y=b\/d.own D y) w w:=xb.refl _ _;clear htn
  go_wp2_with fail
  refine kN fun ww hw=>?_;obtain⟨o,s,H⟩:∃o s,MJ w b D d k o s ww:=⟨_,_,Y.o,hw▸X.o,hw▸LA.o,Z.o,OA.o,hw▸W.o⟩;clear hw Y X LA Z OA W
 rotate_left
 focus
  rw[htn]at bh;obtain⟨bz,b0⟩:=HW.o htn;by_cases E:0<k.whole
  focus
   obtain⟨z,bj⟩:∃z:Nat,k.whole=(z:Int):=⟨k.whole.toNat,by omega⟩;have ca:Hid<|k.whole.toNat=z:=by show _=_;omega
   rw[bj]at T;have I:Hid<|d.stops=bK->Xi k d=qC k (d.cut k.last z):=fun a=>by unfold Xi;rw[aA ⟨htn,E⟩,aB<|by rw[a];decide,ca.o]
   have v:Hid<|∀c,xb (d.own D) w c->Xg c D d.lost->d.stops=bL->E5 cv b D d w (Xi k d) (eF cv) c:=fun c h1 h2 h3=>by
    have:Xi k d=(bK,k,d.lost):=by unfold Xi;rw[aA ⟨htn,E⟩,aA h3]
    rw[this];exact⟨rfl,h1.mono fun y m=> .inr m,xx.but HL.o h1 C,h2,fun y m=>Dk.dQ d D y m⟩
   have CU:Hid<|∀w1,Nw w w1->bE prog 108 #[.pointer<|bO ⟨D,0,bN⟩,.int .i64 k.last,.int .i64 (z:Int)] w1 (Yz cv D d (Yx d.L k.last ((qu d.L k.last).take z,((qu d.L k.last).take z).length)) w1):=fun w1 h=>xpq D d _ z w1 (HD.o.but h fun _ _=>id) Q.o (HG.o.but h id) (by omega);have S0:w.cell? ⟨b,12,bN⟩=bO (.int .i64 k.last)/\w.cell? ⟨b,16,bN⟩=bO (.int .i64 (z:Int)):=⟨br,T⟩;have b1:(0:Int)<(z:Int):=by omega
   have bo:Hid<|Xa w b k:=HL.o;have bq:Hid<|∀c,Xa c b k->c.cell? ⟨b,12,bN⟩=bO (.int .i64 k.last)/\c.cell? ⟨b,16,bN⟩=bO (.int .i64 (z:Int)):=fun c J=>⟨J.cell 12 rfl,by rw[<-bj];exact J.cell 16 rfl⟩;clear bj bz b0
   go_wp2_with fail
   go_region_held2 (fun w'=>w'.cell? ⟨b,12,bN⟩=bO (.int .i64 k.last)/\w'.cell? ⟨b,16,bN⟩=bO (.int .i64 (z:Int))) (first|exact S0|exact S1)
    ((go_at_call 108;refine(CU.o _ (xb.refl _ _).drew).mono ?_;rintro e c ⟨f,⟨rfl,l,a⟩|⟨rfl,l,a⟩⟩;rotate_left;(exact⟨rfl,v.o _ ((xb.refl _ _).drew.trans f) l a.o⟩);have bd:Hid<|xb (d.own D) w c:=(xb.refl _ _).drew.trans f;have bk:Hid<|Xg c D<|d.cut k.last z:=l;have bg:Hid<|d.stops=bK:=a.o;have J:Xa c b k:=xx.but bo.o bd.o C;have S1:=bq.o c J))
   have Y:Hid<|Xi k d=qC k (d.cut k.last z):=I.o bg.o;have X:Hid<|Xg c D<|d.cut k.last z:=bk.o;have LA:Hid<|Xa c b k:=J;have Z:Hid<|dL D<|d.cut k.last z:=Q.o.step bg.o<|Q.o.files.lay (by unfold i64;omega) (by have h1:=Q.o.files.each.dat k.last;have h5:(Vu d.L k.last).1.length=(qu d.L k.last).length:=rfl;simp only[xt];omega) cc;have OA:Hid<|∀y,(d.cut k.last z).own D y->d.own D y:=fun y m=>(Dk.dS d D y).1 m;have W:Hid<|xb (fun y=>y=b\/d.own D y) w c:=bd.o.mono fun y m=> .inr m;clear v I CU S0 S1 bq J bk bd bg bo b1 E htn br bh T
   try clear hHeld
   go_wp2_with fail
   refine kN fun ww hw=>?_;obtain⟨o,s,H⟩:∃o s,MJ w b D d k o s ww:=⟨_,_,Y.o,hw▸X.o,hw▸LA.o,Z.o,OA.o,hw▸W.o⟩;clear hw Y X LA Z OA W
  rotate_left
  focus
   have bc:k.whole=0:=by omega
   rw[bc]at T;have I:Hid<|d.stops=bK->Xi k d=qC {k with last:=k.last-1} (d.rem k.last):=fun a=>by unfold Xi;rw[aB fun x=>E x.2,aA htn,aB<|by rw[a];decide]
   have v:Hid<|∀c,xb (d.own D) w c->Xg c D d.lost->d.stops=bL->E5 cv b D d w (Xi k d) (eF cv) c:=fun c h1 h2 h3=>by
    have:Xi k d=(bK,k,d.lost):=by unfold Xi;rw[aB fun x=>E x.2,aA htn,aA h3]
    rw[this];exact⟨rfl,h1.mono fun y m=> .inr m,xx.but HL.o h1 C,h2,fun y m=>Dk.dQ d D y m⟩
   clear bz b0 E bc htn
   go_wp2_with fail
   refine(f_ D d _ _ HD.o Q.o HG.o).mono ?_;rintro e c ⟨f,⟨rfl,l,a⟩|⟨rfl,l,a⟩⟩;rotate_left;exact⟨rfl,v.o _ f l a.o⟩;have J:Xa c b k:=xx.but HL.o f C;have Y:Hid<|Xi k d=qC {k with last:=k.last-1} (d.rem k.last):=I.o a.o;have ci:c.cell? ⟨b,12,bN⟩=bO (.int .i64 k.last):=J.cell 12 rfl;have cj:=J.bT 12;have X:Hid<|Xg (c.setCell ⟨b,12,bN⟩<|.int .i64<|k.last-1) D<|d.rem k.last:=l.but (xb.set c _ _) fun x hx e=>C (by have e:x=b:=e;rw[<-e];exact(Dk.jE d _ D x).1 hx);have LA:Hid<|Xa (c.setCell ⟨b,12,bN⟩<|.int .i64<|k.last-1) b {k with last:=k.last-1}:=xx.set J 12 _;have Z:Hid<|dL D<|d.rem k.last:=Q.o.step a.o<|Q.o.files.del _;have OA:Hid<|∀y,(d.rem k.last).own D y->d.own D y:=fun y m=>(Dk.jE d _ D y).1 m;have W:Hid<|xb (fun y=>y=b\/d.own D y) w<|c.setCell ⟨b,12,bN⟩<|.int .i64<|k.last-1:=(f.mono fun y m=> .inr m).trans<|(xb.set c _ _).mono fun y m=> .inl m;have i1:-9223372036854775808<=k.last-1:=by omega
   have i2:k.last-1<=9223372036854775807:=by omega
   clear f l a J v I
   go_wp2_with fail
   refine kN fun ww hw=>?_;obtain⟨o,s,H⟩:∃o s,MJ w b D d k o s ww:=⟨_,_,Y.o,hw▸X.o,hw▸LA.o,Z.o,OA.o,hw▸W.o⟩;clear hw Y X LA Z OA W
 all_goals
  replace H:=zl H;refine(QK D s ww H.o.A H.o.K.files).mono ?_;rintro e w1 ⟨p,g,ch,rfl,hp,hg,bb,U⟩;have HP:Hid<|Xs s.L≠[]->p=bO ⟨g,0,bN⟩:=hp;have HR:Hid<|DK w1 g<|Xs s.L:=bb;have b3:Hid<|xb (fun y=>y=b\/d.own D y) w w1:=H.o.B.trans<|xb.of_below U;have b2:Hid<|Xg w1 D s:=H.o.A.but (xb.of_below U) fun _ _=>id;have cb:Hid<|Xa w1 b o:=xx.below H.o.L U;have bn:Hid<|(Xs s.L).length<=1000000:=by show _<=_;rw[yZ];exact H.o.K.files.cnt
  have bu:¬d.own D g:=fun x=>by have:=Dk.bX HD.o x;have:=H.o.B.size;omega
  have cl:g≠b:=by have:=HL.o.lt;have:=H.o.B.size;omega
  have b6:Hid<|¬d.own D g:=bu;clear hp bb U bu;obtain⟨r,bi⟩:∃r,Xs s.L=r:=⟨_,rfl⟩;have bp:Hid<|Xs s.L=r:=bi;rw[bi]at HP HR bn⊢;clear bi
  go_wp2_with fail
  go_loopw [47] (fun i wr=>∃(j:Nat) (q:Dk),j<=r.length/\i= .int .i64 j/\xb (fun y=>y=b\/d.own D y) w wr/\xb (fun y=>d.own D y) w1 wr/\Xa wr b o/\Xg wr D q/\dL D q/\(∀y,q.own D y->d.own D y)/\jA o (r.drop j) q=jA o r s) (fun i _=>(r.length-aJ i).toNat)
  case atStart=>exact⟨0,s,by omega,rfl,b3.o,xb.refl _ _,cb.o,b2.o,H.o.K,H.o.O,rfl⟩
  case round=>
   obtain⟨j,q,hj,rfl,hb,bs,bv,bt,bx,ba,bw⟩:=hrel;have ck:=bn.o;have F:Hid<|xb (fun y=>y=b\/d.own D y) w wr:=hb;have be:Hid<|xb (fun y=>d.own D y) w1 wr:=bs;have G:Hid<|Xa wr b o:=bv;have bf:Hid<|Xg wr D q:=bt;have R:Hid<|dL D q:=bx;have t:Hid<|∀y,q.own D y->d.own D y:=ba;have S:Hid<|jA o (r.drop j) q=jA o r s:=bw;clear hb bs bv bt bx ba bw;by_cases V:j<r.length
   ·have i1:(j:Int)<(r.length:Nat):=by omega
    have i0:(0:Int)<=(j:Int):=by omega
    have cf:=HP.o (fun e=>by rw[e]at V;simp at V);subst cf;have hc:=(HR.o.but be.o b6.o) j V;have bm:Hid (r.drop j=r[j]::r.drop (j+1)):=Vd V;generalize r[j]=n at*
    go_wp2_with fail
    refine(zzq b o n _ G.o).mono ?_;rintro e w2 ⟨rfl,cg⟩;obtain rfl:wr=w2:=cg.symm;cases hbl:pJ o n with
    |true=>
     have HN:Hid<|jA o (r.drop<|j+1) q=jA o r s:=by
      show _=_;rw[<-S.o,bm.o];simp only[jA,hbl,if_true]
     clear hbl
     go_wp2_with fail
     go_roundw
     case rel=>exact⟨j+1,q,by omega,by go_num,F.o,be.o,G.o,bf.o,R.o,t.o,HN.o⟩
     case measure=>simp[aJ];omega
    |false=>
     have HN:Hid<|jA o (r.drop j) q=if q.stops=bL then(bK,q.lost)else jA o (r.drop<|j+1) (q.rem n):=by
      show _=_;rw[bm.o];simp only[jA,hbl,xu,if_false]
     clear hbl;have GR:Hid<|mJ cv wr:=HG.o.but F.o fun x=>by rcases x with x|x;exact cd x.symm;exact Q.o.zero x
     go_wp2_with fail
     refine(f_ D q n _ bf.o R.o GR.o).mono ?_;rintro e c ⟨f,⟨rfl,l,a⟩|⟨rfl,l,a⟩⟩;rotate_left;refine⟨rfl, ?_⟩;rw[H.o.M];have hm:jA o r s=(bK,q.lost):=by rw[<-S.o,HN.o,aA a.o]
     unfold qC;rw[bp.o,hm];exact⟨rfl,F.o.trans<|f.mono fun y m=> .inr (t.o y m),xx.but G.o f fun x=>C<|t.o _ x,l,fun y m=>t.o y<|Dk.dQ q D y m⟩;have b4:Hid<|xb (fun y=>y=b\/d.own D y) w c:=F.o.trans<|f.mono fun y m=> .inr (t.o y m);have bl:Hid<|xb (fun y=>d.own D y) w1 c:=be.o.trans<|f.mono fun y m=>t.o y m;have b8:Hid<|Xa c b o:=xx.but G.o f fun x=>C<|t.o _ x;have b5:Hid<|Xg c D<|q.rem n:=l;have b7:Hid<|dL D<|q.rem n:=R.o.step a.o<|R.o.files.del n;have b9:Hid<|jA o (r.drop<|j+1) (q.rem n)=jA o r s:=by show _=_;rw[<-S.o,HN.o,aB<|by rw[a.o];decide]
     clear f l a
     go_wp2_with fail
     go_roundw
     case rel=>exact⟨j+1,q.rem n,by omega,by go_num,b4.o,bl.o,b8.o,b5.o,b7.o,fun y m=>t.o y<|(Dk.jE q n D y).1 m,b9.o⟩
     case measure=>simp[aJ];omega
   have ce:j=r.length:=by omega
   subst ce;have HF:Hid<|jA o r s=(bL,q):=by show _=_;rw[<-S.o,List.drop_length];rfl
   go_wp2_with fail
   go_end0
   rw[H.o.M];unfold qC;rw[bp.o,HF.o];exact⟨rfl,F.o,G.o,bf.o,t.o⟩
def lX(k v:Zl):Zl:=nb k.length 1++(nb v.length 1++(k++v))
def rA:dM->Zl
 | .put k v=>80::lX k v
 | .del k=>68::(nb k.length 1++k)
def Np(k v:Zl)(hk:k.length<=1000000)(t:v.length<=1000000)(w:Zy):bE prog 173 #[.agg #[zs k,zs v]] w fun e w'=>e= .returned (zs<|lX k v)/\bC w.heap.size w w':=by
 have l1:=qt k.length 1;have x:=qt v.length 1;have W0:Hid<|bC w.heap.size w<|w.alloc<|.cells #[zs k,zs v] 86:=(zr _ _).alloc (ze _) _;have c:Hid<|xx (w.alloc<|.cells #[zs k,zs v] 86) w.heap.size #[zs k,zs v] 86:=xx.new _ _ _;have g:¬9223372036854775807<1+1+k.length:=by omega
 have i:¬9223372036854775807<2+k.length:=by omega
 have j:¬9223372036854775807<1+(1+k.length):=by omega
 have l:¬9223372036854775807<1+1+k.length+v.length:=by omega
 have m:¬9223372036854775807<2+k.length+v.length:=by omega
 have n:¬9223372036854775807<1+(1+k.length)+v.length:=by omega
 have o:¬9223372036854775807<1+(1+(k.length+v.length)):=by omega
 have p:¬9223372036854775807<2+(k.length+v.length):=by omega
 have q:¬9223372036854775807<1+1+(k.length+v.length):=by omega
 go_enter func173.1,Tryz.ntmps173
 go_wp2_with fail
 generalize w.alloc (.cells #[zs k,zs v] 86)=W at*;have a:Hid<|∀w1,bC W.heap.size W w1->w1.cell? (zq w.heap.size 0)=bO (zs k)/\w1.cell? (zq w.heap.size 1)=bO (zs v):=fun w1 h=>⟨(c.o.below h).cell 0 rfl,(c.o.below h).cell 1 rfl⟩;have d:=a.o W<|zr _ _;have b:Hid<|bC W.heap.size W W.drew:=(zr _ _).drew
 go_region_held3 (fun w'=>w'.cell? (zq w.heap.size 0)=bO (zs k)/\w'.cell? (zq w.heap.size 1)=bO (zs v)) (first|exact d|exact f)
  ((go_at_call 153;refine(LV _ _).mono ?_;rintro e w1 ⟨rfl,s⟩;replace b:=zl<|Yg b.o s;have f:=a.o _ b.o))
 have r:=zl<|W0.o.trans<|b.o.mono W0.o.size;clear d a b c W0;clear f
 try clear hHeld
 go_wp2_with fail
 go_ret
 exact⟨by simp only[lX,Zq];rfl,r.o⟩
def tG(k v:Zl)(hk:k.length<=1000000)(c:v.length<=1000000)(w:Zy):bE prog 324 #[.agg #[.string<|st k,.string<|st v]] w fun e w'=>e= .returned (.string<|st (80::lX k v))/\bC w.heap.size w w':=by
 have b:Hid<|(⟨#[80]⟩:ByteArray)++st (lX k v)=st (80::lX k v):=by show _=_;rw[show(⟨#[80]⟩:ByteArray)=st [80]from rfl,zv];rfl
 have d:(lX k v).length<=2000002:=by simp[lX,qt];omega
 go_enter func324.1,Tryz.ntmps324
 go_wp2_with fail
 refine(Np k v hk c _).mono ?_;rintro e w1 ⟨rfl,a⟩
 go_wp2_with fail
 go_ret
 exact⟨by rw[<-b.o];rfl,((zr _ _).alloc (ze _) _).trans<|a.mono<|by simp⟩
def zz1(k:Zl)(hk:k.length<=1000000)(w:Zy):bE prog 325 #[.agg #[.string<|st k]] w fun e w'=>e= .returned (.string<|st (68::(nb k.length 1++k)))/\bC w.heap.size w w':=by
 have l1:=qt k.length 1;have l:Hid<|((⟨#[68]⟩:ByteArray)++st (nb k.length 1))++st k=st (68::(nb k.length 1++k)):=by show _=_;rw[show(⟨#[68]⟩:ByteArray)=st [68]from rfl,zv,zv];rfl
 have W0:Hid<|bC w.heap.size w<|w.alloc<|.cells #[.string<|st k] 88:=(zr _ _).alloc (ze _) _;have c:Hid<|xx (w.alloc<|.cells #[.string<|st k] 88) w.heap.size #[.string<|st k] 88:=xx.new _ _ _;have g:¬9223372036854775807<1+1+k.length:=by omega
 have i:¬9223372036854775807<2+k.length:=by omega
 have j:¬9223372036854775807<1+(1+k.length):=by omega
 go_enter func325.1,Tryz.ntmps325
 go_wp2_with fail
 generalize w.alloc (.cells #[.string<|st k] 88)=W at*;have a:Hid<|∀w1,bC W.heap.size W w1->w1.cell? ⟨w.heap.size,0,bN⟩=bO (.string<|st k):=fun w1 h=>(c.o.below h).cell 0 rfl;have d:=a.o W<|zr _ _;have b:Hid<|bC W.heap.size W W.drew:=(zr _ _).drew
 go_region_held3 (fun w'=>w'.cell? ⟨w.heap.size,0,bN⟩=bO (.string<|st k)) (first|exact d|exact f)
  ((go_at_call 153;refine(LV _ _).mono ?_;rintro e w1 ⟨rfl,n⟩;replace b:=zl<|Yg b.o n;have f:=a.o _ b.o))
 have m:=zl<|W0.o.trans<|b.o.mono W0.o.size;clear d a b c W0;clear f
 try clear hHeld
 go_wp2_with fail
 go_ret
 exact⟨by rw[<-l.o];rfl,m.o⟩
structure Mf where
 ep:Nat
 op:Nat
 cnt:Nat
 bP:Nat
 base:Nat
 file:Nat
 len:Nat
 root:Zl
 last:Zl
def Mf.cells(m:Mf):Za:=#[.int .i64 (m.ep:Int),.int .i64 (m.op:Int),.int .i64 (m.cnt:Int),.int .i64 (m.bP:Int),.int .i64 (m.base:Int),.int .i64 (m.file:Int),.int .i64 (m.len:Int),.string<|st m.root,.string<|st m.last]
def Mf.V(m:Mf):Zv:= .agg m.cells
def Mf.fH(m:Mf)(i:Nat):Zl:=67::(nb m.ep 1++(nb m.op 2++(nb m.bP 2++nb i 2)))
abbrev MC(b:Nat)(m:Mf)(rt:Zl)(w:Zy):Prop:=w.cell? (zq b 0)=bO (zi m.ep)/\w.cell? (zq b 1)=bO (zi m.op)/\w.cell? (zq b 2)=bO (zi m.cnt)/\w.cell? (zq b 3)=bO (zi m.bP)/\w.cell? (zq b 4)=bO (zi m.base)/\w.cell? (zq b 5)=bO (zi m.file)/\w.cell? (zq b 6)=bO (zi m.len)/\w.cell? (zq b 7)=bO (zs rt)/\w.cell? (zq b 8)=bO (zs m.last)
def xx.mc{w:Zy}{b:Nat}{m:Mf}{rt:Zl}(h:xx w b #[zi m.ep,zi m.op,zi m.cnt,zi m.bP,zi m.base,zi m.file,zi m.len,zs rt,zs m.last] 185):MC b m rt w:=⟨h.cell 0 rfl,h.cell 1 rfl,h.cell 2 rfl,h.cell 3 rfl,h.cell 4 rfl,h.cell 5 rfl,h.cell 6 rfl,h.cell 7 rfl,h.cell 8 rfl⟩
def I2(m:Mf)(i:Nat)(w:Zy):bE prog 175 #[m.V,.int .i64 (i:Int)] w fun e w'=>e= .returned (.string<|st<|m.fH i)/\bC w.heap.size w w':=by
 have l1:=qt m.ep 1;have l:=qt m.op 2;have n:=qt m.bP 2;have o:=qt i 2;have j:Hid<|(⟨#[67]⟩:ByteArray)++st (nb m.ep 1)++st (nb m.op 2)++st (nb m.bP 2)++st (nb i 2)=st (m.fH i):=by show _=_;rw[show(⟨#[67]⟩:ByteArray)=st [67]from rfl];simp only[zv];simp[Mf.fH]
 have W0:Hid<|bC w.heap.size w<|w.alloc<|.cells m.cells 185:=(zr _ _).alloc (ze _) _;have c:Hid<|xx (w.alloc<|.cells m.cells 185) w.heap.size m.cells 185:=xx.new _ _ _;unfold Mf.V;unfold Mf.cells at*;go_enter func175.1,Tryz.ntmps175
 go_wp2_with fail
 generalize w.alloc (.cells _ 185)=W at*;have a:Hid<|∀w1,bC W.heap.size W w1->w1.cell? ⟨w.heap.size,0,bN⟩=bO (.int .i64 (m.ep:Int))/\w1.cell? ⟨w.heap.size,1,bN⟩=bO (.int .i64 (m.op:Int))/\w1.cell? ⟨w.heap.size,3,bN⟩=bO (.int .i64 (m.bP:Int)):=fun w1 h=>⟨(c.o.below h).cell 0 rfl,(c.o.below h).cell 1 rfl,(c.o.below h).cell 3 rfl⟩;have g:=a.o W<|zr _ _;have b:Hid<|bC W.heap.size W W.drew:=(zr _ _).drew
 go_region_held3 (fun w'=>w'.cell? ⟨w.heap.size,0,bN⟩=bO (.int .i64 (m.ep:Int))/\w'.cell? ⟨w.heap.size,1,bN⟩=bO (.int .i64 (m.op:Int))/\w'.cell? ⟨w.heap.size,3,bN⟩=bO (.int .i64 (m.bP:Int))) (first|exact g|exact d)
  (first
   |(go_at_call 153;refine(LV _ _).mono ?_;rintro e w1 ⟨rfl,f⟩;replace b:=zl<|Yg b.o f;have d:=a.o _ b.o)
   |(go_at_call 154;refine(RV _ _).mono ?_;rintro e w1 ⟨rfl,f⟩;replace b:=zl<|Yg b.o f;have d:=a.o _ b.o))
 have k:=zl<|W0.o.trans<|b.o.mono W0.o.size;clear g a b c W0;clear d
 try clear hHeld
 go_wp2_with fail
 go_ret
 exact⟨by rw[<-j.o];rfl,k.o⟩
def Ye(n:Int):Nat:=if n=10001 then 10002 else 10001
def Ha(n:Int)(w:Zy):bE prog 174 #[zi n] w fun e w'=>e= .returned (zi<|Ye n)/\w'=w:=by
 have a:Hid<|Ye n=if n=10001 then 10002 else 10001:=rfl;go_enter func174.1,Tryz.ntmps174;by_cases h:n=10001
 ·subst h
  go_wp2_with fail
  go_ret
  exact⟨by rw[a.o];rfl,rfl⟩
 go_wp2_with fail
 go_ret
 exact⟨by rw[a.o,aB h];rfl,rfl⟩
end P
namespace A
open Tryq Go Go.RowKit Go.Shelf
def iT{P:Zp}{i:Nat}{f g:Func}(h:P.funcs[i]?=bO f)(e:f=g):P.funcs[i]?=bO g:=e▸h
def Tryq.func160:prog.funcs[160]?=bO Tryz.f160:=MK (by decide) Tryz.func160
def Tryq.func209:prog.funcs[209]?=bO Tryz.f209:=MK (by decide) Tryz.func209
def Tryq.eG:Ren:={f:=fun x=>match x with|105=>93|212=>145|99=>146|165=>147|166=>101|170=>148|169=>102|263=>202|264=>203|206=>204|240=>160|241=>205|276=>209|277=>251|156=>119|n=>n,t:=fun x=>match x with|9=>9|3=>3|4=>4|20=>20|0=>0|46=>162|109=>219|5=>5|72=>179|76=>180|51=>243|146=>266|53=>240|148=>268|70=>177|37=>163|75=>169|127=>229|164=>283|80=>113|31=>49|n=>n,g:=fun x=>x}
def Tryq.wG:Lays.n105 prog eG:=by
 constructor
 case mixed=>kernel_rfl
 case f99=>exact iT func146.1<|by kernel_rfl
 case f105=>exact iT func93.1<|by kernel_rfl
 case f165=>exact iT func147.1<|by kernel_rfl
 case f166=>exact iT func101.1<|by kernel_rfl
 case f169=>exact iT func102.1<|by kernel_rfl
 case f170=>exact iT func148.1<|by kernel_rfl
 case f206=>exact iT func204.1<|by kernel_rfl
 case f212=>exact iT func145.1<|by kernel_rfl
 case f240=>exact iT func160<|by kernel_rfl
 case f241=>exact iT func205.1<|by kernel_rfl
 case f263=>exact iT func202.1<|by kernel_rfl
 case f264=>exact iT func203.1<|by kernel_rfl
 case f276=>exact iT func209<|by kernel_rfl
 case f277=>exact iT func251<|by kernel_rfl
 all_goals (intros;simp[eG])
def Tryq.mV:Lays.n156 prog eG:=by
 constructor
 case mixed=>kernel_rfl
 case f156=>exact iT func119.1<|by kernel_rfl
 case f165=>exact iT func147.1<|by kernel_rfl
 case f166=>exact iT func101.1<|by kernel_rfl
 case f169=>exact iT func102.1<|by kernel_rfl
 case f240=>exact iT func160<|by kernel_rfl
 case f241=>exact iT func205.1<|by kernel_rfl
 case f276=>exact iT func209<|by kernel_rfl
 case f277=>exact iT func251<|by kernel_rfl
 all_goals (intros;simp[eG])
def Tryq.qA:Lays.n166 prog eG:=by
 constructor
 case mixed=>kernel_rfl
 case f166=>exact iT func101.1<|by kernel_rfl
 case f240=>exact iT func160<|by kernel_rfl
 case f276=>exact iT func209<|by kernel_rfl
 all_goals (intros;simp[eG])
def Tryq.pY:Lays.n169 prog eG:=by
 constructor
 case mixed=>kernel_rfl
 case f169=>exact iT func102.1<|by kernel_rfl
 all_goals (intros;simp[eG])
def Tryq.dW:Builder.Extra prog eG where
 sizeBuilder:=by kernel_rfl
 liesBuilder:=by kernel_rfl
 t5:=(cK 5).trans Tryz.underlying5
 a5:=fun w=>(wE 5 w).trans<|Tryz.isAgg5 w
 z5:=fun w=>(uM 5 w).trans<|Tryz.sizeOf5 w
 v5:=fun w=>(zT 5 w).trans<|Tryz.zeroValue5 w
 infoByte:=by kernel_rfl
 cellsByte:=by kernel_rfl
 sizeByte:=by kernel_rfl
 neB5:=by decide
end A
namespace P
open A.Tryq Go.RowKit
attribute [local go_sem] xe zv
def oV:Zl:=List.replicate 32 0
def AT(w:Zy):bE prog 93 #[.string ⟨#[0]⟩,zi 32] w fun e w'=>e= .returned (zs oV)/\bC w.heap.size w w':=
 (Any.strings_Repeat wG dW ⟨#[0]⟩ 32 w (by decide)<|by decide).mono fun e w' ⟨a,b⟩=>⟨a.trans<|by rw[show Lib.repeatL (⟨#[0]⟩:ByteArray).data.toList 32=oV from by decide];rfl,b⟩
def aE(w:Zy):bE prog 58 #[] w fun e w'=>e= .returned (zs oV)/\bC w.heap.size w w':=by
 go_enter func58.1,Tryz.ntmps58
 go_wp2_with fail
 refine(AT _).mono ?_;rintro e w1 ⟨rfl,a⟩
 go_wp2_with fail
 go_ret
 exact⟨rfl,a⟩
def rX(B b:Nat)(l:Zl)(w:Zy):Prop:=Lib.IsBuilder 179 5 B b (Lib.byteCells l) w
def rX.new(w:Zy):rX w.heap.size w.heap.size []<|w.alloc<|.cells #[.pointer bN,.slice bN 0 0] 179:=Lib.fresh_isBuilder _ _ _
def Ko{B b B':Nat}{p:Zv}{bs:Ze}{w w':Zy}(h:Lib.BuilderAt 179 5 B b p bs w)(j:bC B' w w')(i:w.heap.size<=B'):Lib.BuilderAt 179 5 B b p bs w':=by
 obtain⟨n,v,e,f,o⟩:=h;refine⟨n,v, ?_, ?_,o⟩;exact(j.block b<|zn (za.1 e).1 i).trans e;refine⟨f.1,f.2.imp id ?_⟩;rintro⟨g,a,c,k,l,d,m⟩;exact⟨g,a,c,k,l,(j.block g<|zn (za.1 d).1 i).trans d,m⟩
def rX.below{B b B':Nat}{l:Zl}{w w':Zy}(h:rX B b l w)(c:bC B' w w')(a:w.heap.size<=B'):rX B b l w':=
 h.imp (fun h=>Ko h c a) fun h=>Ko h c a
def rX.lt{B b:Nat}{l:Zl}{w:Zy}(h:rX B b l w):b<w.heap.size:=h.elim (fun h=>h.lt) fun h=>h.lt
def Kl(a b:Zl):Lib.byteCells (a++b)=Lib.byteCells a++Lib.byteCells b:=by simp[Lib.byteCells]
def Kq(B b:Nat)(l s:Zl)(w:Zy)(h:rX B b l w)(a:l.length+s.length<=140737488355328)(c:B<=w.heap.size):
  bE prog 101 #[zo b,zs s] w fun e w'=>e= .returned (.tuple #[zi s.length,.nilIface])/\rX B b (l++s) w'/\bC B w w':=
 (Any.Builder_WriteString qA dW B b (Lib.byteCells l) (st s) w h (by simpa[Lib.byteCells,xe]using a) c).mono fun e w' ⟨d,f,g⟩=>⟨d.trans<|by rw[xe],.inr<|by rw[Kl];exact f,g⟩
def BY(B b:Nat)(l:Zl)(w:Zy)(h:rX B b l w)(a:B<=w.heap.size):
  bE prog 102 #[zo b] w fun e w'=>e= .returned (zs l)/\bC B w w':=
 Any.Builder_String_any pY dW B b l w h a
def mF:dM->Prop
 | .put k v=>k≠[]/\k.length<=16/\v.length<=32
 | .del k=>k≠[]/\k.length<=16
def Xt(D:List dM):Zl:=D.flatMap rA
def H8{c:dM}(h:mF c):(rA c).length<=51:=by
 cases c with
 |put k v=>simp[rA,lX,qt];have:=h.2.1;have:=h.2.2;omega
 |del k=>simp[rA,qt];have:=h.2;omega
def IQ:∀{D:List dM},(∀c∈D,mF c)->(Xt D).length<=51*D.length
 |[],_=>by simp[Xt]
 |c::D,h=>by
  have b:=H8 (h c<|by simp);have d:=IQ fun x a=>h x<|xj _ a;simp only[Xt,PT,zj,zh]at*;omega
def zx4(D:List dM)(c:dM):Xt (D++[c])=Xt D++rA c:=by simp[Xt]
def Wb{w:Zy}{a:Addr}{v:Zv}(h:w.cell? a=bO v):a.block<w.heap.size:=by
 unfold World.cell? at h;cases hq:w.heap[a.block]?with
 |none=>rw[hq]at h;cases h
 |some o=>exact(za.1 hq).1
def xrm(x:Zv)(w:Zy):(method 513 86 x "coffer/coffer.plainText").run prog w= .ok (324,x) w:=by kernel_rfl
def xrn(x:Zv)(w:Zy):(method 513 88 x "coffer/coffer.plainText").run prog w= .ok (325,x) w:=by kernel_rfl
def zuw(g cap:Nat)(D:List dM)(V:D.length<=1000000)(E:∀c∈D,mF c)(w:Zy)(j:uU w g D):
  bE prog 66 #[.slice (bO ⟨g,0,bN⟩) D.length cap] w fun e w'=>e= .returned (.string<|st<|Xt D)/\bC w.heap.size w w':=by
 have L:Hid<|uU w g D/\(D≠[]->g<w.heap.size):=⟨j,fun h=>by
  have:=j 0<|qb.2 h;exact Wb this⟩
 have K:=zl E;have Q:=zl<|rX.new w;have W0:Hid<|bC w.heap.size w<|w.alloc<|.cells #[.pointer bN,.slice bN 0 0] 179:=(zr _ _).alloc (ze _) _;clear j E;go_enter func66.1,Tryz.ntmps66
 go_wp2_with fail
 generalize w.alloc (.cells #[.pointer bN,.slice bN 0 0] 179)=W at*
 go_loopw [8] (fun i wr=>∃k:Nat,k<=D.length/\i= .int .i64 k/\rX w.heap.size w.heap.size (Xt<|D.take k) wr/\bC w.heap.size w wr) (fun i _=>(D.length-aJ i).toNat)
 case atStart=>exact⟨0,by omega,rfl,Q.o,W0.o⟩
 case round=>
  obtain⟨k,hk,rfl,F,z⟩:=hrel;by_cases f:k<D.length
  ·have T:(k:Int)<(D.length:Nat):=by omega
   have X:(0:Int)<=(k:Int):=by omega
   have O:=L.o.2 (by intro e;rw[e]at f;cases f);have B:=(z.cell (p:=⟨g,k,bN⟩) O).trans<|L.o.1 k f;have b:=K.o D[k]<|Zn f;have I:Hid<|Xt (D.take<|k+1)=Xt (D.take k)++rA D[k]:=by show _=_;rw[xy f,zx4]
   have J:Hid<|(Xt<|D.take k).length<=51*k:=by
    have:=IQ (D:=D.take k) fun x S=>K.o x<|List.mem_of_mem_take S;rw[xt,Vg hk]at this;exact this
   have m:=zl z;have G:=zl F;obtain⟨c,C⟩:∃c,D[k]=c:=⟨_,rfl⟩;rw[C]at B I b;clear C z F O;generalize Xt (D.take k)=l1 at*;cases c with
   |put ky v=>
    have l:Hid<|ky≠[]/\ky.length<=16/\v.length<=32:=b;have s:wr.cell? ⟨g,k,bN⟩=bO (.iface 86<|.agg #[.string<|st ky,.string<|st v]):=B;have r:=xrm (.agg #[.string<|st ky,.string<|st v]) wr;have o:=zl<|H8 (c:= .put ky v) b;clear B b
    go_wp2_with fail
    refine(tG ky v (by have:=l.o;omega) (by have:=l.o;omega) _).mono ?_;rintro e w1 ⟨rfl,a⟩;have n:=zl<|Yg m.o a;have t:=zl<|G.o.below a<|ze _;clear a m G r s
    go_wp2_with fail
    refine(Kq w.heap.size w.heap.size l1 (rA<|.put ky v) _ t.o (by have:=J.o;have:=o.o;omega) n.o.size).mono ?_;rintro e U ⟨rfl,y,d⟩;have q:=zl y;have H:=zl<|n.o.trans d;clear y d n t
    go_wp2_with fail
    go_roundw
    case rel=>exact⟨k+1,by omega,by go_num,by rw[I.o];exact q.o,H.o⟩
    case measure=>simp[aJ];omega
   |del ky=>
    have l:Hid<|ky≠[]/\ky.length<=16:=b;have s:wr.cell? ⟨g,k,bN⟩=bO (.iface 88<|.agg #[.string<|st ky]):=B;have r:=xrn (.agg #[.string<|st ky]) wr;have o:=zl<|H8 (c:= .del ky) b;clear B b
    go_wp2_with fail
    refine(zz1 ky (by have:=l.o;omega) _).mono ?_;rintro e w1 ⟨rfl,a⟩;have n:=zl<|Yg m.o a;have t:=zl<|G.o.below a<|ze _;clear a m G r s
    go_wp2_with fail
    refine(Kq w.heap.size w.heap.size l1 (rA<|.del ky) _ t.o (by have:=J.o;have:=o.o;omega) n.o.size).mono ?_;rintro e U ⟨rfl,y,d⟩;have q:=zl y;have H:=zl<|n.o.trans d;clear y d n t
    go_wp2_with fail
    go_roundw
    case rel=>exact⟨k+1,by omega,by go_num,by rw[I.o];exact q.o,H.o⟩
    case measure=>simp[aJ];omega
  obtain rfl:k=D.length:=by omega
  have T:¬(D.length:Int)<(D.length:Nat):=by omega
  rw[Yw]at F;have M:=zl F;have m:=zl z;clear F z
  go_wp2_with fail
  refine(BY w.heap.size w.heap.size (Xt D) _ M.o m.o.size).mono ?_;rintro e w1 ⟨rfl,a⟩;have R:=zl<|m.o.trans a;clear a M m
  go_wp2_with fail
  go_ret
  exact⟨rfl,R.o⟩
end P
namespace P
open Go.RowKit
def l_:∀(l:Zl) (n:Nat),l.foldl (fun n b=>n*256+b.toNat) n=n*256^l.length+Zk l
 |[],n=>by simp[Zk]
 |a::l,n=>by
  have e:Zk (a::l)=(0*256+a.toNat)*256^l.length+Zk l:=by
   show(a::l).foldl _ 0=_;rw[J4,l_ l<|0*256+a.toNat]
  rw[J4,l_ l<|n*256+a.toNat,e,zh,DR];generalize 256^l.length=H;rw[Nat.add_mul,Nat.zero_mul,jy,Nat.mul_assoc,Nat.mul_comm 256 H,Ja]
def ZS(a:Z8)(l:Zl):Zk (a::l)=a.toNat*256^l.length+Zk l:=by
 show(a::l).foldl _ 0=_;rw[J4,l_];simp
def Dn(n:Nat):∀k,Zk (nb n k)=n%256^k
 |0=>by simp[nb,Zk,Nat.mod_one]
 |k+1=>by
  have e:(bq<|n/256^k).toNat=n/256^k%256:=by simp[bq]
  rw[nb,ZS,qt,Dn n k,e,DR,Nat.mod_mul,Nat.mul_comm,zW]
def wQ{n k:Nat}(h:n<256^k):Zk (nb n k)=n:=by rw[Dn,PZ h]
def Ra(k a x:Zl):iK k a (iK k a x)=x:=by
 have c:(iK k a x).length=x.length:=yJ k a x;rw[iK,c];refine Eq.trans ?_<|xt4 x _ rfl;unfold kl;apply List.map_congr_left;intro i b;have b:i<x.length:=by simpa using b
 have e:(iK k a x).getD i 0=x.getD i 0^^^wD (fun j=>k.getD j 0) a i:=by
  unfold iK;exact xm3 _ _ _ b
 rw[e,UInt8.xor_assoc,UInt8.xor_self,UInt8.xor_zero]
def TS{n:Nat}(h:n<256):(bq n).toNat=n:=by simp[bq];omega
def Nn{k v:Zl}(hk:k≠[])(a:k.length<=16)(f:v.length<=32)(r:Zl):jS (lX k v++r)=bO ((k,v),r):=by
 have b:0<k.length:=qb.2 hk;have c:Zk [bq k.length]=k.length:=by rw[RJ,TS<|by omega]
 have d:Zk [bq v.length]=v.length:=by rw[RJ,TS<|by omega]
 have e:lX k v++r=bq k.length::bq v.length::(k++(v++r)):=by simp[lX,nb]
 rw[e];unfold jS;simp only[zh,PO,List.take_zero,Yn,W8,c,d];rw[aA<|by omega,aA ⟨⟨b,a,by simp⟩,by simp,f⟩];simp
def H3{c:dM}(h:mF c)(r:Zl):kP (rA c++r)=bO (c,r):=by
 cases c with
 |put k v=>simp only[rA,jc,kP,if_true];rw[Nn h.1 h.2.1 h.2.2]
 |del k=>
  have b:0<k.length:=qb.2 h.1;have a:k.length<=16:=h.2;have d:(bq k.length).toNat=k.length:=TS (by omega);simp only[rA,xrp,jc,jk,kP];rw[aB<|by decide,aA trivial,d,aA ⟨b,a,by simp⟩];simp
def Ng:∀{D:List dM},(∀c∈D,mF c)->jZ (Xt D).length (Xt D)=bO D
 |[],_=>rfl
 |c::D,h=>by
  have g:=Ng fun x f=>h x<|xj _ f;have d:=H3 (h c<|by simp)<|Xt D;have e:Xt (c::D)=rA c++Xt D:=by simp[Xt]
  obtain⟨a,l,b⟩:∃a l,rA c=a::l:=by cases c<;>exact⟨_,_,rfl⟩
  rw[e];rw[b,jc]at d⊢;rw[Qg d,g];rfl
def zt1{D:List dM}(h:∀c∈D,mF c)(b:1<=D.length)(a:D.length<=20):nZ (Xt D)=bO D:=by
 unfold nZ;rw[Ng h];simp only;rw[aA ⟨b,a⟩]
def KC(c:Z8)(ep op cnt n:Nat):Wv [c] ep op cnt n=[c,bq ep,bq<|op/256,bq op]++(nb (cnt+1) 4++nb n 2):=by simp[Wv,nb]
def JG(c:Z8)(ep op cnt n:Nat):(Wv [c] ep op cnt n).length=10:=by rw[KC];simp[qt]
section
variable {c:UInt8} {ep op cnt n:Nat} {y:List UInt8}
def zw6:(Wv [c] ep op cnt n++y).take 10=Wv [c] ep op cnt n:=by
 rw[<-JG c ep op cnt n];exact List.take_left
def zw5:(Wv [c] ep op cnt n++y).drop 10=y:=by
 rw[<-JG c ep op cnt n];exact List.drop_left
def NX:(Wv [c] ep op cnt n++y).take 1=[c]:=by rw[KC];simp
def xmz(h:ep<256):Zk (((Wv [c] ep op cnt n++y).drop 1).take 1)=ep:=by
 rw[KC];simp only[jc,Yn,W8,PO,List.take_zero];rw[RJ,TS h]
def S6(h:cnt+1<4294967296):Zk (((Wv [c] ep op cnt n++y).drop 4).take 4)=cnt+1:=by
 have e:((Wv [c] ep op cnt n++y).drop 4).take 4=nb (cnt+1) 4:=by
  rw[KC];simp only[jc,jk,Yn,W8,Zq];exact Zd<|qt _ _
 rw[e,wQ<|by omega]
def n_(h:n<65536):eT (Wv [c] ep op cnt n++y)=n:=by
 have e:((Wv [c] ep op cnt n++y).drop 8).take 2=nb n 2:=by
  rw[KC,show(8:Nat)=4+4 from rfl,<-Vx];simp only[jc,jk,Yn,W8,Zq];rw[Z6<|qt _ _];exact Zd<|qt _ _
 unfold eT;rw[e,wQ<|by omega]
end
section
variable {m mark:List UInt8} {c:UInt8} {ep op cnt:Nat} {plain y:List UInt8}
def ZU:Y5 m mark [c] ep op cnt plain++y=Wv [c] ep op cnt plain.length++(qE m [c] ep op cnt plain++(nH m mark [c] ep op cnt plain++y)):=by simp[Y5]
def JD:(qE m [c] ep op cnt plain).length=plain.length:=yJ _ _ _
def p_:(nH m mark [c] ep op cnt plain).length=32:=wP _ _
def Ix(h:plain.length<65536):X7 (Y5 m mark [c] ep op cnt plain++y)=bL:=by
 rw[ZU];unfold X7;rw[n_ h];have:=JG c ep op cnt plain.length;have:=@JD m c ep op cnt plain;have:=@p_ m mark c ep op cnt plain;simp only[zj,X9];omega
def MT(h:plain.length<65536):(Y5 m mark [c] ep op cnt plain++y).drop (42+eT (Y5 m mark [c] ep op cnt plain++y))=y:=by
 have e:eT (Y5 m mark [c] ep op cnt plain++y)=plain.length:=by rw[ZU,n_ h]
 rw[e,<-QT m mark [c] ep op cnt plain rfl];exact List.drop_left
def xn8{k:Lk}{L:KV}(h:plain.length<65536)(b:ep<256)(a:cnt+1<4294967296):
  lY k L (Y5 m mark [c] ep op cnt plain++y)=jJ k L [c] ep (cnt+1) (Wv [c] ep op cnt plain.length) (qE m [c] ep op cnt plain) (nH m mark [c] ep op cnt plain):=by
 rw[ZU];unfold lY;rw[NX,xmz b,S6 a,n_ h,zw6,<-Vx,zw5];rw[Zd JD,Z6 JD,Zd p_]
end
def tR{k:Lk}{L:KV}{op:Nat}{D:List dM}(b:∀c∈D,mF c)(d:1<=D.length)(a:D.length<=20)(f:k.tag.length=32):
  jJ k L [82] k.ep (k.cnt+1) (Wv [82] k.ep op k.cnt (Xt D).length) (qE k.m [82] k.ep op k.cnt<|Xt D) (nH k.m k.tag [82] k.ep op k.cnt<|Xt D)=bO ({k with cnt:=k.cnt+1,ahead:=k.tag,tag:=nH k.m k.tag [82] k.ep op k.cnt<|Xt D},cO L D):=by
 have e:=IQ b;unfold jJ;rw[aB<|by simp,aA rfl,aA rfl];refine zu2 rfl ?_ rfl ?_;have:=JG 82 k.ep op k.cnt (Xt D).length;have:=@JD k.m 82 k.ep op k.cnt<|Xt D;simp only[zj];omega;unfold qE;rw[Ra];exact zt1 b d a
def tS{k:Lk}{L:KV}{op:Nat}(b:k.ep+1<=5)(c:k.tag.length=32):
  jJ k L [75] (k.ep+1) (k.cnt+1) (Wv [75] (k.ep+1) op k.cnt 0) (qE k.m [75] (k.ep+1) op k.cnt []) (nH k.m k.tag [75] (k.ep+1) op k.cnt [])=bO ({k with ep:=k.ep+1,cnt:=k.cnt+1,ahead:=k.tag,tag:=nH k.m k.tag [75] (k.ep+1) op k.cnt []},L):=by
 have a:qE k.m [75] (k.ep+1) op k.cnt []=[]:=xa<|JD.trans rfl;unfold jJ;rw[aB<|by simp,aB<|by decide,aA rfl,aA ⟨rfl,b,a⟩];refine TT rfl ?_ rfl;have:=JG 75 (k.ep+1) op k.cnt 0;simp only[zj,a,jn,c];omega
def rec_app{k:Lk}{L:KV}{x:Zl}(hx:X7 x=bL)(y:Zl):eT (x++y)=eT x/\X7 (x++y)=bL/\lY k L (x++y)=lY k L x:=by
 have b:=Wa hx;have t:∀i j,i+j<=x.length->((x++y).drop i).take j=(x.drop i).take j:=fun i j c=>by
  rw[Yj<|by omega,X8<|by rw[jb];omega]
 have a:eT (x++y)=eT x:=by
  unfold eT;rw[t 8 2<|by omega]
 refine⟨a, ?_, ?_⟩;simp only[X7,X9,a,zj];omega;unfold lY;rw[a,X8<|by omega,t 1 1<|by omega,t 4 4<|by omega,X8<|by omega,t 10 _<|by omega,t _ 32<|by omega]
def Ns:∀(n:Nat) {k k':Lk} {L L':KV} {x:Zl} (y:Zl),x.length<=n->recs k L x=bO (k',L',[])->recs k L (x++y)=recs k' L' y
 |n,k,k',L,L',x,y,hn,h=>by
  by_cases b:X7 x=bL;have f:=Wa b;obtain⟨a,e,c⟩:=rec_app (k:=k) (L:=L) b y;cases hr:lY k L x with
  |none=>rw[JJ b hr]at h;cases h
  |some p=>
   obtain⟨i,g⟩:=p;rw[zX b hr]at h;rw[zX e<|c.trans hr,a,Yj<|by omega]
   match n,hn with
   |0,hn=>omega
   |n+1,hn=>exact Ns n y (by rw[jb];omega) h
  have d:X7 x=bK:=by simpa using b
  rw[KH d]at h;cases h;rfl
def Sb{k k':Lk}{L L':KV}{c:Z8}{ep op:Nat}{plain:Zl}(a:plain.length<65536)(g:ep<256)(f:k.cnt+1<4294967296)
  (h:jJ k L [c] ep (k.cnt+1) (Wv [c] ep op k.cnt plain.length) (qE k.m [c] ep op k.cnt plain) (nH k.m k.tag [c] ep op k.cnt plain)=bO (k',L')):recs k L (Y5 k.m k.tag [c] ep op k.cnt plain)=bO (k',L',[]):=by
 have b:=@Ix k.m k.tag c ep op k.cnt plain [] a;have d:=(@xn8 k.m k.tag c ep op k.cnt plain [] k L a g f).trans h;have e:=@MT k.m k.tag c ep op k.cnt plain [] a;rw[Xq]at b d e;rw[zX b d,e];rfl
end P
namespace P
open A.Tryq Go.RowKit
attribute [local go_sem] xe zv
section
variable {xs:List Zl} {w w':Zy} {L:KV}
section
variable {P:Program} {w:World} {t kt et:TypeId} {m:Nat} {L:KV}
def Iv(n:P.underlying t=bO (.map kt et))(hk:P.underlying kt=bO .string)(q:∀w,(zeroValue et).run P w= .ok (kF []) w)(h:Xd w m L)(k:Zl):
  (Instr.lookup t (.map<|bO m) (zs k) bK).run P w= .ok (kF<|(Zh L k).getD []) w:=by
 obtain⟨f,d,p,o,a⟩:=h;have l:=Jv (P:=P) p;have i:=QN hk (st k) 9999;rcases JY k L f.toList 0 o with⟨b,c,_,_⟩|⟨j,v,e,b,c,_,_,_,_⟩
 have g:(aT kt (zs k) f.toList).run P w= .ok bN w:=by simp[aT,xm hk,aY,c]
 simp[Instr.lookup,xm n,aY,l,i,g,q,b];have g:(aT kt (zs k) f.toList).run P w= .ok (bO (0+j,kF v)) w:=by simp[aT,xm hk,aY,c]
 simp[Instr.lookup,xm n,aY,l,i,g,b]
end
def qO(L:KV)(k:Zl):Zl:=lX k<|(Zh L k).getD []
def Vf(L:KV):Zl:=(Vp L).flatMap<|qO L
def jM(L:KV):Prop:=∀p∈L,p.1≠[]/\p.1.length<=16/\p.2.length<=32
def o8(L:KV):(Vp L).length=L.length:=by
 rw[Vp,(Xw _ _).length_eq,Zb]
def JH{k:Zl}:k∈Vp L↔k∈L.map (·.1):=(Xw _ _).mem_iff
def Te:∀{L:KV} {k v:Zl},Zh L k=bO v->(k,v)∈L
 |[],k,v,h=>by cases h
 |p::L,k,v,h=>by
  unfold Zh at h;split at h;cases h
  rename_i hk
  rw[hk];exact jo;exact xj _<|Te h
def jM.val(h:jM L)(k:Zl):((Zh L k).getD []).length<=32:=by
 cases hq:Zh L k with
 |none=>simp
 |some v=>exact(h _<|Te hq).2.2
def jM.key(h:jM L){k:Zl}(hk:k∈Vp L):k≠[]/\k.length<=16:=by
 rw[JH,qp]at hk;obtain⟨p,a,rfl⟩:=hk;exact⟨(h p a).1,(h p a).2.1⟩
def Uf(h:jM L){k:Zl}(hk:k.length<=16):(qO L k).length<=50:=by
 have:=h.val k;simp[qO,lX,qt];omega
def r_(h:jM L):∀{ks:List Zl},(∀k∈ks,k.length<=16)->(ks.flatMap<|qO L).length<=50*ks.length
 |[],_=>by simp
 |k::ks,hk=>by
  have b:=Uf h<|hk k jo;have c:=r_ h fun x a=>hk x<|xj _ a;simp only[PT,zj,zh];omega
def xtz(s:ByteArray)(w:Zy):(Instr.field 94 (.agg #[.string s]) 0).run prog w= .ok (.string s) w:=by kernel_rfl
def tJ(B b:Nat)(l:Zl)(w:Zy):Prop:=Lib.IsBuilderF 179 5 B b (Lib.byteCells l) w
def tJ.new(w:Zy):tJ w.heap.size w.heap.size []<|w.alloc<|.cells #[.pointer bN,.slice bN 0 0] 179:=Lib.IsBuilderF.of<|Lib.fresh_isBuilder _ _ _
def Kj{B b B':Nat}{p:Zv}{bs:Ze}(h:Lib.BuilderAtF 179 5 B b p bs w)(j:bC B' w w')(i:w.heap.size<=B'):Lib.BuilderAtF 179 5 B b p bs w':=by
 obtain⟨o,v,e,f,q⟩:=h;refine⟨o,v, ?_, ?_,q⟩;exact(j.block b<|zn (za.1 e).1 i).trans e;refine⟨f.1,f.2.imp id ?_⟩;rintro⟨g,a,c,n,k,l,d,m⟩;exact⟨g,a,c,n,k,l,(j.block g<|zn (za.1 d).1 i).trans d,m⟩
def tJ.below{B b B':Nat}{l:Zl}(h:tJ B b l w)(c:bC B' w w')(a:w.heap.size<=B'):tJ B b l w':=
 h.imp (fun h=>Kj h c a) fun h=>Kj h c a
def znf(B b:Nat)(l s:Zl)(w:Zy)(h:tJ B b l w)(a:l.length+s.length<=140737488355328)(c:B<=w.heap.size):
  bE prog 101 #[zo b,zs s] w fun e w'=>e= .returned (.tuple #[zi s.length,.nilIface])/\tJ B b (l++s) w'/\bC B w w'/\Lib.OthersKept 5 (bO b) w w':=
 (Any.Builder_WriteString_k qA dW B b (Lib.byteCells l) (st s) w h (by simpa[Lib.byteCells,xe]using a) c).mono fun e w' ⟨d,f,g,i⟩=>⟨d.trans<|by rw[xe],.inr<|by rw[Kl];exact f,g,i⟩
def zy8(B b:Nat)(l:Zl)(w:Zy)(h:tJ B b l w)(a:B<=w.heap.size):
  bE prog 102 #[zo b] w fun e w'=>e= .returned (zs l)/\bC B w w':=
 (Any.Builder_String_any_k pY dW B b l w h a).mono fun e w' h=>⟨h.1,h.2.2.1⟩
def tH(w:Zy)(g:Nat)(xs:List Zl):Prop:=∃cur,w.heap[g]?=bO (.cells cur 9 (0,0))/\∀i (h:i<xs.length),cur[i]?=bO (.string<|st xs[i])
def tH.cell{w:Zy}{g:Nat}(h:tH w g xs)(i:Nat)(d:i<xs.length):w.cell? (zq g i)=bO (.string<|st xs[i]):=by
 obtain⟨a,b,c⟩:=h;simp only[World.cell?,b];simpa using c i d
def tH.kept{g b:Nat}(h:tH w g xs)(hk:Lib.OthersKept 5 (bO b) w w')(i:g≠b):tH w' g xs:=by
 obtain⟨a,d,f⟩:=h;exact⟨a,hk g _ d (fun e=>i<|jf e) (fun c j e=>by cases e),f⟩
def tH.below{g B:Nat}(h:tH w g xs)(e:bC B w w')(d:w.heap.size<=B):tH w' g xs:=by
 obtain⟨a,b,c⟩:=h;exact⟨a,(e.block g<|zn (za.1 b).1 d).trans b,c⟩
def QS{w:Zy}{B:Nat}{v:Zv}{f:Zl->Zv}(e:∀x,f x=zs x)(h:w.ownsRow B 9 1 v xs.length<|xs.map f):(v= .slice bN 0 0/\xs=[])\/∃g cap,v= .slice (bO ⟨g,0,bN⟩) xs.length cap/\xs.length<=cap/\B<=g/\tH w g xs:=by
 rcases h.2 with⟨b,d⟩|⟨g,cap,a,n,j,k,l,o,p,m⟩;exact .inl ⟨b,xa d⟩;refine .inr ⟨g,cap,n,l,j,a,k,fun i c=>?_⟩;have b:(a.toList.take<|xs.length*1)[i]?=bO (.string<|st xs[i]):=by
  rw[m];simp[c,e]
 rw[Jf]at b;simpa[c]using b
def zrm(m:Nat)(L:KV)(hL:L.length<=1000000)(J:jM L)(w:Zy)(hm:Xd w m L):
  bE prog 111 #[.map<|bO m] w fun e w'=>e= .returned (.string<|st<|Vf L)/\bC w.heap.size w w':=by
 have HM:=zl hm;have C:=zl J;have be:=hm.lt;have B0:=zl<|tJ.new w;have W0:Hid<|bC w.heap.size w<|w.alloc<|.cells #[.pointer bN,.slice bN 0 0] 179:=(zr _ _).alloc (ze _) _;have O:w.heap.size<(w.alloc<|.cells #[.pointer bN,.slice bN 0 0] 179).heap.size:=by simp
 clear J hm;go_enter func111.1,Tryz.ntmps111
 go_wp2_with fail
 generalize w.alloc (.cells #[.pointer bN,.slice bN 0 0] 179)=W at*;refine(Oz m _).mono ?_;rintro e w1 ⟨rfl,n⟩;have o:Hid<|bC W.heap.size W w1:=by show bC _ _ _;rw[n];exact(zr _ _).alloc (ze _) _
 have z:Hid<|w1.cell? ⟨W.heap.size,0,bN⟩=bO (.map<|bO m):=by show _=_;rw[n];exact(xx.new W _ 91).cell 0 rfl
 have t:W.heap.size<w1.heap.size:=by rw[n];simp
 have Y:=zl<|Yg W0.o o.o;have M1:=zl<|HM.o.but (S:=fun _=>False) (xb.of_below Y.o) id;have S1:=zl<|B0.o.below o.o<|ze _;clear n o B0 W0
 go_wp2_with fail
 refine(Mr m _ L _ M1.o z.o t (fun p K=>by have:=(C.o p K).2.1;omega) hL).mono ?_;rintro e w2 ⟨v,rfl,c,j⟩;have W2:=zl<|Yg Y.o j;have S2:=zl<|S1.o.below j<|ze _;have bf:=zn O<|xz (Nat.le_of_lt t) j.size;obtain⟨ks,l⟩:∃ks,Vp L=ks:=⟨_,rfl⟩;have B:=zl l;have bd:ks.length<=1000000:=by rw[<-l,o8];exact hL
 rw[l]at c;obtain⟨a,bc,rfl,bb⟩:=Jh c;have HP:Hid (ks≠[]->∃g,a=bO ⟨g,0,bN⟩/\tH w2 g ks/\w.heap.size<g):=fun ba=>by
  rcases QS (f:=encStr) (fun _=>rfl) c with⟨_,h⟩|⟨g,cap',hv,_,hg,hr⟩;exact absurd h ba;cases hv;exact⟨g,rfl,hr,by omega⟩
 clear j Y M1 S1 z l c t O
 go_wp2_with fail
 go_loopw [10] (fun i wr=>∃k:Nat,k<=ks.length/\i= .int .i64 k/\tJ w.heap.size w.heap.size ((ks.take k).flatMap<|qO L) wr/\bC w.heap.size w wr/\(ks≠[]->∃g,a=bO ⟨g,0,bN⟩/\tH wr g ks/\w.heap.size<g)) (fun i _=>(ks.length-aJ i).toNat)
 case atStart=>exact⟨0,by omega,rfl,S2.o,W2.o,HP.o⟩
 case round=>
  obtain⟨k,hk,rfl,M,F,K⟩:=hrel;by_cases d:k<ks.length
  ·have i1:(k:Int)<(ks.length:Nat):=by omega
   have i0:(0:Int)<=(k:Int):=by omega
   obtain⟨g,rfl,s,hg⟩:=K (by intro e;rw[e]at d;cases d);have hc:=s.cell k d;have HT:Hid<|(ks.take<|k+1).flatMap (qO L)=(ks.take k).flatMap (qO L)++qO L ks[k]:=by show _=_;rw[xy d,List.flatMap_append,PT,List.flatMap_nil,Xq]
   have r:Hid<|∀k∈ks,k≠[]/\k.length<=16:=fun k hk=>C.o.key (by rw[B.o];exact hk);have HL:Hid<|((ks.take k).flatMap<|qO L).length<=50*k:=by
    have:=r_ C.o (ks:=ks.take k) fun x Q=>(r.o x<|List.mem_of_mem_take Q).2;rw[xt,Vg hk]at this;exact this
   have q:=zl<|(r.o _<|Zn d).2;have y:=zl F;have HS:=zl M;have D:=zl s;obtain⟨x,Q⟩:∃x,ks[k]=x:=⟨_,rfl⟩;rw[Q]at hc HT q;have I:=Iv yO underlying9 VS (HM.o.but (S:=fun _=>False) (xb.of_below F) id) x;unfold kF at I;have X:=zl<|C.o.val x;have U:Hid<|qO L x=lX x ((Zh L x).getD []):=rfl;have T:=zl<|Uf C.o q.o;generalize(Zh L x).getD []=v at*;have Z:=xtz (st v) wr;generalize qO L x=en at*;clear Q F M K s r;generalize(ks.take k).flatMap (qO L)=l1 at*
   go_wp2_with fail
   refine(Np x v (by have:=q.o;omega) (by have:=X.o;omega) _).mono ?_;rintro e w3 ⟨rfl,b⟩;have R:=zl<|Yg y.o b;have E:=zl<|HS.o.below b<|ze _;have R3:=zl<|D.o.below b<|ze _;rw[<-U.o];clear b y HS D hc I Z
   go_wp2_with fail
   refine(znf _ _ l1 en _ E.o (by have:=HL.o;have:=T.o;omega) R.o.size).mono ?_;rintro e w4 ⟨rfl,S4,G,H⟩;have V:=zl S4;have B4:=zl<|R.o.trans G;have R4:=zl (R3.o.kept H<|by omega);clear S4 G H R E R3
   go_wp2_with fail
   go_roundw
   case rel=>exact⟨k+1,by omega,by go_num,by rw[HT.o];exact V.o,B4.o,fun _=>⟨g,rfl,R4.o,hg⟩⟩
   case measure=>simp[aJ];omega
  obtain rfl:k=ks.length:=by omega
  have i1:¬(ks.length:Int)<(ks.length:Nat):=by omega
  rw[Yw]at M;have E:Hid<|tJ w.heap.size w.heap.size (Vf L) wr:=by unfold Vf;rw[B.o];exact M
  have y:=zl F;clear M F K
  go_wp2_with fail
  refine(zy8 _ _ _ _ E.o y.o.size).mono ?_;rintro e w3 ⟨rfl,b⟩;have H1:=zl<|y.o.trans b;clear b E y
  go_wp2_with fail
  go_ret
  exact⟨rfl,H1.o⟩
end
end P
end Go.Proofs.YtjnbhiamaabbgaaGreatDoor
