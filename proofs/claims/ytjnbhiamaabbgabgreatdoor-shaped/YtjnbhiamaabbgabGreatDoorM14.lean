import Derived.Test.YtjnbhiamaabbgabGreatDoorM13
import Derived.Lib.LaidTab
import Derived.Test.YtjnbhiamaabbgabGreatDoorCards
import Derived.Test.YtjnbhiamaabbgabGreatDoorTie
import Derived.Conc.LeavingOf
import Derived.OpenShut
import Derived.Deep.DeepHandedRow
set_option linter.all false
set_option maxRecDepth 100000
set_option maxHeartbeats 8000000
namespace Go.Proofs.YtjnbhiamaabbgabGreatDoor
open Bool renaming false->bK,true->bL
open Go renaming Calls->bE,execOp->bG,results->aN,undef->bJ
open Go.Frame renaming enter->bF
open Go.Proofs.Tryz renaming prog->bM
open Option renaming none->bN,some->bO
namespace P
open Go.RowKit
def xorL(c:Z8)(l:Zl):Zl:=l.map (·^^^c)
def xorL_len(c:Z8)(l:Zl):(xorL c l).length=l.length:=by simp[xorL]
def xorL_twice(c:Z8)(l:Zl):xorL c (xorL c l)=l:=by
 unfold xorL;rw[uP]
 conv=>rhs;rw[<-List.map_id l]
 exact List.map_congr_left fun x _=>by simp[UInt8.xor_assoc]
def xorL_inj{c:Z8}{a b:Zl}:xorL c a=xorL c b↔a=b:=⟨fun h=>by rw[<-xorL_twice c a,h,xorL_twice],fun h=>by rw[h]⟩
def mkv(c:Z8)(p:Zl×Zl):Zl×Zl:=(xorL c p.1,xorL c p.2)
def mch(c:Z8):dM->dM
 | .put k v=> .put (xorL c k) (xorL c v)
 | .del k=> .del (xorL c k)
def aget_mkv(c:Z8):∀(L:KV) (k:Zl),Zh (L.map<|mkv c) (xorL c k)=(Zh L k).map (xorL c)
 |[],k=>rfl
 |(k',v')::L,k=>by
  simp only[xq,mkv,Zh];by_cases e:k=k';simp[e];rw[aB fun h=>e<|xorL_inj.1 h,aB e];exact aget_mkv c L k
def aput_mkv(c:Z8)(k v:Zl):∀L:KV,dA (L.map<|mkv c) (xorL c k) (xorL c v)=(dA L k v).map (mkv c)
 |[]=>rfl
 |(k',v')::L=>by
  simp only[xq,mkv,dA];by_cases e:k=k';simp[e,mkv];rw[aB fun h=>e<|xorL_inj.1 h,aB e,xq];exact congrArg _<|aput_mkv c k v L
def adel_mkv(c:Z8)(k:Zl):∀L:KV,dO (L.map<|mkv c) (xorL c k)=(dO L k).map (mkv c)
 |[]=>rfl
 |(k',v')::L=>by
  simp only[xq,mkv,dO];by_cases e:k=k';simp[e,mkv];rw[aB fun h=>e<|xorL_inj.1 h,aB e,xq];exact congrArg _<|adel_mkv c k L
def app1_mkv(c:Z8)(x:dM)(L:KV):app1 (L.map<|mkv c) (mch c x)=(app1 L x).map (mkv c):=by
 cases x with
 |put k v=>exact aput_mkv c k v L
 |del k=>exact adel_mkv c k L
def appL_mkv(c:Z8):∀(D:List dM) (L:KV),cO (L.map<|mkv c) (D.map<|mch c)=(cO L D).map (mkv c)
 |[],L=>rfl
 |x::D,L=>by
  show cO (app1 (L.map<|mkv c)<|mch c x) (D.map<|mch c)=_;rw[app1_mkv];exact appL_mkv c D<|app1 L x
def Nd.mkv{L:KV}(h:Nd L)(c:Z8):Nd<|L.map<|mkv c:=by
 unfold Nd at h⊢;rw[uP];show(L.map fun p=>xorL c p.1).Nodup;rw[show(fun p:Zl×Zl=>xorL c p.1)=xorL c∘(·.1)from rfl,<-uP];exact List.Pairwise.map _ (fun a b d e=>d<|xorL_inj.1 e) h
def iF.mkv{L L':KV}(h:iF L L')(c:Z8):iF (L.map<|mkv c)<|L'.map<|mkv c:=
 ⟨h.1.mkv c,h.2.1.mkv c,fun x=>by
  rw[<-xorL_twice c x,aget_mkv,aget_mkv,h.2.2]⟩
def chL_mch(c:Z8)(x:dM):(rA<|mch c x).length=(rA x).length:=by
 cases x with
 |put k v=>simp[mch,rA,lX,xorL_len,qt]
 |del k=>simp[mch,rA,xorL_len,qt]
def plainL_mch(c:Z8):∀D:List dM,(Xt<|D.map<|mch c).length=(Xt D).length
 |[]=>rfl
 |x::D=>by
  show(rA (mch c x)++Xt (D.map<|mch c)).length=(rA x++Xt D).length;rw[zj,zj,chL_mch,plainL_mch c D]
structure Shp(c:Z8)(r:Sr)(s:Jo)(r2:Sr)(s2:Jo):Prop where
 cnt:r2.cnt=r.cnt
 op:r2.op=r.op
 nW:r2.nW=r.nW
 len:∀n,(qu r2.d.L n).length=(qu r.d.L n).length
 base:s2.base=s.base
 last:s2.last=s.last
 named:s2.named=s.named
 ep:s2.ep=s.ep
 bP:s2.bP=s.bP
 P:s2.P=s.P.map (mch c)
 L:iF s2.L<|s.L.map<|mkv c
section
variable {c:UInt8} {r r2:Sr} {s s2:Jo}
def Shp.place(h:Shp c r s r2 s2):(r2.place s2).1=(r.place s).1/\(r2.place s2).2.length=(r.place s).2.length:=by
 unfold Sr.place;rw[h.base,h.last,h.len,h.nW,h.cnt];split;exact⟨rfl,rfl⟩;exact⟨rfl,rfl⟩
def Shp.wrote(h:Shp c r s r2 s2)(I:Wy r s)(a:Wy r2 s2){k:Z8}{ep:Nat}{p p2:Zl}(b:p2.length=p.length)(n:Int):(qu (r2.wrote s2 [k] ep p2).d.L n).length=(qu (r.wrote s [k] ep p).d.L n).length:=by
 rw[k7 a,k7 I,h.place.1];split;rw[zj,zj,zj,zj,h.len,h.place.2,QT _ _ [k] _ _ _ _ rfl,QT _ _ [k] _ _ _ _ rfl,b];exact h.len n
def syncs_is{r':Sr}(I:Wy r s)(S:BH r s r'):(s.P=[]/\r'=r/\r.ses1 s=s)\/(s.P≠[]/\r'={r.wrote s [82] s.ep (Xt s.P)with sn:=bO<|r.ses1 s}/\r.ses1 s=({s with last:=(r.place s).1}:Jo).synced):=by
 have b:=S.run;by_cases a:s.P=[];refine .inl ⟨a, ?_,by unfold Sr.ses1;rw[aA a]⟩;unfold Sr.bW at b;rw[aA a]at b;cases b;rfl;have d:r.ses1 s=({s with last:=(r.place s).1}:Jo).synced:=by unfold Sr.ses1;rw[aB a]
 refine .inr ⟨a, ?_,d⟩;have e:(Xt s.P).length<=1020:=by have:=IQ I.P;have:=I.P20;omega
 unfold Sr.bW at b;rw[aB a,Mw (c:=82) (ep:=s.ep) I e,aA rfl,<-d]at b;cases b;rfl
def Shp.sync{r' r2':Sr}(h:Shp c r s r2 s2)(I:Wy r s)(b:Wy r2 s2)(S:BH r s r')(i:BH r2 s2 r2'):Shp c r' (r.ses1 s) r2'<|r2.ses1 s2:=by
 rcases syncs_is I S with⟨g,rfl,e⟩|⟨g,j,e⟩;rcases syncs_is b i with⟨_,rfl,f⟩|⟨a,_⟩;rw[e,f];exact h;exact absurd (by rw[h.P,g];rfl) a;rcases syncs_is b i with⟨a,_⟩|⟨_,k,f⟩;exact absurd (by rw[h.P]at a;simpa using a) g;have m:(Xt s2.P).length=(Xt s.P).length:=by rw[h.P,plainL_mch]
 have l:iF (cO s2.L s2.P)<|(cO s.L s.P).map<|mkv c:=by
  rw[<-appL_mkv,h.P];exact iF.app _ h.L
 rw[j,k,e,f];exact⟨by show r2.cnt+1=r.cnt+1;rw[h.cnt],h.op,h.nW,fun n=>by
  show(qu (r2.wrote s2 [82] s2.ep<|Xt s2.P).d.L n).length=_;rw[h.ep];exact h.wrote I b m n,h.base,by show((r2.place s2).1:Int)=((r.place s).1:Int);rw[h.place.1],h.named,h.ep,h.bP,rfl,l⟩
def Shp.put(h:Shp c r s r2 s2)(x:dM)(pv a:Zv):Shp c {r with sn:=bO<|s.more pv x} (s.more pv x) {r2 with sn:=bO<|s2.more a<|mch c x}<|s2.more a<|mch c x:=
 ⟨h.cnt,h.op,h.nW,h.len,h.base,h.last,h.named,h.ep,h.bP,by show s2.P++[_]=(s.P++[_]).map _;rw[h.P];simp,h.L⟩
def Shp.yB(h:Shp c r s r2 s2)(I:Wy r s)(a:Wy r2 s2):Shp c {r.wrote s [75] (s.ep+1) []with sn:=bO {s with last:=(r.place s).1,ep:=s.ep+1}} {s with last:=(r.place s).1,ep:=s.ep+1} {r2.wrote s2 [75] (s2.ep+1) []with sn:=bO {s2 with last:=(r2.place s2).1,ep:=s2.ep+1}} {s2 with last:=(r2.place s2).1,ep:=s2.ep+1}:=
 ⟨by show r2.cnt+1=r.cnt+1;rw[h.cnt],h.op,h.nW,fun n=>by
  show(qu (r2.wrote s2 [75] (s2.ep+1) []).d.L n).length=_;rw[h.ep];exact h.wrote I a rfl n,h.base,by show((r2.place s2).1:Int)=((r.place s).1:Int);rw[h.place.1],h.named,by show s2.ep+1=s.ep+1;rw[h.ep],h.bP,h.P,h.L⟩
def kvSize_mkv(L:KV):lW (L.map<|mkv c)=lW L:=by
 unfold lW;rw[uP]
 congr 1
 exact List.map_congr_left fun p _=>by simp[mkv,xorL_len]
def kvSize_perm{L L':KV}(h:L.Perm L'):lW L=lW L':=(h.map _).sum_nat
def aget_pair:∀{L:KV} {p:Zl×Zl},Nd L->p∈L->Zh L p.1=bO p.2
 |(k,v)::L,p,hn,a=>by
  unfold Nd at hn;rw[xq,Zr]at hn;rcases xf.1 a with rfl|a
  simp[Zh];have:p.1≠k:=fun e=>hn.1 (by rw[<-e];exact qp.2 ⟨p,a,rfl⟩);rw[Zh,aB this];exact aget_pair hn.2 a
def srt_perm{L:KV}(h:Nd L):(fD L).Perm L:=by
 unfold fD;refine((QJ L).map _).trans ?_;rw[uP];have:L.map ((fun k=>(k,(Zh L k).getD []))∘(·.1))=L:=by
  conv=>rhs;rw[<-List.map_id L]
  exact List.map_congr_left fun p a=>by simp[aget_pair h a]
 rw[this]
theorem Shp.size(h:Shp c r s r2 s2):(Vf s2.L).length=(Vf s.L).length:=by
 have a:Nd s.L:=by
  have:=h.L.2.1.mkv c;rw[uP]at this;rwa[show(mkv c∘mkv c)=id from funext fun p=>by simp[mkv,xorL_twice],List.map_id]at this
 rw[zx5,zx5,VK h.L,kvSize_perm<|srt_perm h.L.2.1,kvSize_mkv,kvSize_perm<|srt_perm a]
def shot_sn{r':Sr}{s':Jo}(h:r.jR s=(bO 0,r'))(a:r'.sn=bO s'):s'={s with bP:=s.bP+1,base:=s.last,named:=(Ye s.named:Int)}:=by
 unfold Sr.jR at h;split at h;simp at h;split at h;simp at h;split at h;cases h;cases a;rfl;simp at h
def Len2(F:Ym)(f:Int)(k:Nat):Prop:=∀n:Int,(qu F n).length=if n=0 then 116 else if n=f then k else 0
def Shp.jR{r' r2':Sr}{s' s2':Jo}(h:Shp c r s r2 s2)(e:r.jR s=(bO 0,r'))(g:r2.jR s2=(bO 0,r2'))(j:r'.sn=bO s')(b:r2'.sn=bO s2')(i:r'.cnt=r.cnt)(a:r2'.cnt=r2.cnt)(K:tF r r')(f:tF r2 r2')
  (l:Len2 r'.d.L (Ye s.named) (Vf s.L).length)(l2:Len2 r2'.d.L (Ye s2.named) (Vf s2.L).length):Shp c r' s' r2' s2':=by
 rw[shot_sn e j,shot_sn g b];exact⟨by rw[i,a,h.cnt],by rw[K.op,f.op,h.op],by rw[K.nW,f.nW,h.nW],fun n=>by rw[l n,l2 n,h.size,h.named],h.last,h.last,by show((Ye s2.named:Nat):Int)=_;rw[h.named],h.ep,by show s2.bP+1=s.bP+1;rw[h.bP],h.P,h.L⟩
def Wy.last_eq(I:Wy r s)(i:Wy r2 s2)(y:s2.base=s.base)(t:∀n,(qu r2.d.L n).length=(qu r.d.L n).length):s2.last=s.last:=by
 obtain⟨w,g,q,L,D⟩:=I.dsk;obtain⟨j,a,z,x,b⟩:=i.dsk;have l:=D.base;have o:=b.base;have c:∀n,qu r2.d.L n=[]↔qu r.d.L n=[]:=fun n=>by rw[<-List.length_eq_zero_iff,t,List.length_eq_zero_iff]
 have k:=D.ok.stop;have h:=b.ok.stop;have e:(Y0 (Jp r2.m [] 0 0 0) r2.d.L).base=(Y0 (Jp r.m [] 0 0 0) r.d.L).base:=by omega
 rw[e]at h;have v:¬g.length<a.length:=fun f=>by
  have:=b.ok.dY g.length f;rw[e,(c _).2 k]at this;exact b.ok.log.ne _ (Zn f) this.symm
 have p:¬a.length<g.length:=fun f=>by
  have:=D.ok.dY a.length f;rw[(c _).1 h]at this;exact D.ok.log.ne _ (Zn f) this.symm
 have:=D.last;have:=b.last;omega
def Shp.opn{mp mp2 SS SS2:Nat}{kk kk2:Lk}{M M2:KV}(h:Shp c r s r2 s2)(I:Wy r s)(m:Wy r2 s2)(ho:r.op<999)(R:FJ r s mp kk M)(a:FJ r2 s2 mp2 kk2 M2):Shp c (Wp r kk SS M) (V4 SS kk M) (Wp r2 kk2 SS2 M2)<|V4 SS2 kk2 M2:=by
 have J:=R.inv SS ho;have g:=a.inv SS2 (by rw[h.op];exact ho);have i:(Wp r kk SS M).d=r.d:=by show(Xi kk r.d).2.2=_;rw[R.mend]
 have j:(Wp r2 kk2 SS2 M2).d=r2.d:=by show(Xi kk2 r2.d).2.2=_;rw[a.mend]
 have l:∀n,(qu (Wp r2 kk2 SS2 M2).d.L n).length=(qu (Wp r kk SS M).d.L n).length:=fun n=>by rw[i,j];exact h.len n
 have f:∀{r:Sr} {s:Jo} {kk:Lk} {M:KV} {SS:Nat},Wy r s->Wy (Wp r kk SS M) (V4 SS kk M)->(Wp r kk SS M).d=r.d->(V4 SS kk M).base=s.base/\(V4 SS kk M).named=s.named:=fun I J e=>by
  obtain⟨_,_,_,_,D⟩:=I.dsk;obtain⟨_,_,_,_,E⟩:=J.dsk;have b:=E.base;have n:=E.named;rw[e]at b n;exact⟨b.trans D.base.symm,n.trans D.named.symm⟩
 obtain⟨o,n1⟩:=f I J i;obtain⟨p,q⟩:=f m g j;have k:(V4 SS2 kk2 M2).base=(V4 SS kk M).base:=by rw[o,p,h.base]
 refine⟨by show kk2.cnt=kk.cnt;rw[R.cnt,a.cnt,h.cnt],by show r2.op+1=r.op+1;rw[h.op],h.nW,l,k,J.last_eq g k l,by rw[n1,q,h.named],by show kk2.ep=kk.ep;rw[R.ep,a.ep,h.ep],rfl,rfl, ?_⟩;exact a.same.trans<|h.L.trans<|R.same.symm.mkv c
end
def Awt(r:Sr)(s:Jo)(ok:Bool)(x:dM)(r':Sr)(s':Jo):Prop:=if ok=bL/\s.P.length≠20 then∃pv,r'={r with sn:=bO<|s.more pv x}/\s'=s.more pv x else r'=r/\s'=s
def Rtt(r:Sr)(s:Jo)(r':Sr)(s':Jo):Prop:=(s.ep=5/\BH r s r'/\s'=r.ses1 s)\/(s.ep≠5/\∃r1,BH r s r1/\r'={r1.wrote (r.ses1 s) [75] ((r.ses1 s).ep+1) []with sn:=bO {r.ses1 s with last:=(r1.place<|r.ses1 s).1,ep:=(r.ses1 s).ep+1}}/\s'={r.ses1 s with last:=(r1.place<|r.ses1 s).1,ep:=(r.ses1 s).ep+1})
def Sht(r:Sr)(s:Jo)(r':Sr)(s':Jo):Prop:=(10000<(Vf s.now).length/\r'=r/\s'=s)\/(¬10000<(Vf s.now).length/\∃r1,BH r s r1/\r1.jR (r.ses1 s)=(bO 0,r')/\r'.sn=bO s'/\r'.cnt=r1.cnt/\tF r1 r'/\Len2 r'.d.L (Ye (r.ses1 s).named) (Vf (r.ses1 s).L).length)
def Stp(kd:Int)(S T:Zl)(r:Sr)(s:Jo)(r':Sr)(s':Jo):Prop:=
 if kd=1 then Awt r s (Ve S&&iW T) (.put S T) r' s'
 else if kd=2 then Awt r s (Ve S) (.del S) r' s'
 else if kd=5 then BH r s r'/\s'=r.ses1 s
 else if kd=6 then Rtt r s r' s'
 else if kd=7 then Sht r s r' s'
 else if kd=8 then∃mp kk L SS,FJ r.shut s mp kk L/\r'=Wp r.shut kk SS L/\s'=V4 SS kk L
 else r'=r/\s'=s
section
variable {c:UInt8} {r r2 r' r2':Sr} {s s2 s' s2':Jo} {S T:List UInt8}
def keyB_xor:Ve (xorL c S)=Ve S:=by unfold Ve;rw[xorL_len]
def valB_xor:iW (xorL c S)=iW S:=by unfold iW;rw[xorL_len]
def Shp.awt{ok:Bool}{x:dM}(h:Shp c r s r2 s2)(a:Awt r s ok x r' s')(b:Awt r2 s2 ok (mch c x) r2' s2'):Shp c r' s' r2' s2':=by
 unfold Awt at a b;rw[show s2.P.length=s.P.length by rw[h.P,Zb]]at b;by_cases e:ok=bL/\s.P.length≠20;rw[aA e]at a b;obtain⟨f,rfl,rfl⟩:=a;obtain⟨d,rfl,rfl⟩:=b;exact h.put x f d;rw[aB e]at a b;obtain⟨rfl,rfl⟩:=a;obtain⟨rfl,rfl⟩:=b;exact h
def Shp.now(h:Shp c r s r2 s2):(Vf s2.now).length=(Vf s.now).length:=by
 have a:iF s2.now<|s.now.map<|mkv c:=by
  unfold Jo.now;rw[<-appL_mkv,h.P];exact iF.app _ h.L
 exact Shp.size (c:=c) (r:=r) (r2:=r2) (s:={s with L:=s.now}) (s2:={s2 with L:=s2.now}) ⟨h.cnt,h.op,h.nW,h.len,h.base,h.last,h.named,h.ep,h.bP,h.P,a⟩
def Shp.shut(h:Shp c r s r2 s2):Shp c r.shut s r2.shut s2:=⟨h.cnt,h.op,h.nW,h.len,h.base,h.last,h.named,h.ep,h.bP,h.P,h.L⟩
def Stp.shp{kd:Int}(h:Shp c r s r2 s2)(I:Wy r s)(f:Wy r2 s2)(F:∀x,Wy {r with sn:=x} s)(g:∀x,Wy {r2 with sn:=x} s2)(ho:r.op<999)(a:Stp kd S T r s r' s')(b:Stp kd (xorL c S) (xorL c T) r2 s2 r2' s2'):Shp c r' s' r2' s2':=by
 unfold Stp at a b;rw[keyB_xor,valB_xor]at b;by_cases j:kd=1;rw[aA j]at a b;exact h.awt a b;rw[aB j]at a b;by_cases k:kd=2;rw[aA k]at a b;exact h.awt a b;rw[aB k]at a b;by_cases l:kd=5;rw[aA l]at a b;obtain⟨a,rfl⟩:=a;obtain⟨b,rfl⟩:=b;exact h.sync I f a b;rw[aB l]at a b;by_cases m:kd=6;rw[aA m]at a b;rcases a with⟨e,a,rfl⟩|⟨e,J,a,rfl,rfl⟩
 rcases b with⟨d,b,rfl⟩|⟨d,_⟩;exact h.sync I f a b;exact absurd (h.ep.trans e) d;rcases b with⟨d,_⟩|⟨d,i,b,rfl,rfl⟩;exact absurd (h.ep.symm.trans d) e;exact(h.sync I f a b).yB a.inv b.inv;rw[aB m]at a b;by_cases n:kd=7;rw[aA n]at a b;unfold Sht at a b;rw[h.now]at b;rcases a with⟨e,rfl,rfl⟩|⟨e,J,a,q,t,v,w,y⟩;rcases b with⟨_,rfl,rfl⟩|⟨d,_⟩;exact h;exact absurd e d;rcases b with⟨d,_⟩|⟨d,i,b,z,B,C,D,E⟩;exact absurd d e;exact(h.sync I f a b).jR q z t B v C w D y E;rw[aB n]at a b;by_cases e8:kd=8;rw[aA e8]at a b;obtain⟨O,N,L,M,R,rfl,rfl⟩:=a;obtain⟨H,G,K,p,o,rfl,rfl⟩:=b;exact h.shut.opn (F bN) (g bN) ho R o;rw[aB e8]at a b;obtain⟨rfl,rfl⟩:=a;obtain⟨rfl,rfl⟩:=b;exact h
def awt_put{k k':gZ}(d:r.sn=bO s)(a:r'.sn=bO s')(h:jW r s k bK S T r' k'):Awt r s (Ve S&&iW T) (.put S T) r' s':=by
 unfold jW at h;unfold Awt;simp only[xu,if_false]at h;by_cases b:(Ve S&&iW T)=bK;rw[aA b]at h;rw[aB<|by simp[b]];obtain⟨rfl,rfl⟩:=h;exact⟨rfl,jf<|a.symm.trans d⟩;rw[aB b]at h;by_cases c:s.P.length=20;rw[aA c]at h;rw[aB<|by simp[c]];obtain⟨rfl,rfl⟩:=h;exact⟨rfl,jf<|a.symm.trans d⟩;rw[aB c]at h;rw[aA ⟨by simpa using b,c⟩];obtain⟨e,sv,rfl,rfl⟩:=h;exact⟨e,rfl,(jf a).symm⟩
def awt_del{k k':gZ}(d:r.sn=bO s)(a:r'.sn=bO s')(h:jW r s k bL S T r' k'):Awt r s (Ve S) (.del S) r' s':=by
 unfold jW at h;unfold Awt;simp only[if_true,show iW []=bL from rfl,Bool.and_true]at h;by_cases b:Ve S=bK;rw[aA b]at h;rw[aB<|by simp[b]];obtain⟨rfl,rfl⟩:=h;exact⟨rfl,jf<|a.symm.trans d⟩;rw[aB b]at h;by_cases c:s.P.length=20;rw[aA c]at h;rw[aB<|by simp[c]];obtain⟨rfl,rfl⟩:=h;exact⟨rfl,jf<|a.symm.trans d⟩;rw[aB c]at h;rw[aA ⟨by simpa using b,c⟩];obtain⟨e,sv,rfl,rfl⟩:=h;exact⟨e,rfl,(jf a).symm⟩
def rtt_of{r1:Sr}(a:s.ep≠5)(S:BH r s r1)(h:r.bV s=(bO 0,r'))(b:r'.sn=bO s'):Rtt r s r' s':=by
 unfold Sr.bV at h;rw[S.run,aA rfl,aB<|by rw[S.ep];exact a,Mw (c:=75) (ep:=(r.ses1 s).ep+1) (plain:=[]) S.inv<|by simp,aA rfl]at h;cases h;exact .inr ⟨a,r1,S,rfl,(jf b).symm⟩
def two_len{n:Nat}(I:Wy r s)(h:Two r.d.L n):Len2 r.d.L s.named n:=by
 obtain⟨p,a,f,z,i,j,k⟩:=h;have o:p≠[]->f=s.named:=fun g=>by
  obtain⟨_,B,_,_,D⟩:=I.dsk;have e0:qu r.d.L 0=a:=by rw[k,aA rfl]
  have w:qu r.d.L f=p:=by rw[k,aB<|by omega,aA rfl]
  have hk:Y0 (Jp r.m [] 0 0 0) r.d.L=(Jp r.m [] 0 0 0).begun (iL a) 0:=by
   unfold Y0;rw[e0,aB fun e=>by rw[e]at i;cases i];rfl
  have l:=D.ok.own f (by rw[w];exact g);have q:=D.ok.low;have t:=D.named;rw[hk]at l q t;have x:((Jp r.m [] 0 0 0).begun (iL a) 0).base=((iL a).base:Int):=rfl;rw[x]at l q;rcases l with e|e|e
  omega;rw[t,e];show(if 0<(iL a).len then((iL a).file:Int)else 0)=((iL a).file:Int);by_cases c:0<(iL a).len;rw[aA c];have v:f=if 0<(iL a).len then((iL a).file:Int)else 0:=e
  rw[aB c]at v;omega;omega
 intro y;rw[k];by_cases b:y=0;rw[aA b,aA b,i];rw[aB b,aB b];by_cases g:p=[];rw[g]at j⊢;subst j;split<;>split<;>rfl
 rw[o g];split;exact j;rfl
def sht_of{r1:Sr}(S:BH r s r1)(h:r.dG s=(bO 0,r'))(b:r'.sn=bO s')(I:Wy r' s')(c:r'.cnt=r1.cnt)(K:tF r r')(t:Two r'.d.L (Vf s.now).length)(a:¬10000<(Vf s.now).length):Sht r s r' s':=by
 unfold Sr.dG at h;rw[S.run,aA rfl]at h;have h:r1.jR (r.ses1 s)=(bO 0,r'):=h;refine .inr ⟨a,r1,S,h,b,c,⟨K.op.trans S.keep.op.symm,K.m.trans S.keep.m.symm,K.D.trans S.keep.D.symm,K.M.trans S.keep.M.symm,K.nW.trans S.keep.nW.symm⟩, ?_⟩;have:=two_len I t;rw[shot_sn h b]at this;rw[S.L];exact this
def stp1(h:Awt r s (Ve S&&iW T) (.put S T) r' s'):Stp 1 S T r s r' s':=h
def stp2(h:Awt r s (Ve S) (.del S) r' s'):Stp 2 S T r s r' s':=h
def stp5(h:BH r s r'):Stp 5 S T r s r'<|r.ses1 s:=⟨h,rfl⟩
def stp6(h:Rtt r s r' s'):Stp 6 S T r s r' s':=h
def stp7(h:Sht r s r' s'):Stp 7 S T r s r' s':=h
def stp8{mp SS:Nat}{kk:Lk}{L:KV}(h:FJ r s mp kk L):Stp 8 S T r s (Wp r kk SS L)<|V4 SS kk L:=⟨mp,kk,L,SS,⟨h.look,h.mend,h.dD,h.rC,h.cnt,h.tag,h.same,h.inv,h.ep,h.dK⟩,rfl,rfl⟩
def stp0{kd:Int}(h:kd≠1/\kd≠2/\kd≠5/\kd≠6/\kd≠7/\kd≠8):Stp kd S T r s r s:=by
 unfold Stp;rw[aB h.1,aB h.2.1,aB h.2.2.1,aB h.2.2.2.1,aB h.2.2.2.2.1,aB h.2.2.2.2.2];exact⟨rfl,rfl⟩
end
end P
namespace P
open A.Tryq Go.RowKit A
variable [pn:A.Pn]
attribute [local go_sem] xe zv
section
variable {lo B b:Nat} {cv tv:Zv} {s:Jo} {k:gZ} {r:Sr} {w:Zy}
structure Pl(cv tv:Zv)(lo B b:Nat)(r:Sr)(s:Jo)(k:gZ)(w:Zy):Prop where
 st:Jq w B r
 bk:W6 w b k
 sn:r.sn=bO s
 inv:Wy r s
 fI:Bk r s k
 own:∀x,r.own B x->lo<=x
 l4:2<lo
 bl:lo<=b
 wC:iA cv tv w
theorem Pl.size(h:Pl cv tv lo B b r s k w):lo<w.heap.size:=Nat.lt_of_le_of_lt h.bl h.bk.blk.lt
def Pl.nw{w w':Zy}(h:Pl cv tv lo B b r s k w)(n:Nw w w'):Pl cv tv lo B b r s k w':=
 ⟨h.st.but n fun _ _=>id,⟨h.bk.blk.but n id,h.bk.kept.but n fun _ _ _=>id,h.bk.seen.but n fun _ _ _=>id⟩,h.sn,h.inv,h.fI,h.own,h.l4,h.bl,h.wC.but (S:=fun _=>False) n fun _ x=>x.elim⟩
def Pl.ok(h:Pl cv tv lo B b r s k w):fV B r:=fV.of h.inv (.inl h.sn) fun x a=>by have:=h.own x a;have:=h.l4;omega
def Pl.to{r r':Sr}{s s':Jo}{k k':gZ}{w w' w2:Zy}(h:Pl cv tv lo B b r s k w)(t:jt B r w r' w')(f:xb (·=b) w' w2)(hk:W6 w2 b k')(j:r'.sn=bO s')(i:Wy r' s')(g:Bk r' s' k'):Pl cv tv lo B b r' s' k' w2:=by
 have d:¬r'.own B b:=fun a=>(t.at_.dX a<|h.st |> fun _=>(jt.fI h.st t h.bk).blk).2 rfl;have l:=h.size;refine⟨t.at_.but f fun x a e=>d<|by have e:=e;rw[<-e];exact a,hk,j,i,g,fun x a=>?_,h.l4,h.bl, ?_⟩;rcases t.own x a with c|c
 exact h.own x c;omega;have c:xb (fun x=>r.own B x\/x=b) w w2:=(t.but.mono fun _ h=> .inl h).trans<|f.mono fun _ h=> .inr h;refine h.wC.but c fun x a=>?_;have:=h.l4;rcases a with a|a
 have:=h.own x a;omega;have:=h.bl;omega
def Pl.old{r r':Sr}{w w' w2:Zy}(h:Pl cv tv lo B b r s k w)(t:jt B r w r' w')(a:xb (·=b) w' w2):xb (fun x=>r.own B x\/x=b) w w2:=
 (t.but.mono fun _=> .inl).trans (a.mono fun _=> .inr)
def jH(kd N M:Int)(S T:Zl):Zv:= .agg #[.int .i64 kd,.int .i64 N,.int .i64 M,.string<|st S,.string<|st T]
def iY(cv tv:Zv)(lo B b:Nat)(kd:Int)(S T:Zl)(r:Sr)(s:Jo)(w:Zy)(e:Ending)(w':Zy):Prop:=
 e= .returned (.bool bL)/\xb (fun x=>r.own B x\/x=b) w w'/\∃r' s' k',Pl cv tv lo B b r' s' k' w'/\(r'.cnt<=r.cnt+2/\r'.op<=r.op+1/\s'.bP<=s.bP+1)/\(∀x,r'.own B x->r.own B x\/w.heap.size<=x)/\Stp kd S T r s r' s'
def own_nw{B:Nat}{r r':Sr}{w w1 w2:Zy}(n:Nw w w1)(t:jt B r w1 r' w2)(x:Nat)(hx:r'.own B x):r.own B x\/w.heap.size<=x:=(t.own x hx).imp id<|xz n.size
def SR(N M:Int)(S T:Zl)(h:Pl cv tv lo B b r s k w)(y:r.cnt<=29):
  bE prog 21 #[zo b,zo B,jH 5 N M S T] w (iY cv tv lo B b 5 S T r s w):=by
 have i:Hid<|Nw w<|w.alloc<|.cells #[zi 5,zi N,zi M,zs S,zs T] 47:=Nw.alloc _ _;have a:=zl<|h.nw i.o;clear h;unfold jH;go_enter func21.1,Tryz.ntmps21
 go_wp2_with fail
 generalize w.alloc (.cells #[zi 5,zi N,zi M,zs S,zs T] 47)=w1 at*;obtain⟨q,l⟩:=a.o.inv.sync a.o.sn (by omega);have d:=zl l;have c:=l.run;refine(vA B r s _ a.o.st a.o.sn a.o.ok a.o.wC a.o.inv.P<|by rw[c];simp).mono ?_;rintro e C ⟨v,z,n,rfl,j⟩;rw[c]at n;cases n;have T2:=zl j;have p:=zl<|jt.fI a.o.st j a.o.bk;have m:k.recs<=1000000:=by have:=a.o.fI.recs;omega
 clear j l c
 go_wp2_with fail
 refine(QV b k m _ p.o).mono ?_;rintro e t ⟨rfl,f,g⟩;have o:Hid<|iY cv tv lo B b 5 S T r s w (.returned<|.bool bL) t:=by
  refine⟨rfl,((i.o.mono fun _ x=>x.elim).trans<|a.o.old T2.o f),q,r.ses1 s,k.synced,a.o.to T2.o f g d.o.sn d.o.inv<|QU a.o.fI d.o,⟨?_, ?_, ?_⟩,own_nw i.o T2.o,stp5 d.o⟩;rw[d.o.cnt];split<;>omega
  rw[d.o.keep.op];omega;rw[d.o.bP];omega
 clear f g
 go_wp2_with fail
 go_ret
 exact o.o
def SJ(N M:Int)(S T:Zl)(h:Pl cv tv lo B b r s k w)(m:r.cnt<=29):
  bE prog 21 #[zo b,zo B,jH 4 N M S T] w (iY cv tv lo B b 4 S T r s w):=by
 have f:Hid<|Nw w<|w.alloc<|.cells #[zi 4,zi N,zi M,zs S,zs T] 47:=Nw.alloc _ _;have a:=zl<|h.nw f.o;clear h;unfold jH;go_enter func21.1,Tryz.ntmps21;have l:(w.alloc<|.cells #[zi 4,zi N,zi M,zs S,zs T] 47).cell? (zq b 1)=bO k.sv:=a.o.bk.blk.cell 1 rfl
 go_wp2_with fail
 generalize w.alloc (.cells #[zi 4,zi N,zi M,zs S,zs T] 47)=w1 at*;have c:=a.o.fI.seen;refine(Pp B r s _ k.sv _ a.o.st a.o.sn a.o.inv.P20 (fun p i=>by have:=(TF a.o.inv p i).2.1;omega) (by have:=EP a.o.inv;omega) a.o.bk.seen (by rw[c];exact(KN _).symm)<|by rw[c];exact D8 a.o.inv a.o.sn).mono ?_;rintro e j ⟨rfl,d⟩;have g:Hid<|iY cv tv lo B b 4 S T r s w (.returned<|.bool bL) j:=⟨rfl,((f.o.trans d).mono fun _ x=>x.elim),r,s,k,a.o.nw d,⟨by omega,by omega,by omega⟩,fun _=> .inl,stp0<|by decide⟩;clear d c
 go_wp2_with fail
 go_ret
 exact g.o
def Hm(N M:Int)(S T:Zl)(h:Pl cv tv lo B b r s k w)(J:r.cnt<=29):
  bE prog 21 #[zo b,zo B,jH 1 N M S T] w (iY cv tv lo B b 1 S T r s w):=by
 have l:Hid<|Nw w<|w.alloc<|.cells #[zi 1,zi N,zi M,zs S,zs T] 47:=Nw.alloc _ _;have X0:Hid<|xx (w.alloc<|.cells #[zi 1,zi N,zi M,zs S,zs T] 47) w.heap.size #[zi 1,zi N,zi M,zs S,zs T] 47:=xx.new _ _ _;have a:=zl<|h.nw l.o;clear h;unfold jH;go_enter func21.1,Tryz.ntmps21;have E:=X0.o.cell 0 rfl;have F:=X0.o.cell 1 rfl;have G:=X0.o.cell 2 rfl;have H:=X0.o.cell 3 rfl;have I:=X0.o.cell 4 rfl
 go_wp2_with fail
 generalize w.alloc (.cells #[zi 1,zi N,zi M,zs S,zs T] 47)=w1 at*;refine(zzw B b r s k N M S T _ a.o.st a.o.bk a.o.sn a.o.inv.P20 a.o.fI.pend<|by rw[a.o.fI.seen,KZ];have:=EP a.o.inv;omega).mono ?_;rintro e D ⟨rfl,z,y,g,c⟩;obtain⟨C,f,j,i,n,p,q⟩:=dE a.o.inv a.o.sn a.o.fI g;have t:Hid<|iY cv tv lo B b 1 S T r s w (.returned<|.bool bL) D:=by
  have v:=a.o.size;have o:=a.o.l4;have m:=a.o.bl;refine⟨rfl,(l.o.mono fun _ x=>x.elim).trans c.but,z,C,y,⟨c.st,c.bk,f,j,i,fun x d=>?_,o,m,a.o.wC.but c.but fun x d=>?_⟩,⟨by omega,by omega,by omega⟩,fun x d=>(c.own x d).imp id<|xz l.o.size,stp1<|awt_put a.o.sn f g⟩;rcases c.own x d with d|d
  exact a.o.own x d;omega;rcases d with d|d
  have:=a.o.own x d;omega;omega
 clear g c f j i n p q
 go_wp2_with fail
 go_ret
 exact t.o
def Hj(N M:Int)(S T:Zl)(h:Pl cv tv lo B b r s k w)(J:r.cnt<=29):
  bE prog 21 #[zo b,zo B,jH 2 N M S T] w (iY cv tv lo B b 2 S T r s w):=by
 have l:Hid<|Nw w<|w.alloc<|.cells #[zi 2,zi N,zi M,zs S,zs T] 47:=Nw.alloc _ _;have X0:Hid<|xx (w.alloc<|.cells #[zi 2,zi N,zi M,zs S,zs T] 47) w.heap.size #[zi 2,zi N,zi M,zs S,zs T] 47:=xx.new _ _ _;have a:=zl<|h.nw l.o;clear h;unfold jH;go_enter func21.1,Tryz.ntmps21;have E:=X0.o.cell 0 rfl;have F:=X0.o.cell 1 rfl;have G:=X0.o.cell 2 rfl;have H:=X0.o.cell 3 rfl;have I:=X0.o.cell 4 rfl
 go_wp2_with fail
 generalize w.alloc (.cells #[zi 2,zi N,zi M,zs S,zs T] 47)=w1 at*;refine(zzv B b r s k N M S T _ a.o.st a.o.bk a.o.sn a.o.inv.P20 a.o.fI.pend<|by rw[a.o.fI.seen,KZ];have:=EP a.o.inv;omega).mono ?_;rintro e D ⟨rfl,z,y,g,c⟩;obtain⟨C,f,j,i,n,p,q⟩:=dE a.o.inv a.o.sn a.o.fI g;have t:Hid<|iY cv tv lo B b 2 S T r s w (.returned<|.bool bL) D:=by
  have v:=a.o.size;have o:=a.o.l4;have m:=a.o.bl;refine⟨rfl,(l.o.mono fun _ x=>x.elim).trans c.but,z,C,y,⟨c.st,c.bk,f,j,i,fun x d=>?_,o,m,a.o.wC.but c.but fun x d=>?_⟩,⟨by omega,by omega,by omega⟩,fun x d=>(c.own x d).imp id<|xz l.o.size,stp2<|awt_del a.o.sn f g⟩;rcases c.own x d with d|d
  exact a.o.own x d;omega;rcases d with d|d
  have:=a.o.own x d;omega;omega
 clear g c f j i n p q
 go_wp2_with fail
 go_ret
 exact t.o
def zqo{B:Nat}{r r1:Sr}{x:Nat}(f:r.sn=bO s)(S:BH r s r1)(hx:r1.own B x):r.own B x:=by
 rcases hx with e|(e|e|⟨c,b,_⟩)|⟨t,d,hx⟩;exact .inl e;exact .inr (.inl<|.inl<|by rw[<-S.keep.D];exact e);exact .inr (.inl<|.inr<|.inl<|by rw[<-S.keep.M];exact e);rw[S.inv.nx]at b;cases b;rw[S.sn]at d;cases d;refine .inr<|.inr ⟨s,f, ?_⟩;unfold Sr.ses1 at hx;split at hx;exact hx;rcases hx with e|e|⟨a,n,c,g,e⟩;exact .inl e;exact .inr<|.inl e;cases g
def Pl.ok1{r r1:Sr}(h:Pl cv tv lo B b r s k w)(S:BH r s r1):fV B r1:=fV.of S.inv (.inl S.sn) fun x a=>by have:=h.own x<|zqo h.sn S a;have:=h.l4;omega
def Hn(N M:Int)(S T:Zl)(h:Pl cv tv lo B b r s k w)(U:r.cnt<=29):
  bE prog 21 #[zo b,zo B,jH 6 N M S T] w (iY cv tv lo B b 6 S T r s w):=by
 have L:Hid<|Nw w<|w.alloc<|.cells #[zi 6,zi N,zi M,zs S,zs T] 47:=Nw.alloc _ _;have a:=zl<|h.nw L.o;clear h;unfold jH;go_enter func21.1,Tryz.ntmps21
 go_wp2_with fail
 generalize w.alloc (.cells #[zi 6,zi N,zi M,zs S,zs T] 47)=w1 at*;have bb:=a.o.inv.rotate a.o.sn (by omega);obtain⟨r2,R⟩:=a.o.inv.sync a.o.sn (by omega);have m:∀V,r.bW s=(bO 0,V)->fV B V:=fun V e=>by rw[R.run]at e;cases e;exact a.o.ok1 R
 have Q:k.recs<=1000000:=by have:=a.o.fI.recs;omega
 have bd:k.synced.recs<=1000000:=by have:=a.o.fI.recs;show(if 0<k.pend then k.recs+1 else k.recs)<=_;split<;>omega
 have i:=a.o.fI.ep;rcases bb with⟨I,J,d,f⟩|⟨I,V,J,W,f,d,p,o,n,y,F,G,C,z⟩
 ·refine(Qo B r s _ a.o.st a.o.sn a.o.ok m a.o.wC a.o.inv.P (by have:=a.o.inv.ep;omega)<|by rw[d];simp).mono ?_
  rintro e w2 ⟨v,bc,O,rfl,E⟩;rw[d]at O;cases O;have T2:=zl E;have K2:=zl<|jt.fI a.o.st E a.o.bk;have j:=zl f;have Y:=zl I;have HE:=zl<|i.trans I;clear E R f d m i I
  go_wp2_with fail
  refine(QV b k Q _ K2.o).mono ?_;rintro e q ⟨rfl,l,c⟩;have c3:q.cell? (zq b 3)=bO (zi 5):=(c.blk.cell 3 rfl).trans (by show bO (zi k.ep)=_;rw[HE.o];rfl);have X:Hid<|iY cv tv lo B b 6 S T r s w (.returned<|.bool bL) q:=by
   refine⟨rfl,((L.o.mono fun _ x=>x.elim).trans<|a.o.old T2.o l),J,r.ses1 s,k.synced,a.o.to T2.o l c j.o.sn j.o.inv<|QU a.o.fI j.o,⟨?_, ?_, ?_⟩,own_nw L.o T2.o,stp6<|.inl ⟨Y.o,j.o,rfl⟩⟩;rw[j.o.cnt];split<;>omega
   rw[j.o.keep.op];omega;rw[j.o.bP];omega
  clear l c
  go_wp2_with fail
  go_ret
  exact X.o
 refine(Qo B r s _ a.o.st a.o.sn a.o.ok m a.o.wC a.o.inv.P (by have:=a.o.inv.ep;omega)<|by rw[d];simp).mono ?_;rintro e w2 ⟨v,bc,O,rfl,E⟩;rw[d]at O;cases O;have T2:=zl E;have K2:=zl<|jt.fI a.o.st E a.o.bk;have bf:¬(k.ep:Int)=5:=by rw[i];omega
 have be:k.ep<=5:=by rw[i];exact a.o.inv.ep
 have K:=zl<|QU a.o.fI f;have HQ:Hid<|∀H:gZ,H.seen=k.synced.seen->H.kept=k.synced.kept->H.pend=k.synced.pend->H.ep=k.synced.ep+1->H.recs=k.synced.recs+1->Bk J W H:=fun H e1 e2 e3 e4 e5=>by
  have hn:W.now=(r.ses1 s).now:=by unfold Jo.now;rw[F,G,f.P]
  exact⟨by rw[e1,hn];exact K.o.seen,by rw[e2,F];exact K.o.kept,by rw[e3,K.o.pend,G,f.P],by rw[e4,K.o.ep,f.ep,y],by rw[e5,K.o.recs,n]⟩
 have HI:=zl o;have Z:=zl p;have HR:=zl<|rtt_of I f d p;have HC:Hid<|J.cnt<=r.cnt+2/\J.op<=r.op+1/\W.bP<=s.bP+1:=by
  refine⟨?_, ?_, ?_⟩;rw[n,f.cnt];split<;>omega
  rw[z.op];omega;rw[C];omega
 clear E R f d m i I o p n y F G C z
 go_wp2_with fail
 refine(QV b k Q _ K2.o).mono ?_;rintro e q ⟨rfl,l,c⟩;have c3:q.cell? (zq b 3)=bO (zi k.ep):=c.blk.cell 3 rfl;have c4:q.cell? (zq b 4)=bO (zi k.synced.recs):=c.blk.cell 4 rfl;have f3:=c.blk.bT 3;have f4:=c.blk.bT 4;have i1:IntKind.i64.wrap ((k.ep:Int)+1)=(k.ep:Int)+1:=by rw[xn];omega
 have i2:IntKind.i64.wrap ((k.synced.recs:Int)+1)=(k.synced.recs:Int)+1:=by rw[xn];omega
 have X:Hid<|iY cv tv lo B b 6 S T r s w (.returned<|.bool bL)<|(q.setCell (zq b 3)<|zi<|(k.ep:Int)+1).setCell (zq b 4)<|zi<|(k.synced.recs:Int)+1:=by
  have t:xb (·=b) q<|(q.setCell (zq b 3)<|zi<|(k.ep:Int)+1).setCell (zq b 4)<|zi<|(k.synced.recs:Int)+1:=(xb.set q (zq b 3) _).trans<|xb.set _ (zq b 4) _;have ba:W6 ((q.setCell (zq b 3)<|zi<|(k.ep:Int)+1).setCell (zq b 4)<|zi<|(k.synced.recs:Int)+1) b {k.synced with ep:=k.ep+1,recs:=k.synced.recs+1}:=
   ⟨(c.blk.set 3 _).set 4 _,c.kept.but t fun g D U=>c.blk.dR (by decide) g D U,c.seen.but t fun g D U=>c.blk.dR (by decide) g D U⟩
  exact⟨rfl,((L.o.mono fun _ x=>x.elim).trans<|a.o.old T2.o<|l.trans t),J,W,_,a.o.to T2.o (l.trans t) ba Z.o HI.o<|HQ.o _ rfl rfl rfl rfl rfl,HC.o,own_nw L.o T2.o,stp6 HR.o⟩
 clear l c;generalize k.synced.recs=rc at*
 go_wp2_with fail
 go_ret
 exact X.o
def wI(h:Pl cv tv lo B b r s k w):
  bE prog 19 #[zo b] w fun e w'=>e= .returned (zi<|lW k.seen)/\Nw w w':=by
 have a:=h.fI.seen;exact xod b k (by rw[a];exact(cX h.inv.oN).sK<|TF h.inv) (by rw[a,KZ];have:=EP h.inv;omega) _ h.bk
def wH(h:Pl cv tv lo B b r s k w)(Q:r.cnt<=31)(C:s.bP<999)(J:lW k.seen<=10000):
  bE prog 20 #[zo B] w fun e w'=>e= .returned (zi 0)/\∃r' s',jt B r w r' w'/\r'.sn=bO s'/\Wy r' s'/\Bk r' s' k.synced/\(r'.cnt<=r.cnt+2/\r'.op<=r.op+1/\s'.bP<=s.bP+1)/\Sht r s r' s':=by
 have p:=h.fI.seen;have I:(Vf s.now).length=lW k.seen:=by rw[zx5,<-p]
 obtain⟨x,r',s',a,g,j,f,m,n,o,t,c,i,z,D⟩:=h.inv.GH h.sn (by omega) C (by omega);have q:∀x,r.bW s=(bO 0,x)->fV B x/\x.d.L.length+2<1000000/\jM (r.ses1 s).L/\(r.ses1 s).L.length<=1000000/\0<=(r.ses1 s).bP/\(r.ses1 s).bP<=999/\(qu x.d.L<|Ye (r.ses1 s).named).length<=900000:=fun M e=>by
  rw[a.run]at e;cases e;have y:=a.inv.few;have N:=a.inv.cnt;have E:=a.inv.len;have G:=a.inv.sh0;have O:=a.bP;refine⟨h.ok1 a,by omega,a.inv.sK,by omega,G,by omega,by rw[z];simp⟩
 have F:Bk r' s' k.synced:=by
  have l:=QU h.fI a;have H:s'.now=(r.ses1 s).now:=by unfold Jo.now;rw[m,n,a.P]
  exact⟨by rw[H];exact l.seen,by rw[m];exact l.kept,by rw[l.pend,n,a.P],by rw[l.ep,a.ep,o],by rw[l.recs,c]⟩
 refine(zvy B r s _ h.st h.sn h.ok q h.wC h.inv.P (by have:=h.inv.ep;omega)<|by rw[g];simp).mono ?_;rintro e R ⟨v,K,y,rfl,E⟩;rw[g]at y;cases y;refine⟨rfl,r',s',E,j,f,F,⟨?_, ?_, ?_⟩,sht_of a g j f c i D<|by omega⟩;rw[c,a.cnt];split<;>omega
 rw[i.op];omega;rw[t];omega
def SP(N M:Int)(S T:Zl)(h:Pl cv tv lo B b r s k w)(Q:r.cnt<=29)(q:s.bP<999):
  bE prog 21 #[zo b,zo B,jH 7 N M S T] w (iY cv tv lo B b 7 S T r s w):=by
 have v:Hid<|Nw w<|w.alloc<|.cells #[zi 7,zi N,zi M,zs S,zs T] 47:=Nw.alloc _ _;have j:=zl<|h.nw v.o;clear h;unfold jH;go_enter func21.1,Tryz.ntmps21
 go_wp2_with fail
 generalize w.alloc (.cells #[zi 7,zi N,zi M,zs S,zs T] 47)=w1 at*;refine(wI j.o).mono ?_;rintro e D ⟨rfl,d⟩;have a:=zl<|j.o.nw d;have n:Hid<|Nw w D:=v.o.trans d;clear d;by_cases t:10000<lW k.seen
 ·have J:(10000:Int)<(lW k.seen:Int):=by omega
  have l:Hid<|iY cv tv lo B b 7 S T r s w (.returned<|.bool bL) D:=⟨rfl,(n.o.mono fun _ x=>x.elim),r,s,k,a.o,⟨by omega,by omega,by omega⟩,fun _=> .inl,stp7<|.inl ⟨by rw[zx5,<-a.o.fI.seen];exact t,rfl,rfl⟩⟩
  go_wp2_with fail
  go_ret
  exact l.o
 have J:¬(10000:Int)<(lW k.seen:Int):=by omega
 have p:k.recs<=1000000:=by have:=j.o.fI.recs;omega
 go_wp2_with fail
 refine(wH a.o (by omega) q<|by omega).mono ?_;rintro e R ⟨rfl,K,L,o,i,C,y,z,f⟩;have T2:=zl o;have I:=zl<|jt.fI a.o.st o a.o.bk;have m:=zl i;have H:=zl C;have E:=zl y;have F:=zl z;have G:=zl f;clear o i C y z f
 go_wp2_with fail
 refine(QV b k p _ I.o).mono ?_;rintro e O ⟨rfl,c,g⟩;have l:Hid<|iY cv tv lo B b 7 S T r s w (.returned<|.bool bL) O:=⟨rfl,((n.o.mono fun _ x=>x.elim).trans<|a.o.old T2.o c),K,L,k.synced,a.o.to T2.o c g m.o H.o E.o,F.o,own_nw n.o T2.o,stp7 G.o⟩;clear c g
 go_wp2_with fail
 go_ret
 exact l.o
def SM(a N M:Int)(S T:Zl)(h:Pl cv tv lo B b r s k w)(o:r.cnt<=29)(e:¬a=1)(f:¬a=2)(m:¬a=3)(n:¬a=4)(g:¬a=5)(i:¬a=6)(j:¬a=7)(l:¬a=8):
  bE prog 21 #[zo b,zo B,jH a N M S T] w (iY cv tv lo B b a S T r s w):=by
 have c:Hid<|Nw w<|w.alloc<|.cells #[zi a,zi N,zi M,zs S,zs T] 47:=Nw.alloc _ _;have d:=zl<|h.nw c.o;clear h;unfold jH;go_enter func21.1,Tryz.ntmps21
 go_wp2_with fail
 generalize w.alloc (.cells #[zi a,zi N,zi M,zs S,zs T] 47)=w1 at*
 go_ret
 exact⟨rfl,(c.o.mono fun _ x=>x.elim),r,s,k,d.o,⟨by omega,by omega,by omega⟩,fun _=> .inl,stp0 ⟨e,f,g,i,j,l⟩⟩
def Hk(N M:Int)(S T:Zl)(h:Pl cv tv lo B b r s k w)(hc:r.cnt<=29):
  bE prog 21 #[zo b,zo B,jH 3 N M S T] w (iY cv tv lo B b 3 S T r s w):=by
 have N0:Hid<|Nw w<|w.alloc<|.cells #[zi 3,zi N,zi M,zs S,zs T] 47:=Nw.alloc _ _;have X0:Hid<|xx (w.alloc<|.cells #[zi 3,zi N,zi M,zs S,zs T] 47) w.heap.size #[zi 3,zi N,zi M,zs S,zs T] 47:=xx.new _ _ _;have m:=zl<|h.nw N0.o;clear h;unfold jH;go_enter func21.1,Tryz.ntmps21;have a3:(w.alloc<|.cells #[zi 3,zi N,zi M,zs S,zs T] 47).cell? (zq w.heap.size 3)=bO (zs S):=X0.o.cell 3 rfl
 go_wp2_with fail
 generalize w.alloc (.cells #[zi 3,zi N,zi M,zs S,zs T] 47)=w1 at*;refine(TM B r S _ m.o.st fun t ht=>by rw[m.o.sn]at ht;cases ht;exact m.o.inv.P20).mono ?_;rintro e G ⟨rfl,z⟩;have U:=zl<|m.o.nw z;have N2:Hid<|Nw w G:=N0.o.trans z;have X2:=zl<|X0.o.nw z;have Q:Hid<|∀w',Nw G w'->iY cv tv lo B b 3 S T r s w (.returned<|.bool bL) w':=fun w' y=>⟨rfl,((N2.o.trans y).mono fun _ x=>x.elim),r,s,k,U.o.nw y,⟨by omega,by omega,by omega⟩,fun _=> .inl,stp0<|by decide⟩;have W:Hid (r.gets S=if Ve S=bK then(([],6):Zl×Int)else match Zh s.now S with
  |none=>([],8)
  |some v=>(v,0)):=SY m.o.sn S
 clear a3 z;have b3:G.cell? (zq w.heap.size 3)=bO (zs S):=X2.o.cell 3 rfl;by_cases c:Ve S=bK
 ·have e1:r.gets S=([],6):=by rw[W.o,aA c]
  rw[e1];have bc:=xo [];have d:¬(0<S.length/\S.length<=16):=by simpa[Ve]using c
  by_cases hl:S.length<1
  ·have i1:((S.length:Nat):Int)<1:=by omega
   clear e1 c d
   go_wp2_with fail
   go_ret
   exact Q.o _<|xb.refl _ _
  have i1:¬((S.length:Nat):Int)<1:=by omega
  have i2:16<((S.length:Nat):Int):=by omega
  clear e1 c d
  go_wp2_with fail
  go_ret
  exact Q.o _<|xb.refl _ _
 have d:0<S.length/\S.length<=16:=by simpa[Ve]using c
 have i1:¬((S.length:Nat):Int)<1:=by omega
 have i2:¬16<((S.length:Nat):Int):=by omega
 obtain⟨p,g,bf,O,be,D⟩:=id U.o.bk.seen;have Z:=(U.o.bk.blk.cell 1 rfl).trans<|congrArg bO O;have V:=zl Z;have HR:=zl D;have a:=zl m.o.fI.seen;have bh:k.seen.length<=1000:=by rw[a.o,KZ];exact EP m.o.inv
 have f:Hid<|∀j (h:j<k.seen.length),k.seen[j].1=S->r.gets S=(k.seen[j].2,0):=fun j h e=>by
  have hg:=D8 m.o.inv m.o.sn;have R:=a.o;have h':j<(fD s.now).length:=by rw[<-R];exact h
  have:=hg j h';have e2:(fD s.now)[j]=k.seen[j]:=by simp only[R]
  rw[e2,e]at this;exact this
 have E:Hid<|(∀j (h:j<k.seen.length),k.seen[j].1≠S)->r.gets S=([],8):=fun C=>by
  have R:=a.o;have:Zh s.now S=bN:=by
   rw[<-yH,<-R];refine QC fun hm=>?_;obtain⟨q,hq,e⟩:=qp.1 hm;obtain⟨j,hj,rfl⟩:=List.mem_iff_getElem.1 hq;exact C j hj e
  rw[W.o,aB c,this]
 obtain⟨gv,ge,F⟩:∃gv ge,r.gets S=(gv,ge):=⟨_,_,rfl⟩;have H:=zl F;rw[F];clear c D O F W d a Z;generalize k.seen=l at*
 go_wp2_with fail
 go_loopw [9] (fun i wr=>∃j:Nat,j<=l.length/\i=zi j/\Nw G wr/\∀n (h:n<l.length),n<j->l[n].1≠S) (fun i _=>(l.length-intOf i).toNat)
 case atStart=>exact⟨0,by omega,rfl,xb.refl _ _,fun n h y=>absurd y<|Wd _⟩
 case round=>
  obtain⟨j,hj,rfl,y,C⟩:=hrel;have K:=zl y;have HJ:=zl C;have Z:=y.cell id V.o;clear y C;by_cases o:j<l.length
  ·have i3:(j:Int)<(l.length:Nat):=by omega
   have i0:(0:Int)<=(j:Int):=by omega
   have bd:l≠[]:=by intro e;rw[e]at o;cases o
   obtain⟨rfl,hr⟩:=HR.o bd;have h1:=(hr.but K.o id).cell j o;have s0:=h1.1;have s1:=h1.2;have s2:wr.cell? (zq w.heap.size 3)=bO (zs S):=(X2.o.nw K.o).cell 3 rfl;have HK:Hid<|l[j].1=S->(gv,ge)=(l[j].2,(0:Int)):=fun e=>H.o.symm.trans<|f.o j o e;have I:Hid (l[j].1≠S->∀n (h:n<l.length),n<j+1->l[n].1≠S):=fun e n h y=>by
    by_cases e2:n=j;subst e2;exact e;exact HJ.o n h<|by omega
   generalize l[j].1=qk at*;generalize l[j].2=qv at*;clear hr h1 E f;by_cases L:qk=S
   ·have bb:=HK.o L
    cases bb;subst L
    go_wp2_with fail
    go_quiet (fail)
    have Y:Hid<|Nw G<|wr.drewN nq:=K.o.trans (xb.refl _ _).drewN'
    go_wp2_with fail
    go_ret
    exact Q.o _ Y.o
   have bg:((st qk).toList==(st S).toList)=bK:=by rw[xo,xo];simpa using L
   have J:=I.o L;have X:=zl J;clear J I HK L
   go_wp2_with fail
   go_quiet (fail)
   have Y:Hid<|Nw G<|wr.drewN nq:=K.o.trans (xb.refl _ _).drewN'
   go_wp2_with fail
   go_roundw
   case rel=>exact⟨j+1,by omega,by go_num,Y.o,X.o⟩
   case measure=>simp[intOf];omega
  obtain rfl:j=l.length:=by omega
  have i3:¬(l.length:Int)<(l.length:Nat):=by omega
  have ba:=H.o.symm.trans<|E.o fun n h=>HJ.o n h h;cases ba;have bc:=xo [];clear E f HR
  go_wp2_with fail
  go_ret
  exact Q.o _ K.o
noncomputable def sH:=Qf Tryz.f21.body
noncomputable def xxr:=Qa sH
noncomputable def xxs:=Qa<|Qa<|Qb sH
noncomputable def gV:=Qb<|Qb sH
noncomputable def UQ:=Qk<|Qb<|Qa<|Qb sH
noncomputable def xxt:=Qa UQ
noncomputable def xwu:=Qc<|Qb UQ
noncomputable def WV:=Qd<|Qb UQ
noncomputable def xxu:=Qa WV
noncomputable def xwv:=Qc<|Qb WV
noncomputable def WW:=Qd<|Qb WV
noncomputable def xxv:=Qa WW
noncomputable def xww:=Qc<|Qb WW
noncomputable def WX:=Qd<|Qb WW
noncomputable def xxw:=Qa WX
noncomputable def xwx:=Qc<|Qb WX
noncomputable def WY:=Qd<|Qb WX
noncomputable def xxx:=Qa WY
noncomputable def xwy:=Qc<|Qb WY
noncomputable def WZ:=Qd<|Qb WY
noncomputable def xxy:=Qa WZ
noncomputable def xwz:=Qc<|Qb WZ
noncomputable def XB:=Qd<|Qb WZ
noncomputable def xxz:=Qa XB
noncomputable def xx0:=Qa<|Qc<|Qb XB
noncomputable def z33:=Qb<|Qb<|Qc<|Qb XB
noncomputable def UZ:=Qa<|Qb<|Qc<|Qb<|Qd<|Qb<|Qd<|Qb<|Qd<|Qb<|Qd<|Qb<|Qd<|Qb<|Qd<|Qb<|Qk<|Qb<|Qa<|Qb<|Qf Tryz.f21.body
def xqo:Tryz.f21.body=bO (.seq xxr<|.seq (.seq xxs<|.block 0<|.seq xxt<|.cond (.tmp 19) xwu<|.seq xxu<|.cond (.tmp 26) xwv<|.seq xxv<|.cond (.tmp 91) xww<|.seq xxw<|.cond (.tmp 100) xwx<|.seq xxx<|.cond (.tmp 108) xwy<|.seq xxy<|.cond (.tmp 137) xwz<|.seq xxz<|.cond (.tmp 149) (.seq xx0<|.seq UZ z33) .skip) gV):=by kernel_rfl
def V2:¬Mc bM 21:=xO (by decide) (by decide) Tryz.func21
def Vz{Q:Exit->Act->Zy->Prop}(h:kT Q){id:Nat}:kT (fun e a' w'=>match e with
  | .exit j=>if j=id then Q .normal a' w' else Q (.exit j) a' w'
  |e=>Q e a' w'):=by
 intro e a w t d;cases e with
 |exit j=>
  dsimp only;split;exact h _ _ _ _ _;exact h _ _ _ _ _
 |normal=>exact h _ _ _ _ _
 |goto l=>exact h _ _ _ _ _
 |ret=>exact h _ _ _ _ _
 |panic ch=>exact h _ _ _ _ _
 |outgrown=>exact h _ _ _ _ _
def eqv_back{w w':Zy}(h:kE w w'):Nw w' w:=by obtain⟨t,d,rfl⟩:=h;exact⟨rfl,rfl,ze _,fun _ _ _=>rfl⟩
def Bb{kd:Int}{S T:Zl}{w w':Zy}{e:Ending}{t:Nat->Question->Nat}{d:Nat}:iY cv tv lo B b kd S T r s w e (re w' t d)↔iY cv tv lo B b kd S T r s w e w':=by
 have n1:Nw w'<|re w' t d:=Nw.gL (xb.refl _ _) t d;have k:Nw (re w' t d) w':=⟨rfl,rfl,ze _,fun _ _ _=>rfl⟩;constructor;rintro⟨a,c,i,j,h,f,g⟩;exact⟨a,xb.re c,i,j,h,f.nw k,g⟩;rintro⟨a,c,i,j,h,f,g⟩;exact⟨a,c.trans<|n1.mono fun _ x=>x.elim,i,j,h,f.nw n1,g⟩
def Wy.tV(I:Wy r s)(x:Option Jo):Wy {r with sn:=x} s:=by
 obtain⟨a,b,q,L,D⟩:=I.dsk;exact⟨⟨a,b,q,L,⟨D.ok,D.cnt,D.tag,D.ep,D.same,D.base,D.last,D.named⟩⟩,I.mark,I.gd,I.each,I.nx,I.room,I.lim,I.fus,I.rC,I.cnt,I.P,I.P20,I.sK,I.len,I.ep,I.op,I.named,I.sh0⟩
def Wy.fP{B:Nat}{x:Nat}(hx:r.shut.own B x):r.own B x:=by
 rcases hx with e|e|⟨t,a,_⟩;exact .inl e;exact .inr<|.inl e;cases a
def SO(N M:Int)(S T:Zl)(h:Pl cv tv lo B b r s k w)(hop:r.op<999):
  CC bM 21 #[zo b,zo B,jH 8 N M S T] w (iY cv tv lo B b 8 S T r s w):=by
 have hQ:kT<|nJ bM funcs Tryz.f21<|iY cv tv lo B b 8 S T r s w:=AO fun e w' t d=>Bb;refine CC.fA bQ V2 (bZ rfl Tryz.func21 rfl).1 Tryz.func21 xqo ?_;rw[show Tryz.f21.ntmps=171 from rfl];generalize hPX:nJ bM funcs Tryz.f21 (iY cv tv lo B b 8 S T r s w)=PX at hQ;unfold jH;simp only[jg,zh,jn,Nat.reduceAdd,Nat.reduceSub,qw,qx,Z7,Zi,jk,jc];refine gG V2 hQ fun w1 b7 br bb bs=>?_;have N1:Hid<|Nw w<|w1.alloc<|.cells #[zi 8,zi N,zi M,zs S,zs T] 47:=(ji br).trans<|Nw.alloc _ _;have X1:Hid<|xx (w1.alloc<|.cells #[zi 8,zi N,zi M,zs S,zs T] 47) w1.heap.size #[zi 8,zi N,zi M,zs S,zs T] 47:=xx.new _ _ _;have H0:=zl h;have m:=zl hQ;have bq:=zl hPX;clear h hQ hPX bs
 conv=>arg 2;whnf
 go_wp2_with fail
 refine bb.o _ _ ?_;clear bb;generalize w1.alloc (.cells #[zi 8,zi N,zi M,zs S,zs T] 47)=wA at*;refine Xn.seq bQ V2 trivial ?_;refine gG V2 m.o.dV fun w2 b8 Q bc bt=>?_;have c0:w2.cell? (zq w1.heap.size 0)=bO (zi 8):=(X1.o.nw<|ji Q).cell 0 rfl;have N2:Hid<|Nw w w2:=N1.o.trans<|ji Q;clear bt
 conv=>arg 2;whnf
 go_wp2_with fail
 refine bc.o _ _ ?_;clear bc c0;refine Xn.block bQ V2 ?_;refine gG V2 (Vz m.o.dV) fun v0 bw U o be=>?_;have M0:Hid<|Nw w v0:=N2.o.trans<|ji U;clear be
 conv=>arg 2;whnf
 go_wp2_with fail
 refine o.o _ _ ?_;clear o;refine Xn.cond bQ V2 rfl ?_;simp only[xu,if_false];refine gG V2 (Vz m.o.dV) fun v1 bx V p bf=>?_;have M1:Hid<|Nw w v1:=M0.o.trans<|ji V;clear bf
 conv=>arg 2;whnf
 go_wp2_with fail
 refine p.o _ _ ?_;clear p;refine Xn.cond bQ V2 rfl ?_;simp only[xu,if_false];refine gG V2 (Vz m.o.dV) fun v2 bz W q bg=>?_;have M2:Hid<|Nw w v2:=M1.o.trans<|ji W;clear bg
 conv=>arg 2;whnf
 go_wp2_with fail
 refine q.o _ _ ?_;clear q;refine Xn.cond bQ V2 rfl ?_;simp only[xu,if_false];refine gG V2 (Vz m.o.dV) fun v3 b0 X y bh=>?_;have M3:Hid<|Nw w v3:=M2.o.trans<|ji X;clear bh
 conv=>arg 2;whnf
 go_wp2_with fail
 refine y.o _ _ ?_;clear y;refine Xn.cond bQ V2 rfl ?_;simp only[xu,if_false];refine gG V2 (Vz m.o.dV) fun v4 b1 Y z bi=>?_;have M4:Hid<|Nw w v4:=M3.o.trans<|ji Y;clear bi
 conv=>arg 2;whnf
 go_wp2_with fail
 refine z.o _ _ ?_;clear z;refine Xn.cond bQ V2 rfl ?_;simp only[xu,if_false];refine gG V2 (Vz m.o.dV) fun v5 b2 Z C bj=>?_;have M5:Hid<|Nw w v5:=M4.o.trans<|ji Z;clear bj
 conv=>arg 2;whnf
 go_wp2_with fail
 refine C.o _ _ ?_;clear C;refine Xn.cond bQ V2 rfl ?_;simp only[xu,if_false];refine gG V2 (Vz m.o.dV) fun v6 b3 ba D bl=>?_;have M6:Hid<|Nw w v6:=M5.o.trans<|ji ba;clear bl
 conv=>arg 2;whnf
 go_wp2_with fail
 refine D.o _ _ ?_;clear D;refine Xn.cond bQ V2 rfl ?_;simp only[if_true];refine gG V2 (Vz m.o.dV) fun v7 b4 n E bm=>?_;have f:=zl<|H0.o.nw<|M6.o.trans<|ji n;have M7:Hid<|Nw w v7:=M6.o.trans<|ji n;clear bm
 conv=>arg 2;whnf
 go_wp2_with fail
 refine(x_ B r _ f.o.st).mono ?_;rintro e w8 ⟨rfl,I⟩;have T8:=zl I;have K8:=zl<|jt.fI f.o.st I f.o.bk;rw[show(if r.sn.isSome then(0:Int)else 5)=0 by rw[f.o.sn];rfl];clear I
 go_wp2_with fail
 refine E.o _ _ ?_;clear E;have G8:=zl (f.o.wC.but T8.o.but fun x hx=>by have:=f.o.own x hx;have:=f.o.l4;omega);have l:CC bM 16 #[zo B] w8<|FH B r.shut w8:=by
  refine G_ (cv:=cv) (tv:=tv) T8.o.at_ rfl hop (fV.of (s:=s) (f.o.inv.tV bN) (.inr rfl) fun x hx=>by have:=f.o.own x<|Wy.fP hx;have:=f.o.l4;omega) G8.o (fun i=>by have:=f.o.inv.jD i;show(qu r.d.L i).length<=_;omega) fun mp=>?_;obtain⟨F,L,R⟩:=f.o.inv.reopen mp;have hl:=R.rC;exact⟨F,L,R.look,by show(Xi F r.d).1=bL;rw[R.mend],(fun ht=>absurd (R.dD.symm.trans ht)<|by simp),by omega,by omega⟩
 refine Xn.seq bQ V2 trivial ?_
 conv=>arg 3;whnf
 refine Xn.dB bQ V2 ?_;refine Jc.value (val:=zo B) (w':=w8) bQ V2 rfl (fun t d=>⟨t,d,by show(bG _ _).run prog _=_;simp[bG,go_sem]⟩) ?_;refine Jc.call bQ V2 rfl rfl (fun v=>by show(bG _ _).run prog _=_;simp[bG,go_sem,resolve,Act.put]) (bZ rfl Tryz.func16 rfl) l ?_ ?_;rotate_left;rintro ch w9 ⟨he,_⟩;cases he;rintro v w9 ⟨he,mp,F,L,O,bo,J⟩;cases he;obtain⟨b9,L',R⟩:=f.o.inv.reopen mp;have bu:=bo.symm.trans R.look;cases bu;have T9:Hid<|jt B r v7 (Wp r F O L) w9:=T8.o.trans J;have K9:=zl<|jt.fI T8.o.at_ J K8.o;have K:=zl R;clear bo J R l;refine mZ (val:=zi 0) V2 ⟨rfl,rfl⟩ ?_;refine Jc.nil bQ V2 ?_;refine mY V2 (Vz m.o.dV) fun c bv j bd=>?_;simp only[Act.put,xv,Zz,Z9];have a:Hid<|W6 c b k:=⟨K9.o.blk.nw<|ji j,K9.o.kept.but (ji j) fun _ _ _=>id,K9.o.seen.but (ji j) fun _ _ _=>id⟩;have G:=zl<|T9.o.trans<|jt.nw T9.o.at_<|ji j;have d0:c.cell? (zq b 0)=bO k.kv:=a.o.blk.cell 0 rfl;have d1:c.cell? (zq b 1)=bO k.sv:=a.o.blk.cell 1 rfl;have d2:c.cell? (zq b 2)=bO (zi k.pend):=a.o.blk.cell 2 rfl;have f1:=a.o.blk.bT 1;have f2:=a.o.blk.bT 2;have HF:Hid<|iY cv tv lo B b 8 S T r s w (.returned<|.bool bL)<|(c.setCell (zq b 1) k.kv).setCell (zq b 2)<|zi 0:=by
  have hb:xb (·=b) c<|(c.setCell (zq b 1) k.kv).setCell (zq b 2)<|zi 0:=(xb.set c (zq b 1) _).trans<|xb.set _ (zq b 2) _;have hk:W6 ((c.setCell (zq b 1) k.kv).setCell (zq b 2)<|zi 0) b {k with sv:=k.kv,seen:=k.kept,pend:=0}:=
   ⟨(a.o.blk.set 1 k.kv).set 2 _,a.o.kept.but hb fun g H hc=>a.o.blk.dR (by decide) g H hc,a.o.kept.but hb fun g H hc=>a.o.blk.dR (by decide) g H hc⟩
  refine⟨rfl,(M7.o.mono fun _ x=>x.elim).trans<|f.o.old G.o hb,Wp r F O L,V4 O F L,_,f.o.to G.o hb hk ?_ (K.o.inv O hop)<|WP f.o.fI K.o rfl rfl rfl rfl rfl,⟨?_, ?_, ?_⟩,own_nw M7.o G.o,stp8 K.o⟩;show bO (V4 O (Xi F r.d).2.1 L)=_;rw[K.o.mend];show F.cnt<=_;rw[K.o.cnt];omega;exact ze _;have:=f.o.inv.sh0;show(0:Int)<=_;omega
 obtain⟨p0,g0,b5,bn,_,_⟩:=id a.o.kept;obtain⟨p1,g1,b6,bp,_,_⟩:=id a.o.seen;rw[bn]at d0 HF;rw[bp]at d1;clear bn bp
 conv=>arg 2;whnf
 go_wp2_with fail
 refine bd.o .ret _ _ ?_;show PX .ret _ _;rw[<-bq.o];refine⟨rfl,.bool bL,fun t d=>⟨t,d, ?_⟩,HF.o⟩;show(aN Tryz.f21 _).run prog _=_;simp[aN,Tryz.results21,go_sem]
end
end P
namespace P
open A.Tryq Go.RowKit A
variable [pn:A.Pn]
def Hi{cv tv:Zv}{lo B b:Nat}{r:Sr}{s:Jo}{k:gZ}{w:Zy}(c N M:Int)(S T:Zl)(h:Pl cv tv lo B b r s k w)(f:r.cnt<=29)(hop:r.op<999)(l:s.bP<999):
  CC bM 21 #[zo b,zo B,jH c N M S T] w (iY cv tv lo B b c S T r s w):=by
 have a:(∀w,Pl cv tv lo B b r s k w->bE prog 21 #[zo b,zo B,jH c N M S T] w (iY cv tv lo B b c S T r s w))->CC bM 21 #[zo b,zo B,jH c N M S T] w (iY cv tv lo B b c S T r s w):=fun x=>
  UM rfl (by decide) Tryz.func21 rfl (fun e v t d=>Bb.1) (fun v y=>by cases y.1) fun t d=>(x _<|h.nw<|Nw.gL (xb.refl _ _) t d).mono fun e v ⟨i,g,j⟩=>⟨i,⟨g.os,g.output,g.size,g.block⟩,j⟩
 by_cases i:c=1;subst i;exact a fun w h=>Hm N M S T h f;by_cases g:c=2;subst g;exact a fun w h=>Hj N M S T h f;by_cases j:c=3;subst j;exact a fun w h=>Hk N M S T h f;by_cases m:c=4;subst m;exact a fun w h=>SJ N M S T h f;by_cases n:c=5;subst n;exact a fun w h=>SR N M S T h f;by_cases o:c=6;subst o;exact a fun w h=>Hn N M S T h f;by_cases p:c=7;subst p;exact a fun w h=>SP N M S T h f l;by_cases q:c=8;subst q;exact SO N M S T h hop;exact a fun w h=>SM c N M S T h f i g j m n o p q
end P
namespace P
open A.Tryq Go.RowKit
attribute [local go_sem] xe zv
@[simp]def fu22:prog.funcs[22]?=bO Tryz.f22:=A.qf Tryz.func22
@[simp]def ca22(args:Za)(w:Zy):(callFunc 22 args).run prog w= .ok (.enter 22 args) w:=A.qc Tryz.func22 (args:=args) (w:=w)
def pickF(c:Int)(n:Nat):Nat:=if c<0 then(-(c+1)).toNat%n else c.toNat%n
def pickF_lt(c:Int){n:Nat}(a:0<n):pickF c n<n:=by
 unfold pickF;split<;>exact Nat.mod_lt _ a
def pick_is(c:Int)(n:Nat)(i:0<n)(f:n<=100000)(g:-9223372036854775808<=c)(h:c<=9223372036854775807)(w:Zy):
  bE prog 14 #[zi c,zi n] w fun en w'=>en= .returned (zi (pickF c n:Nat))/\w'=w:=by
 by_cases d:c<0
 ·have e:-((c+1).tmod (n:Int))=((pickF c n:Nat):Int):=by
   unfold pickF;obtain⟨m,b⟩:∃m:Nat,-(c+1)=m:=⟨(-(c+1)).toNat,by omega⟩;rw[aA d,b,Wt,show c+1= -(m:Int) by omega,Int.neg_tmod,Int.neg_neg,Js<|by omega];rfl
  have a:=zl e;clear e;go_enter func14.1,Tryz.ntmps14
  go_wp2
  go_ret
  exact⟨congrArg (fun z:Int=>Ending.returned<|zi z) a.o,rfl⟩
 have e:c%(n:Int)=((pickF c n:Nat):Int):=by
  unfold pickF;obtain⟨m,b⟩:∃m:Nat,c=m:=⟨c.toNat,by omega⟩;rw[aB d,b,Wt];rfl
 have a:=zl e;clear e;go_enter func14.1,Tryz.ntmps14
 go_wp2
 go_ret
 exact⟨congrArg (fun z:Int=>Ending.returned<|zi z) a.o,rfl⟩
def othr_ok(s:Zl)(c:Z8)(o:s.length<=maxLen)(w:Zy):bE prog 22 #[zs s,zc c] w fun e w'=>e= .returned (zs<|xorL c s)/\Nw w w':=by
 unfold maxLen at o;have n:Hid<|∀k,k=s.length->xorL c (s.take k)=xorL c s:=fun k h=>by rw[h,Yw]
 go_enter fu22,Tryz.ntmps22
 go_wp2
 go_loopw [5,6] (fun v i wr=>∃k:Nat,k<=s.length/\i=zi k/\v=zs (xorL c<|s.take k)/\Nw w wr) (fun _ i _=>(s.length-intOf i).toNat)
 case atStart=>exact⟨0,by omega,rfl,rfl,xb.refl _ _⟩
 case round=>
  obtain⟨k,hk,rfl,rfl,g⟩:=hrel;have f:=zl g;clear g;by_cases a:k<s.length
  ·obtain⟨b,d⟩:∃b,(st s)[k]'(by rw[xe];exact a)=b:=⟨_,rfl⟩
   have m:Hid<|xorL c (s.take<|k+1)=xorL c (s.take k)++[b^^^c]:=by
    show _=_;rw[xy a,show s[k]=b from d];simp[xorL]
   have r:bits .xor .u8 (b.toNat:Int) (e8 c)=e8 (b^^^c):=KP b c;have j:=Rx (e8<|b^^^c) (b^^^c) rfl;have p:(k:Int)<(s.length:Nat):=by omega
   have q:IntKind.i64.wrap ((k:Int)+1)=(k:Int)+1:=by rw[xn];omega
   have t:¬9223372036854775807<(xorL c<|s.take k).length+1:=by rw[xorL_len,xt];omega
   generalize xorL c (s.take k)=X at*
   go_wp2
   go_roundw
   case rel=>exact⟨k+1,by omega,by go_num,by rw[m.o],f.o.trans<|Nw.alloc _ _⟩
   case measure=>simp[intOf];omega
  have l:=zl (n.o k<|by omega);have p:¬(k:Int)<(s.length:Nat):=by omega
  generalize xorL c (s.take k)=X at*
  go_wp2
  go_ret
  exact⟨by rw[<-l.o];rfl,f.o⟩
end P
namespace P
open A.Tryq Go.RowKit A
variable [pn:A.Pn]
attribute [local go_sem] xe zv
noncomputable def pD:=Qa<|Qf Tryz.f9.body
noncomputable def pH:=Qa<|Qb<|Qf Tryz.f9.body
noncomputable def pL:=Qa<|Qb<|Qb<|Qf Tryz.f9.body
noncomputable def pN:=Qa<|Qn 3<|Qf Tryz.f9.body
noncomputable def pP:=Qa<|Qn 5<|Qf Tryz.f9.body
noncomputable def pS:=Qa<|Qn 6<|Qf Tryz.f9.body
noncomputable def pT:=Qa<|Qn 7<|Qf Tryz.f9.body
noncomputable def y9:=Qn 9<|Qf Tryz.f9.body
noncomputable def lR:=Qa<|Qn 4<|Qf Tryz.f9.body
noncomputable def mA:=Qa<|Qn 8<|Qf Tryz.f9.body
def xtm:Tryz.f9.body=bO (.seq pD<|.seq pH<|.seq pL<|.seq pN<|.seq lR<|.seq pP<|.seq pS<|.seq pT<|.seq mA y9):=by kernel_rfl
def kQ:¬Mc bM 9:=xO (by decide) (by decide) Tryz.func9
def Ic:Jo:=⟨0,0,[],.slice bN 0 0,[],0,0,0,0,0⟩
def Wy.new{nW:Int}{m:Zl}{D M:Nat}(e:m.length=32):Wy (Sr.new 100000 nW 999 m D M) Ic:=by
 have hk:Y0 (Jp m [] 0 0 0) []=Jp m [] 0 0 0:=by unfold Y0;rw[aA (show qu [] 0=[]from rfl)]
 refine⟨⟨[],[],Jp m [] 0 0 0,[],⟨⟨e,fun h=>absurd rfl h,⟨fun _=>rfl,fun h=>absurd rfl h⟩, ?_,fun i d=>absurd d<|Wd _,rfl, ?_,fun n f=>absurd rfl f⟩,rfl,rfl,rfl,iF.rfl' List.nodup_nil, ?_,rfl, ?_⟩⟩,Pg,fM.nil,(fun p a=>(Vy a).elim),rfl,rfl,rfl, ?_, ?_, ?_,(fun c b=>(Vy b).elim), ?_,(fun p a=>(Vy a).elim),Vj _,Vj _,Vj _,.inl rfl,Int.le_refl _⟩;show jY _ (Y0 (Jp m [] 0 0 0) []) [] [] _ _;rw[hk];exact jY.nil _ _ _;show(Y0 (Jp m [] 0 0 0) []).base.toNat+_<=_;rw[hk];show(0:Nat)+0<=_;omega;show(0:Int)=(Y0 (Jp m [] 0 0 0) []).base;rw[hk];rfl;show(0:Int)=(Y0 (Jp m [] 0 0 0) []).named;rw[hk];rfl;show J6 []<=10116+1071*((0:Nat):Int);simp[J6];show(0:Int)<=((0:Nat):Int);omega;show(0:Nat)<=40;omega;show([]:List dM).length<=20;simp
structure U0(cv tv:Zv)(sg:Int)(lo B:Nat)(r:Sr)(s:Jo)(w:Zy):Prop where
 st:Jq w B r
 sn:r.sn=bO s
 inv:Wy r s
 L:s.L=[]
 P:s.P=[]
 cnt:r.cnt=0
 op:r.op=2
 ep:s.ep=0
 bP:s.bP=0
 own:∀x,r.own B x->lo<=x
 sg:r.nW=1+(pickF sg 400:Int)/\r.d.L=[]
def MG(cv tv:Zv)(sg:Int)(w:Zy)(e:Ending)(w':Zy):Prop:=∃B r s,e= .returned (zo B)/\U0 cv tv sg w.heap.size B r s w'/\Nw w w'
def Jq.nw{w w':Zy}{B:Nat}{r:Sr}(h:Jq w B r)(n:Nw w w'):Jq w' B r:=h.but n fun _ _=>id
def m6{cv tv:Zv}{sg:Int}{w w':Zy}{e:Ending}{t:Nat->Question->Nat}{d:Nat}:MG cv tv sg w e (re w' t d)↔MG cv tv sg w e w':=by
 have n1:Nw w'<|re w' t d:=Nw.gL (xb.refl _ _) t d;have f:Nw (re w' t d) w':=⟨rfl,rfl,ze _,fun _ _ _=>rfl⟩;constructor;rintro⟨B,r,s,b,a,c⟩;exact⟨B,r,s,b,⟨a.st.nw f,a.sn,a.inv,a.L,a.P,a.cnt,a.op,a.ep,a.bP,a.own,a.sg⟩,c.trans f⟩;rintro⟨B,r,s,b,a,c⟩;exact⟨B,r,s,b,⟨a.st.nw n1,a.sn,a.inv,a.L,a.P,a.cnt,a.op,a.ep,a.bP,a.own,a.sg⟩,c.trans n1⟩
def jt.zP{B:Nat}{r r':Sr}{w0 w w':Zy}(n:Nw w0 w)(t:jt B r w r' w')(ho:∀x,r.own B x->w0.heap.size<=x):Nw w0 w':=
 ⟨t.but.os.trans n.os,t.but.output.trans n.output,xz n.size t.but.size,fun i a _=>(t.but.block i (zn a n.size) fun h=>by have:=ho i h;omega).trans<|n.block i a id⟩
def cQ{L:KV}(h:iF L []):L=[]:=xa<|h.len.trans rfl
def Ny{cv tv:Zv}{B:Nat}{r:Sr}{s:Jo}{w:Zy}(h:Jq w B r)(b:r.sn=bN)(I:Wy r s)(hop:r.op<999)(g:iA cv tv w)(a:∀x,r.own B x->2<x):
  CC bM 16 #[zo B] w fun e w'=>e= .returned (zi 0)/\∃mp kk L SS,FJ r s mp kk L/\jt B r w (Wp r kk SS L) w':=by
 refine(G_ (cv:=cv) (tv:=tv) h b hop (fV.of (s:=s) I (.inr b) a) g (fun i=>by have:=I.jD i;omega) fun mp=>?_).mono fun e w' ⟨j,mp,kk,L,SS,d,f⟩=>?_;obtain⟨kk,L,R⟩:=I.reopen mp;have n:=R.rC;exact⟨kk,L,R.look,by rw[R.mend],(fun k=>absurd (R.dD.symm.trans k)<|by simp),by omega,by omega⟩;obtain⟨l,m,R⟩:=I.reopen mp;have c:=d.symm.trans R.look;cases c;exact⟨j,mp,kk,L,SS,R,f⟩
def ZZ{r:Sr}{s:Jo}{mp SS:Nat}{kk:Lk}{L:KV}(R:FJ r s mp kk L):(Wp r kk SS L).sn=bO (V4 SS kk L):=by
 show bO (V4 SS (Xi kk r.d).2.1 L)=_;rw[R.mend]
def Ln{cv tv:Zv}(ms:Zl)(sg:Int)(b6:-9223372036854775808<=sg/\sg<=9223372036854775807){w:Zy}(hG:iA cv tv w):
  CC bM 9 #[zs ms,zi sg,zi 999] w (MG cv tv sg w):=by
 have hQ:kT<|nJ bM funcs Tryz.f9<|MG cv tv sg w:=AO fun e w' t d=>m6;refine CC.fA bQ kQ (bZ rfl Tryz.func9 rfl).1 Tryz.func9 xtm ?_;rw[show Tryz.f9.ntmps=89 from rfl];generalize hPX:nJ bM funcs Tryz.f9 (MG cv tv sg w)=PX at hQ;have K:=zl hQ;have cb:=zl hPX;have HG:=zl hG;have c3:=hG.pos;clear hQ hPX hG;simp only[jg,zh,jn,Nat.reduceAdd,Nat.reduceSub,qw,qx,Z7,Zi,jk,jc];refine gG kQ K.o fun w1 cz bu T b0=>?_;have N1:=zl<|ji bu;clear b0
 conv=>arg 2;whnf
 go_wp2_with fail
 refine T.o _ _ ?_;clear T;refine gG kQ K.o fun w2 c4 cp bx cr=>?_;have N2:Hid<|Nw w w2:=N1.o.trans<|ji cp;clear cr
 conv=>arg 2;whnf
 go_wp2_with fail
 refine(pick_is sg 400 (by omega) (by omega) b6.1 b6.2 _).mono ?_;rintro e c7 ⟨rfl,rfl⟩;have hp:=pickF_lt sg (n:=400) (by omega);have bp:Hid<|∃p,p=pickF sg 400:=⟨_,rfl⟩;obtain⟨p,bl⟩:=bp.o;rw[<-bl]at hp⊢;have ca:=zl bl;clear bl bp;have cs:IntKind.i64.wrap (1+(p:Int))=1+(p:Int):=by rw[xn];omega
 go_wp2_with fail
 refine(Dr ms 32 (by omega) 32 rfl _).mono ?_;rintro e w3 ⟨rfl,b4⟩;have N3:Hid<|Nw w w3:=N2.o.trans<|xb.of_below b4;have bk:=xoo ms 32;clear b4;generalize wM ms 32=m at*
 go_wp2_with fail
 refine(xpw _ _ 999 m (by omega) (by omega) (by omega) (by omega) (by omega) (by omega) bk _).mono ?_;rintro e w4 ⟨B,D,M,rfl,hB,hD,hM,b5,bd⟩;have N4:Hid<|Nw w w4:=N3.o.trans<|xb.of_below b5;have S4:=zl bd;have I4:Hid<|Wy (Sr.new 100000 (1+(p:Int)) 999 m D M) Ic:=Wy.new bk;have O4:Hid<|∀x,(Sr.new 100000 (1+(p:Int)) 999 m D M).own B x->w.heap.size<=x:=fun x q=>by
  have h3:=N3.o.size;rcases q with e|(e|e|⟨c,X,_⟩)|⟨t,H,_⟩
  omega;have e:x=D:=e;omega;have e:x=M:=e;omega;cases X;cases H
 have F:(Sr.new 100000 (1+(p:Int)) 999 m D M).cnt=0:=rfl;have ba:(Sr.new 100000 (1+(p:Int)) 999 m D M).op=0:=rfl;have bb:(Sr.new 100000 (1+(p:Int)) 999 m D M).nW=1+(pickF sg 400:Int)/\(Sr.new 100000 (1+(p:Int)) 999 m D M).d.L=[]:=⟨by rw[<-ca.o];rfl,rfl⟩;have bc:(Sr.new 100000 (1+(p:Int)) 999 m D M).sn=bN:=rfl;clear b5 bd hB hD hM cs hp bk;generalize Sr.new 100000 (1+(p:Int)) 999 m D M=r0 at*;have bo:=zl F;have bf:=zl ba;have cc:=zl bc;have bq:=zl bb;clear F ba bc bb
 go_wp2_with fail
 refine bx.o _ _ ?_;clear bx;refine gG kQ K.o fun w5 c0 bv U b1=>?_;have N5:=zl<|ji bv;clear b1
 conv=>arg 2;whnf
 go_wp2_with fail
 refine U.o _ _ ?_;clear U;refine gG kQ K.o fun w6 c1 bw V b2=>?_;have N6:Hid<|Nw w4 w6:=N5.o.trans<|ji bw;clear b2
 conv=>arg 2;whnf
 go_wp2_with fail
 refine(Tm B r0 _<|S4.o.nw N6.o).mono ?_;rintro e b8 ⟨rfl,rfl⟩;rw[show((r0.cnt:Nat):Int)=0 by rw[bo.o];rfl]
 go_wp2_with fail
 refine V.o _ _ ?_;clear V;have G6:=HG.o.but (N4.o.trans N6.o) fun _ x=>x.elim;have be:∀x,r0.own B x->2<x:=fun x q=>by have:=O4.o x q;omega
 have g:=Ny (S4.o.nw N6.o) cc.o I4.o (by rw[bf.o];omega) G6 be;refine Xn.seq bQ kQ trivial ?_
 conv=>arg 3;whnf
 refine Xn.dB bQ kQ ?_;refine Jc.value (val:=zo B) (w':=b8) bQ kQ rfl (fun t d=>⟨t,d,by show(bG _ _).run prog _=_;simp[bG,go_sem]⟩) ?_;refine Jc.call bQ kQ rfl rfl (fun v=>by show(bG _ _).run prog _=_;simp[bG,go_sem,resolve,Act.put]) (bZ rfl Tryz.func16 rfl) g ?_ ?_;rotate_left;rintro ch wx ⟨Y,_⟩;cases Y;rintro v w7 ⟨Y,mp,kk,L,SS,R,b7⟩;cases Y;refine mZ (val:=zi 0) kQ ⟨rfl,rfl⟩ ?_;refine Jc.nil bQ kQ ?_;refine(show Xn _ 9 _ PX _ w7 from ?_);simp only[Act.put,xv,Zz,Z9];have hL:=cQ R.same;subst hL;obtain⟨s,h⟩:∃s,s=Wp r0 kk SS []:=⟨_,rfl⟩;obtain⟨r,o⟩:∃r,r=V4 SS kk []:=⟨_,rfl⟩;have I7:Hid<|Wy s r:=by show Wy _ _;rw[h,o];exact R.inv SS<|by rw[bf.o];omega
 have T7:Hid<|jt B r0 b8 s w7:=by show jt _ _ _ _ _;rw[h];exact b7
 have Q7:Hid<|s.sn=bO r:=by show _=_;rw[h,o];exact ZZ R
 have G7:Hid<|s.nW=1+(pickF sg 400:Int)/\s.d.L=[]:=by
  rw[h];exact⟨bq.o.1,by show(Xi kk r0.d).2.2.L=_;rw[R.mend];exact bq.o.2⟩
 have E7:Hid<|r.ep=0:=by show _=_;rw[o];exact R.ep
 have N:Hid<|r.L=[]/\r.P=[]/\s.cnt=0/\s.op=1:=by
  refine⟨by rw[o];rfl,by rw[o];rfl, ?_, ?_⟩;rw[h];exact R.cnt.trans bo.o;rw[h];show r0.op+1=1;rw[bf.o]
 have O7:Hid<|∀x,s.own B x->w.heap.size<=x:=fun x q=>by
  rcases T7.o.own x q with O|O;exact O4.o x O;have:=(N4.o.trans N6.o).size;omega
 have N7:=zl<|jt.zP (N4.o.trans N6.o) T7.o O4.o;clear h o b7 R g be G6;refine gG kQ K.o fun w8 c2 S W b3=>?_;have S8:=zl<|T7.o.at_.nw<|ji S;have N8:Hid<|Nw w w8:=N7.o.trans<|ji S;clear b3
 conv=>arg 2;whnf
 go_wp2_with fail
 refine(Dv B s [107] [118] _ S8.o fun t H=>by rw[Q7.o]at H;cases H;exact I7.o.P20).mono ?_;rintro e w9 ⟨aa,f,rfl,J,l⟩;obtain⟨rfl,pv,I⟩:aa=0/\∃pv,f={s with sn:=bO<|r.more pv<|.put [107] [118]}:=by
  unfold Sr.awaits at l;rw[Q7.o]at l;simp only at l;rw[aB<|by decide,aB<|by rw[N.o.2.1];simp]at l;exact l
 have T9:=zl J;have E9:=zl I;have I9:Hid<|Wy f<|r.more pv<|.put [107] [118]:=by
  show Wy _ _;rw[I];refine I7.o.swap rfl rfl rfl rfl rfl rfl (fun c X=>?_) ?_;rcases Je.1 X with X|X
  rw[N.o.2.1]at X;cases X;rw[jp.1 X];exact⟨by simp,by simp,by simp⟩;show(r.P++[_]).length<=20;rw[N.o.2.1];simp
 have G9:Hid<|f.gets [107]=([118],0):=by
  show _=_;rw[SY<|by rw[I],aB<|by decide];have:(r.more pv<|.put [107] [118]).now=[([107],[118])]:=by
   unfold Jo.now Jo.more;simp only;rw[N.o.1,N.o.2.1];rfl
  rw[this];rfl
 have O9:Hid<|∀x,f.own B x->w.heap.size<=x:=fun x q=>by
  rcases J.own x q with O|O;exact O7.o x O;have:=N8.o.size;omega
 have N9:=zl<|jt.zP N8.o J O7.o;clear J l I
 go_wp2_with fail
 refine W.o _ _ ?_;clear W;refine gG kQ K.o fun ct cj y C bh=>?_;have bt:=zl<|T9.o.at_.nw<|ji y;have cd:Hid<|Nw w ct:=N9.o.trans<|ji y;clear bh
 conv=>arg 2;whnf
 go_wp2_with fail
 refine(TM B f [107] _ bt.o fun t H=>by rw[E9.o]at H;cases H;exact I9.o.P20).mono ?_;rintro e cu ⟨rfl,G⟩;rw[G9.o];have cl:=zl<|bt.o.nw G;have ce:Hid<|Nw w cu:=cd.o.trans G;clear G
 go_wp2_with fail
 refine C.o _ _ ?_;clear C;refine gG kQ K.o fun cw ck z E bi=>?_;have cm:=zl<|cl.o.nw<|ji z;have cf:Hid<|Nw w cw:=ce.o.trans<|ji z;clear bi
 conv=>arg 2;whnf
 go_wp2_with fail
 refine(x_ B f _ cm.o).mono ?_;rintro e cx ⟨rfl,bj⟩;have co:=zl bj;rw[show(if f.sn.isSome then(0:Int)else 5)=0 by rw[E9.o];rfl];have bg:=zl<|jt.zP cf.o bj O9.o;clear bj
 go_wp2_with fail
 refine E.o _ _ ?_;clear E;have bn:=HG.o.but bg.o fun _ x=>x.elim;have br:Wy f.shut<|r.more pv<|.put [107] [118]:=I9.o.tV bN;have i:f.shut.op=1:=by show f.op=1;rw[E9.o];exact N.o.2.2.2
 have g:=Ny co.o.at_ rfl br (by rw[i];omega) bn (fun x q=>by have:=O9.o x<|Wy.fP q;omega);refine Xn.seq bQ kQ trivial ?_
 conv=>arg 3;whnf
 refine Xn.dB bQ kQ ?_;refine Jc.value (val:=zo B) (w':=cx) bQ kQ rfl (fun t d=>⟨t,d,by show(bG _ _).run prog _=_;simp[bG,go_sem]⟩) ?_;refine Jc.call bQ kQ rfl rfl (fun v=>by show(bG _ _).run prog _=_;simp[bG,go_sem,resolve,Act.put]) (bZ rfl Tryz.func16 rfl) g ?_ ?_;rotate_left;rintro ch wx ⟨Y,_⟩;cases Y;rintro v bm ⟨Y,c5,b,L2,k,R2,j⟩;cases Y;refine mZ (val:=zi 0) kQ ⟨rfl,rfl⟩ ?_;refine Jc.nil bQ kQ ?_;refine(show Xn _ 9 _ PX _ bm from ?_);simp only[Act.put,xv,Zz,Z9];have cq:=cQ (by have:=R2.same;rwa[show(r.more pv<|.put [107] [118]).L=[]from N.o.1]at this);subst cq;have a:Hid<|U0 cv tv sg w.heap.size B (Wp f.shut b k []) (V4 k b []) bm:=by
  refine⟨j.at_,ZZ R2,R2.inv k<|by rw[i];omega,rfl,rfl, ?_, ?_, ?_,rfl,fun x q=>?_, ?_⟩;show b.cnt=0;rw[R2.cnt];show f.cnt=0;rw[E9.o];exact N.o.2.2.1;show f.shut.op+1=2;rw[i];show b.ep=0;rw[R2.ep];exact E7.o;rcases j.own x q with O|O
  exact O9.o x<|Wy.fP O;have:=bg.o.size;omega;have e2:=E9.o;refine⟨?_, ?_⟩;show f.nW=_;rw[e2];exact G7.o.1;show(Xi b f.d).2.2.L=_;rw[show Xi b f.d=(bL,b,f.d)from R2.mend,e2];exact G7.o.2
 have cg:=zl<|jt.zP bg.o j fun x q=>O9.o x<|Wy.fP q;have b9:Hid<|(Wp f.shut b k []).gets [107]=([],8):=by
  show _=_;rw[SY a.o.sn,aB<|by decide];rfl
 clear j R2 g bn br i;generalize Wp f.shut b k []=r3 at*;generalize V4 k b []=s3 at*;refine mY kQ K.o fun c6 cy Q bz=>?_;have cn:=zl<|a.o.st.nw<|ji Q;have ci:=zl<|ji Q
 conv=>arg 2;whnf
 go_wp2_with fail
 refine(TM B r3 [107] _ cn.o fun t H=>by rw[a.o.sn]at H;cases H;exact a.o.inv.P20).mono ?_;rintro e w16 ⟨rfl,Z⟩;rw[b9.o];have bs:Hid<|Nw bm w16:=ci.o.trans Z;have hv:(st [118]).toList=[118]:=xo _;have Y:(st ([]:Zl)).toList=[]:=xo _;clear Z
 go_wp2_with fail
 refine bz.o .ret _ _ ?_;rw[<-cb.o];refine⟨rfl,zo B,fun t d=>⟨t,d, ?_⟩,B,r3,s3,rfl,⟨a.o.st.nw bs.o,a.o.sn,a.o.inv,a.o.L,a.o.P,a.o.cnt,a.o.op,a.o.ep,a.o.bP,a.o.own,a.o.sg⟩,cg.o.trans bs.o⟩;show(aN Tryz.f9 _).run prog _=_;simp[aN,Tryz.results9,go_sem]
end P
namespace P
open Go.RowKit A
variable [pn:A.Pn]
def Shp.fnums{c:Z8}{r r2:Sr}{s s2:Jo}(h:Shp c r s r2 s2)(I:Wy r s)(b:Wy r2 s2):Xs r2.d.L=Xs r.d.L:=
 Dt ((List.perm_ext_iff_of_nodup b.gd.nd I.gd.nd).2 fun a=>by
  rw[<-LZ,<-LZ,b.gd.nums,I.gd.nums];exact not_congr<|by rw[<-List.length_eq_zero_iff,h.len,List.length_eq_zero_iff])
def fcs_at(L:Ym):∀(l:List Int) (j:Nat) (h:j<l.length),(sJ L l)[j*2]?=bO (zi l[j])/\(sJ L l)[j*2+1]?=bO (zs<|qu L l[j])
 |x::l,0,_=>⟨rfl,rfl⟩
 |x::l,j+1,h=>by
  have:=fcs_at L l j (by simpa using h);rw[show(j+1)*2=j*2+2 by omega];exact this
def Shp.start{c:Z8}{cv tv:Zv}{sg:Int}{lo B lo2 B2:Nat}{r r2:Sr}{s s2:Jo}{w w2:Zy}(h:U0 cv tv sg lo B r s w)(k:U0 cv tv sg lo2 B2 r2 s2 w2):Shp c r s r2 s2:=by
 have f:∀n,(qu r2.d.L n).length=(qu r.d.L n).length:=fun n=>by rw[h.sg.2,k.sg.2]
 have b:∀{r:Sr} {s:Jo},Wy r s->r.d.L=[]->s.base=0/\s.named=0:=fun I e=>by
  obtain⟨_,_,_,_,D⟩:=I.dsk;have a:=D.base;have g:=D.named;rw[e]at a g;exact⟨a,g⟩
 have i:=b h.inv h.sg.2;have j:=b k.inv k.sg.2;have a:s2.base=s.base:=by rw[i.1,j.1]
 exact⟨by rw[h.cnt,k.cnt],by rw[h.op,k.op],by rw[h.sg.1,k.sg.1],f,a,h.inv.last_eq k.inv a f,by rw[i.2,j.2],by rw[h.ep,k.ep],by rw[h.bP,k.bP],by rw[h.P,k.P];rfl,by rw[h.L,k.L];exact iF.rfl' List.nodup_nil⟩
def Pl.beside{cv tv:Zv}{lo B b B2 b2:Nat}{r r2:Sr}{s s2:Jo}{k k2:gZ}{w w':Zy}(h:Pl cv tv lo B b r s k w)(q:Pl cv tv lo B2 b2 r2 s2 k2 w)(j:∀x,r.own B x->¬r2.own B2 x)(l:b2≠b)(t:xb (fun x=>r.own B x\/x=b) w w'):Pl cv tv lo B2 b2 r2 s2 k2 w':=by
 have i:∀x,r2.own B2 x->¬(r.own B x\/x=b):=fun x e=>by
  rintro(a|a);exact j x a e;subst a;exact(q.st.dX e h.bk.blk).2 rfl
 have c:∀(g:Nat) (d:Za),w.heap[g]?=bO (.cells d 99 (0,0))->¬(r.own B g\/g=b):=fun g d f=>by
  rintro(a|a);exact(h.st.dX a f).1 rfl;exact h.bk.blk.dR (by decide) g d f a
 refine⟨q.st.but t i,⟨q.bk.blk.but t ?_,q.bk.kept.but t c,q.bk.seen.but t c⟩,q.sn,q.inv,q.fI,q.own,q.l4,q.bl,q.wC.but t fun x e=>?_⟩;rintro(a|a);exact(h.st.dX a q.bk.blk).2 rfl;exact l a;have:=h.l4;rcases e with e|e
 have:=h.own x e;omega;have:=h.bl;omega
structure Twn(cv tv:Zv)(lo B b B2 b2:Nat)(r:Sr)(s:Jo)(k:gZ)(r2:Sr)(s2:Jo)(k2:gZ)(w:Zy):Prop where
 p:Pl cv tv lo B b r s k w
 q:Pl cv tv lo B2 b2 r2 s2 k2 w
 ap:∀x,r.own B x->¬r2.own B2 x
 ne:b2≠b
section
variable {cv tv:Value} {lo B b B2 b2:Nat} {r r2 r':Sr} {s s2 s':Jo} {k k2 k':gZ} {w w':World}
def Twn.nw(h:Twn cv tv lo B b B2 b2 r s k r2 s2 k2 w)(n:Nw w w'):Twn cv tv lo B b B2 b2 r s k r2 s2 k2 w':=⟨h.p.nw n,h.q.nw n,h.ap,h.ne⟩
def Twn.swap(h:Twn cv tv lo B b B2 b2 r s k r2 s2 k2 w):Twn cv tv lo B2 b2 B b r2 s2 k2 r s k w:=⟨h.q,h.p,fun x a c=>h.ap x c a,h.ne.symm⟩
def Twn.one(h:Twn cv tv lo B b B2 b2 r s k r2 s2 k2 w)(t:xb (fun x=>r.own B x\/x=b) w w')(p:Pl cv tv lo B b r' s' k' w')(ho:∀x,r'.own B x->r.own B x\/w.heap.size<=x):Twn cv tv lo B b B2 b2 r' s' k' r2 s2 k2 w':=
 ⟨p,h.p.beside h.q h.ap h.ne t,fun x d c=>(ho x d).elim (fun a=>h.ap x a c) fun a=>by have:=Sr.bX h.q.st c;omega,h.ne⟩
def Twn.old(h:Twn cv tv lo B b B2 b2 r s k r2 s2 k2 w)(t:xb (fun x=>r.own B x\/x=b) w w'):xb (fun x=>lo<=x) w w':=t.mono fun x a=>by
 rcases a with a|a;exact h.p.own x a;rw[a];exact h.p.bl
def Twn.far(h:Twn cv tv lo B b B2 b2 r s k r2 s2 k2 w)(x:Nat)(hx:w.heap.size<=x):¬(r.own B x\/x=b):=by
 rintro(a|a);have:=Sr.bX h.p.st a;omega;have:=h.p.bk.blk.lt;omega
end
end P
namespace P
open A.Tryq Go.RowKit A
variable [pn:A.Pn]
attribute [local go_sem] xe zv
structure Ac where
 kd:Int
 N:Int
 M:Int
 S:Zl
 T:Zl
def Ac.At(w:Zy)(g o:Nat)(c:Ac):Prop:=w.cell? (zq g o)=bO (zi c.kd)/\w.cell? (zq g<|o+1)=bO (zi c.N)/\w.cell? (zq g<|o+2)=bO (zi c.M)/\w.cell? (zq g<|o+3)=bO (zs c.S)/\w.cell? (zq g<|o+4)=bO (zs c.T)/\c.S.length<=maxLen/\c.T.length<=maxLen
def AL(lo:Nat)(w:Zy)(v:Zv)(D:List Ac):Prop:=∃a cap,v= .slice a D.length cap/\D.length<=maxLen/\∀i (h:i<D.length),∃g off,a=bO ⟨g,off,bN⟩/\g<lo/\Ac.At w g (off+i*5) D[i]
def AL.but{lo:Nat}{w w':Zy}{v:Zv}{D:List Ac}(h:AL lo w v D)(b:xb (fun x=>lo<=x) w w'):AL lo w' v D:=by
 obtain⟨a,d,p,q,r⟩:=h;refine⟨a,d,p,q,fun i s=>?_⟩;obtain⟨g,e,n,o,f,j,k,l,c4,m⟩:=r i s;have c:¬lo<=g:=by omega
 exact⟨g,e,n,o,b.cell c f,b.cell c j,b.cell c k,b.cell c l,b.cell c c4,m⟩
noncomputable def c4:=Qf Tryz.f6.body
noncomputable def x6a:=Qa c4
noncomputable def r6a:=Qa<|Qb c4
noncomputable def r6b:=Qa<|Qb<|Qb c4
noncomputable def kkSix:=Qn 3 c4
noncomputable def x6b:=Qa kkSix
noncomputable def x6c:=Qa<|Qb kkSix
noncomputable def x6d:=Qa<|Qb<|Qb kkSix
noncomputable def x6e:=Qa<|Qa<|Qn 3 kkSix
noncomputable def yySix:=Qn 4 kkSix
noncomputable def lpSix:=Ql<|Qk<|Qb<|Qa<|Qn 3 kkSix
noncomputable def x6f:=Qa lpSix
noncomputable def x6k:=Qb<|Qb lpSix
noncomputable def mdSix:=Qk<|Qa<|Qb lpSix
noncomputable def x6g:=Qa mdSix
noncomputable def r6c:=Qa<|Qb mdSix
noncomputable def x6h:=Qa<|Qb<|Qb mdSix
noncomputable def x6i:=Qa<|Qn 3 mdSix
noncomputable def r6d:=Qa<|Qn 4 mdSix
noncomputable def x6j:=Qn 5 mdSix
theorem xV:Tryz.f6.body=bO c4:=by kernel_rfl
def FQ:Tryz.f6.body=bO (.seq x6a<|.seq r6a<|.seq r6b<|.seq x6b<|.seq x6c<|.seq x6d<|.seq (.seq x6e<|.block 0<|.loop<|.seq x6f<|.seq (.block 1<|.seq x6g<|.seq r6c<|.seq x6h<|.seq x6i<|.seq r6d x6j) x6k) yySix):=by kernel_rfl
theorem nmc4:¬Mc bM 6:=xO (by decide) (by decide) Tryz.func6
def slotsOf(g:Nat->Zv):Za:=#[g 0,g 1,g 2,g 3,g 4,g 5,g 6,g 7,g 8,g 9,g 10,g 11,g 12,g 13,g 14,g 15,g 16,g 17,g 18,g 19,g 20,g 21,g 22,g 23,g 24,g 25,g 26,g 27,g 28,g 29,g 30,g 31,g 32,g 33,g 34,g 35,g 36,g 37,g 38,g 39,g 40,g 41,g 42,g 43,g 44,g 45,g 46,g 47,g 48,g 49,g 50,g 51,g 52,g 53,g 54,g 55,g 56,g 57,g 58,g 59,g 60,g 61,g 62,g 63,g 64,g 65,g 66,g 67,g 68,g 69,g 70,g 71,g 72,g 73,g 74,g 75,g 76,g 77,g 78,g 79,g 80,g 81,g 82,g 83,g 84,g 85,g 86,g 87,g 88,g 89,g 90,g 91,g 92,g 93,g 94,g 95,g 96,g 97,g 98,g 99,g 100,g 101,g 102,g 103,g 104,g 105,g 106,g 107,g 108,g 109,g 110,g 111,g 112,g 113,g 114,g 115,g 116,g 117,g 118,g 119,g 120,g 121,g 122,g 123,g 124,g 125,g 126,g 127,g 128,g 129,g 130,g 131,g 132,g 133,g 134,g 135,g 136,g 137,g 138]
structure FrSix(v:Zv)(ci:Int)(B b B2 b2 j:Nat)(a:Act):Prop where
 lt:∃g,a=⟨slotsOf g,[]⟩
 a3:At a 3 v
 a4:At a 4<|zi ci
 a11:At a 11<|zo B
 a12:At a 12<|zo B2
 a13:At a 13<|zo b
 a14:At a 14<|zo b2
 a15:At a 15<|zi j
def tm_of{x:Za}(h:x.size=139):∃g,(⟨x,[]⟩:Act)=⟨slotsOf g,[]⟩:=by
 refine⟨fun i=>x[i]?.getD bJ, ?_⟩
 congr 1
 rw[show slotsOf (fun i=>x[i]?.getD bJ)=((List.range 139).map fun i=>x[i]?.getD bJ).toArray from rfl];refine Array.ext (by simp[h]) fun i a b=>?_;simp[a]
def FrSix.lit{v:Zv}{ci:Int}{B b B2 b2 j:Nat}{a:Act}(h:FrSix v ci B b B2 b2 j a):∃g,a=⟨slotsOf g,[]⟩/\g 3=v/\g 4=zi ci/\g 11=zo B/\g 12=zo B2/\g 13=zo b/\g 14=zo b2/\g 15=zi j:=by
 obtain⟨g,rfl⟩:=h.lt;exact⟨g,rfl,jf h.a3,jf h.a4,jf h.a11,jf h.a12,jf h.a13,jf h.a14,jf h.a15⟩
structure DuoP(c:Z8)(cv tv:Zv)(lo B b B2 b2:Nat)(v:Zv)(D:List Ac)(w0:Zy)(j:Nat)(w:Zy):Prop where
 pl:∃r s k r2 s2 k2,Twn cv tv lo B b B2 b2 r s k r2 s2 k2 w/\Shp c r s r2 s2/\r.cnt<=31/\r.op<=2+j/\s.bP<=(j:Int)
 old:xb (fun x=>lo<=x) w0 w
 j1:j<=D.length
 j2:j<=300
 al:AL lo w v D
def DuoP.nw{c:Z8}{cv tv:Zv}{lo B b B2 b2:Nat}{v:Zv}{D:List Ac}{w0:Zy}{j:Nat}{w w':Zy}(h:DuoP c cv tv lo B b B2 b2 v D w0 j w)(n:Nw w w'):DuoP c cv tv lo B b B2 b2 v D w0 j w':=by
 obtain⟨r,s,k,f,g,e,a,d⟩:=h.pl;exact⟨⟨r,s,k,f,g,e,a.nw n,d⟩,h.old.trans<|n.mono fun _ x=>x.elim,h.j1,h.j2,h.al.but<|n.mono fun _ x=>x.elim⟩
section
variable {c:UInt8} {cv tv:Value} {ci:Int} {lo B b B2 b2 j:Nat} {v:Value} {D:List Ac} {w0 w:World} {a:Act} {Po:Exit->Act->World->Prop}
def sp_test(C:FrSix v ci B b B2 b2 j a)(h:DuoP c cv tv lo B b B2 b2 v D w0 j w)
  (z:Hid<|∀a',FrSix v ci B b B2 b2 j a'->j<D.length->j<300->(∀r s k,Pl cv tv lo B b r s k w->r.cnt<=29)->Po .normal a' w)(d:Hid<|∀a',FrSix v ci B b B2 b2 j a'->Po (.exit 0) a' w):x6f.wp prog Po a w:=by
 obtain⟨g,rfl,G,H,p,q,t,x,y⟩:=C.lit;obtain⟨r,s,k,U,V,T,⟨E,_⟩,_⟩:=h.pl;obtain⟨Q,F,rfl,i,_⟩:=h.al;have c4:w.cell? (zq b 4)=bO (zi k.recs):=E.bk.blk.cell 4 rfl;have o:Hid<|∀l n f,Pl cv tv lo B b l n f w->l.cnt=k.recs:=fun l n f e=>by
  have m:w.cell? (zq b 4)=bO (zi f.recs):=e.bk.blk.cell 4 rfl;rw[c4]at m;have R:(k.recs:Int)=(f.recs:Int):=by injection m with m;injection m
  have:=e.fI.recs;omega
 have K:=h.j1;have L:=h.j2;unfold maxLen at i;clear h E C;simp only[slotsOf,G,H,p,q,t,x,y]
 conv=>arg 2;whnf
 by_cases I:j<D.length
 ·have M:(j:Int)<(D.length:Nat):=by omega
  by_cases J:j<300
  ·have N:(j:Int)<300:=by omega
   by_cases S:k.recs<30
   ·have O:(k.recs:Int)<30:=by omega
    go_wp2_with fail
    exact z.o _ ⟨tm_of rfl,rfl,rfl,rfl,rfl,rfl,rfl,rfl⟩ I J fun l n f e=>by have:=o.o l n f e;omega
   have O:¬(k.recs:Int)<30:=by omega
   go_wp2_with fail
   exact d.o _ ⟨tm_of rfl,rfl,rfl,rfl,rfl,rfl,rfl,rfl⟩
  have N:¬(j:Int)<300:=by omega
  go_wp2_with fail
  exact d.o _ ⟨tm_of rfl,rfl,rfl,rfl,rfl,rfl,rfl,rfl⟩
 have M:¬(j:Int)<(D.length:Nat):=by omega
 go_wp2_with fail
 exact d.o _ ⟨tm_of rfl,rfl,rfl,rfl,rfl,rfl,rfl,rfl⟩
def sp_next(i:FrSix v ci B b B2 b2 j a)(n:j<=300)(m:Hid<|∀a',FrSix v ci B b B2 b2 (j+1) a'->Po .normal a' w):x6k.wp prog Po a w:=by
 obtain⟨g,rfl,k,l,c,d,e,f,h⟩:=i.lit;have o:IntKind.i64.wrap ((j:Int)+1)=(j:Int)+1:=by rw[xn];omega
 clear i;simp only[slotsOf,k,l,c,d,e,f,h]
 conv=>arg 2;whnf
 go_wp2_with fail
 exact m.o _ ⟨tm_of rfl,rfl,rfl,rfl,rfl,rfl,rfl,rfl⟩
def acC(x:Ac):Za:=#[.int .i64 x.kd,.int .i64 x.N,.int .i64 x.M,.string<|st x.S,.string<|st x.T]
def sp_take(l:FrSix v ci B b B2 b2 j a)(k:AL lo w v D)(r:j<D.length)
  (q:Hid<|∀a' w',FrSix v ci B b B2 b2 j a'->At a' 16 (zo w.heap.size)->Nw w w'->w.heap.size<w'.heap.size->xx w' w.heap.size (acC D[j]) 47->Po .normal a' w'):x6g.wp prog Po a w:=by
 obtain⟨g,rfl,o,p,d,e,f,h,i⟩:=l.lit;obtain⟨t,n,rfl,m,c⟩:=k;obtain⟨F,s,rfl,G,y,z,C,E,c4,_⟩:=c j r;generalize D[j]=x at*;have I:(j:Int)<(D.length:Nat):=by omega
 have H:(0:Int)<=(j:Int):=by omega
 clear l c;simp only[slotsOf,o,p,d,e,f,h,i]
 conv=>arg 2;whnf
 go_wp2_with fail
 exact q.o _ _ ⟨tm_of rfl,rfl,rfl,rfl,rfl,rfl,rfl,rfl⟩ rfl (Nw.alloc _ _) (xx.new _ _ _).lt<|xx.new _ _ _
end
section
variable {c:UInt8} {cv tv:Value} {ci:Int} {lo B b B2 b2 j:Nat} {v:Value} {D:List Ac} {w0 w:World} {a:Act} {Po:Exit->Act->World->Prop}
def sp_oS{q:Nat}{x:Ac}(d:-9223372036854775808<=ci/\ci<=9223372036854775807)(G:c=UInt8.ofNat (pickF ci 256))(H:x.S.length<=maxLen)(N:q<w.heap.size)(F:FrSix v ci B b B2 b2 j a)(r:At a 16<|zo q)(s:At a 17<|.bool bL)(hx:xx w q (acC x) 47)
  (L:Hid (∀a' w',FrSix v ci B b B2 b2 j a'->At a' 16 (zo q)->At a' 17 (.bool bL)->xb (·=q) w w'->xx w' q (acC {x with S:=xorL c x.S}) 47->Po .normal a' w')):x6h.wp prog Po a w:=by
 obtain⟨g,rfl,D,E,f,h,i,k,l⟩:=F.lit;have m:g 16=_:=jf r;have o:g 17=_:=jf s;have O:IntKind.u8.wrap (pickF ci 256:Int)=e8 c:=by
  have:=pickF_lt ci (n:=256) (by omega);rw[G];simp[IntKind.wrap,IntKind.bits,IntKind.signed,e8]
 have J:∀w,Hid<|bE prog 14 #[zi ci,zi 256] w fun K w'=>K= .returned (zi (pickF ci 256:Nat))/\w'=w:=fun w=>pick_is ci 256 (by omega) (by omega) d.1 d.2 w;have I:=fun w=>zl<|othr_ok x.S c H w;have X0:=zl hx;have Q:w.cell? (zq q 3)=bO (zs x.S):=hx.cell 3 rfl;have t:Hid<|Nw w w.drew:=(xb.refl _ _).drew;clear F r s hx G d H N;generalize pickF ci 256=p at*;simp only[slotsOf,D,E,f,h,i,k,l,m,o];clear D E f h i k l m o
 conv=>arg 2;whnf
 refine wp_region_noPanic ?_
 go_region_with (first
   |(go_at_call 14;refine(J _).o.mono ?_;rintro e C ⟨rfl,rfl⟩)
   |(go_at_call 22;refine(I _).o.mono ?_;rintro e C ⟨rfl,M⟩;replace t:=zl<|t.o.trans M;have y:=zl<|X0.o.nw t.o;have R:C.cell? (zq q 3)=bO (zs x.S):=y.o.cell 3 rfl;have T:=y.o.bT 3))
 all_goals
  exact NoPanic.normal<|L.o _ _ ⟨tm_of rfl,rfl,rfl,rfl,rfl,rfl,rfl,rfl⟩ rfl rfl ((t.o.mono fun _ z=>z.elim).trans<|xb.set C (zq q 3) _)<|y.o.set 3 _
def sp_oT{q:Nat}{x:Ac}(d:-9223372036854775808<=ci/\ci<=9223372036854775807)(G:c=UInt8.ofNat (pickF ci 256))(H:x.T.length<=maxLen)(N:q<w.heap.size)(F:FrSix v ci B b B2 b2 j a)(r:At a 16<|zo q)(s:At a 17<|.bool bL)(hx:xx w q (acC x) 47)
  (L:Hid (∀a' w',FrSix v ci B b B2 b2 j a'->At a' 16 (zo q)->At a' 17 (.bool bL)->xb (·=q) w w'->xx w' q (acC {x with T:=xorL c x.T}) 47->Po .normal a' w')):x6i.wp prog Po a w:=by
 obtain⟨g,rfl,D,E,f,h,i,k,l⟩:=F.lit;have m:g 16=_:=jf r;have o:g 17=_:=jf s;have O:IntKind.u8.wrap (pickF ci 256:Int)=e8 c:=by
  have:=pickF_lt ci (n:=256) (by omega);rw[G];simp[IntKind.wrap,IntKind.bits,IntKind.signed,e8]
 have J:∀w,Hid<|bE prog 14 #[zi ci,zi 256] w fun K w'=>K= .returned (zi (pickF ci 256:Nat))/\w'=w:=fun w=>pick_is ci 256 (by omega) (by omega) d.1 d.2 w;have I:=fun w=>zl<|othr_ok x.T c H w;have X0:=zl hx;have Q:w.cell? (zq q 4)=bO (zs x.T):=hx.cell 4 rfl;have t:Hid<|Nw w w.drew:=(xb.refl _ _).drew;clear F r s hx G d H N;generalize pickF ci 256=p at*;simp only[slotsOf,D,E,f,h,i,k,l,m,o];clear D E f h i k l m o
 conv=>arg 2;whnf
 refine wp_region_noPanic ?_
 go_region_with (first
   |(go_at_call 14;refine(J _).o.mono ?_;rintro e C ⟨rfl,rfl⟩)
   |(go_at_call 22;refine(I _).o.mono ?_;rintro e C ⟨rfl,M⟩;replace t:=zl<|t.o.trans M;have y:=zl<|X0.o.nw t.o;have R:C.cell? (zq q 4)=bO (zs x.T):=y.o.cell 4 rfl;have S:=y.o.bT 4))
 all_goals
  exact NoPanic.normal<|L.o _ _ ⟨tm_of rfl,rfl,rfl,rfl,rfl,rfl,rfl,rfl⟩ rfl rfl ((t.o.mono fun _ z=>z.elim).trans<|xb.set C (zq q 4) _)<|y.o.set 4 _
end
section
variable {c:UInt8} {cv tv:Value} {ci:Int} {lo B b B2 b2 j:Nat} {v:Value} {D:List Ac} {w0 w:World} {a:Act} {Po:Exit->Act->World->Prop}
def img2{w:Zy}{B n:Nat}{v:Zv}{xs:Ze}(h:w.ownsRow B 36 2 v n xs):∃p g cap,v= .slice p n cap/\(0<n->p=bO ⟨g,0,bN⟩)/\∀i x,xs[i]?=bO x->w.cell? (zq g i)=bO x:=by
 rcases h.2 with⟨rfl,rfl⟩|⟨g,cap,b,e,j,c,k,f,l,d⟩;refine⟨bN,0,0,rfl,fun h=>absurd h<|Nat.lt_irrefl _,fun i x a=>?_⟩;have:=h.1;rw[Nat.zero_mul,List.length_eq_zero_iff]at this;rw[this]at a;cases a;exact⟨_,g,cap,e,fun _=>rfl,fun i x a=>by
  rw[<-d,Jf]at a;split at a;simp only[World.cell?,c];simpa using a;cases a⟩
def sp_image{r r2:Sr}(Z:FrSix v ci B b B2 b2 j a)(t:At a 17<|.bool bL)(x:At a 18<|.bool bL)(h:Jq w B r)(W:Jq w B2 r2)(hf:mE r.d.L)(C:mE r2.d.L)(E:Xs r2.d.L=Xs r.d.L)(R:∀n,(qu r2.d.L n).length=(qu r.d.L n).length)(ba:(Xs r.d.L).length<=1000)
  (hN:Hid<|∀a' w',FrSix v ci B b B2 b2 j a'->Nw w w'->Po .normal a' w'):x6j.wp prog Po a w:=by
 obtain⟨g,rfl,U,V,f,l,m,o,p⟩:=Z.lit;have q:g 17=_:=jf t;have s:g 18=_:=jf x;have H1:=zl h;have H2:=zl W;have HF:=zl hf;have K:=zl C;have HN:=zl E;have HL:=zl R;clear Z t x h W hf C E R;simp only[slotsOf,U,V,f,l,m,o,p,q,s];clear U V f l m o p q s
 conv=>arg 2;whnf
 go_wp2_with fail
 refine(kU B r _ H1.o HF.o).mono ?_;rintro e w1 ⟨v1,rfl,H,F⟩;obtain⟨p1,g1,c1,rfl,I,y⟩:=img2 H;have P1:=zl I;have S:=zl y;have T:=zl F;clear H I y F
 go_wp2_with fail
 refine(kU B2 r2 _ (H2.o.nw T.o) K.o).mono ?_;rintro e w2 ⟨v2,rfl,c,G⟩;rw[HN.o]at c;obtain⟨p2,g2,c2,rfl,J,z⟩:=img2 c;have P2:=zl J;have C2:=zl z;have N:=zl G;clear c J z G;generalize hfl:Xs r.d.L=fl at*;clear hfl
 go_wp2_with fail
 go_loopw [21] (fun i wr=>∃k:Nat,k<=fl.length/\i=zi k/\Nw w2 wr) (fun i _=>(fl.length-intOf i).toNat)
 case atStart=>exact⟨0,Vj _,rfl,xb.refl _ _⟩
 case round=>
  obtain⟨k,hk,rfl,E⟩:=hrel;have M:=zl E;clear E;by_cases D:k<fl.length
  ·have i1:(k:Int)<(fl.length:Nat):=by omega
   have i0:(0:Int)<=(k:Int):=by omega
   obtain rfl:=P1.o (by omega);obtain rfl:=P2.o (by omega);have O:=fcs_at r.d.L fl k D;have Q:=fcs_at r2.d.L fl k D;have a0:=M.o.cell id<|N.o.cell id<|S.o _ _ O.1;have a1:=M.o.cell id<|N.o.cell id<|S.o _ _ O.2;have b0:=M.o.cell id<|C2.o _ _ Q.1;have b1:=M.o.cell id<|C2.o _ _ Q.2;have R:=HL.o fl[k];generalize fl[k]=n at*;generalize qu r.d.L n=X at*;generalize qu r2.d.L n=Y at*;clear O Q
   go_wp2_with fail
   go_quiet (fail)
   have M3:Hid<|Nw w2<|wr.drewN nq:=M.o.trans (xb.refl _ _).drewN'
   go_wp2_with fail
   go_roundw
   case rel=>exact⟨k+1,by omega,by go_num,M3.o⟩
   case measure=>simp[intOf];omega
  have i1:¬(k:Int)<(fl.length:Nat):=by omega
  go_wp2_with fail
  exact hN.o _ _ ⟨tm_of rfl,rfl,rfl,rfl,rfl,rfl,rfl,rfl⟩<|(T.o.trans N.o).trans M.o
def sp_end{r r2:Sr}(o:FrSix v ci B b B2 b2 j a)(h:Jq w B r)(n:Jq w B2 r2)(p:r2.cnt=r.cnt)
  (x:Hid<|∀a',a'.defers=[]->At a' 10 (.bool bL)->Po .ret a' w):yySix.wp prog Po a w:=by
 obtain⟨g,rfl,l,m,c,d,f,i,k⟩:=o.lit;have q:=zl h;have s:=zl n;have t:=zl p;clear o h n p;simp only[slotsOf,l,m,c,d,f,i,k];clear l m c d f i k
 conv=>arg 2;whnf
 go_wp2_with fail
 refine(Tm B r _ q.o).mono ?_;rintro e w1 ⟨rfl,rfl⟩
 go_wp2_with fail
 refine(Tm B2 r2 _ s.o).mono ?_;rintro e w1 ⟨rfl,rfl⟩;rw[t.o]
 go_wp2_with fail
 exact x.o _ rfl rfl
end
end P
namespace P
open Go.RowKit A
variable [pn:A.Pn]
attribute [local go_sem] xe zv
def m5{Q:Exit->Act->Zy->Prop}(h:kT Q){I:Act->Zy->Prop}{m:Act->Zy->Nat}{a0:Act}{w0:Zy}(b:∀a w t d,I a (re w t d)↔I a w)(c:∀a w t d,m a (re w t d)=m a w):kT (fun e a' w'=>match e with
   | .normal=>I a' w'/\m a' w'<m a0 w0
   |e=>Q e a' w'):=by
 intro e a w t d;cases e with
 |normal=>show(I a (re w t d)/\m a (re w t d)<m a0 w0)↔(I a w/\m a w<m a0 w0);rw[b,c]
 |exit id=>exact h _ _ _ _ _
 |goto l=>exact h _ _ _ _ _
 |ret=>exact h _ _ _ _ _
 |panic ch=>exact h _ _ _ _ _
 |outgrown=>exact h _ _ _ _ _
def vN:gZ:=⟨.slice bN 0 0,.slice bN 0 0,[],[],0,0,0⟩
def Mz(w:Zy):W6 (w.alloc<|.cells vN.cells 28) w.heap.size vN:=⟨xx.new _ _ _,⟨bN,0,0,rfl,ze _,fun h=>absurd rfl h⟩,⟨bN,0,0,rfl,ze _,fun h=>absurd rfl h⟩⟩
def Bn:fD []=[]:=xa<|KZ []
def MF(w:Zy)(e:Ending)(w':Zy):Prop:=e= .returned (.bool bL)/\Nw w w'
def m_{w w':Zy}{e:Ending}{t:Nat->Question->Nat}{d:Nat}:MF w e (re w' t d)↔MF w e w':=⟨fun h=>⟨h.1,xb.re h.2⟩,fun h=>⟨h.1,Nw.gL h.2 t d⟩⟩
def idx15(a:Act):Nat:=301-(intOf<|a.tmps[15]?.getD bJ).toNat
def FrSix.idx{v:Zv}{ci:Int}{B b B2 b2 j:Nat}{a:Act}(h:FrSix v ci B b B2 b2 j a):idx15 a=301-j:=by
 have:=h.a15;unfold At at this;simp[idx15,this,intOf]
def U0.pl{cv tv:Zv}{sg:Int}{lo lo2 B b:Nat}{r:Sr}{s:Jo}{w w':Zy}(h:U0 cv tv sg lo2 B r s w)(n:Nw w w')(f:W6 w' b vN)(i:lo<=lo2)(d:2<lo)(c:lo<=b)(e:iA cv tv w'):Pl cv tv lo B b r s vN w':=by
 have a:s.now=[]:=by unfold Jo.now;rw[h.L,h.P];rfl
 exact⟨h.st.nw n,f,h.sn,h.inv,⟨by rw[a,Bn];rfl,by rw[h.L,Bn];rfl,by rw[h.P];rfl,by rw[h.ep];rfl,by rw[h.cnt];rfl⟩,fun x g=>by have:=h.own x g;omega,d,c,e⟩
def Twn.upd{cv tv:Zv}{lo B b B2 b2 q:Nat}{r r2:Sr}{s s2:Jo}{k k2:gZ}{w w':Zy}{cs:Za}(h:Twn cv tv lo B b B2 b2 r s k r2 s2 k2 w)(d:xx w q cs 47)(j:¬r.own B q)(l:¬r2.own B2 q)(o:lo<=q)(t:xb (·=q) w w'):Twn cv tv lo B b B2 b2 r s k r2 s2 k2 w':=by
 have c:∀{B b:Nat} {r:Sr} {s:Jo} {k:gZ},Pl cv tv lo B b r s k w->¬r.own B q->Pl cv tv lo B b r s k w':=fun {B b r s k} p n=>by
  have m:¬b=q:=fun e=>by
   have:=p.bk.blk;rw[e]at this;unfold xx at this d;rw[d]at this;cases this
  exact⟨p.st.but t fun x f e=>n<|by have e:x=q:=e;rw[<-e];exact f,⟨p.bk.blk.but t m,p.bk.kept.but t fun g a i=>d.dR (by decide) g a i,p.bk.seen.but t fun g a i=>d.dR (by decide) g a i⟩,p.sn,p.inv,p.fI,p.own,p.l4,p.bl,p.wC.but t fun x f=>by have:=p.l4;have f:x=q:=f;omega⟩
 exact⟨c h.p j,c h.q l,h.ap,h.ne⟩
end P
namespace P
open A.Tryq Go.RowKit A
variable [pn:A.Pn]
attribute [local go_sem] xe zv
def ld_act{w:Zy}{q:Nat}{x:Ac}(h:xx w q (acC x) 47)(t:Nat->Question->Nat)(d:Nat):(re w t d).cell? (zq q 0)=bO (zi x.kd)/\(re w t d).cell? (zq q 1)=bO (zi x.N)/\(re w t d).cell? (zq q 2)=bO (zi x.M)/\(re w t d).cell? (zq q 3)=bO (zs x.S)/\(re w t d).cell? (zq q 4)=bO (zs x.T):=
 ⟨h.cell 0 rfl,h.cell 1 rfl,h.cell 2 rfl,h.cell 3 rfl,h.cell 4 rfl⟩
section
variable {c:UInt8} {cv tv:Value} {ci:Int} {lo B b B2 b2 j:Nat} {v:Value} {D:List Ac} {w0 w:World} {a:Act} {Q:Exit->Act->World->Prop}
def sp_body(hQ:kT Q)(hc:c=UInt8.ofNat (pickF ci 256))(bk:-9223372036854775808<=ci/\ci<=9223372036854775807)(hf:FrSix v ci B b B2 b2 j a)(hd:DuoP c cv tv lo B b B2 b2 v D w0 j w)(hj:j<D.length)(da:j<300)(hr:∀r s k,Pl cv tv lo B b r s k w->r.cnt<=29)
  (hN:∀a' w',FrSix v ci B b B2 b2 j a'->DuoP c cv tv lo B b B2 b2 v D w0 (j+1) w'->Q .normal a' w'):Xn bM 6 (.seq x6g<|.seq r6c<|.seq x6h<|.seq x6i<|.seq r6d x6j) Q a w:=by
 obtain⟨r,s,k,r2,s2,k2,hT,hS,c9,dc,de⟩:=hd.pl;have cc:=hr r s k hT.p;obtain⟨_,_,_,_,cm⟩:=hd.al;obtain⟨_,_,_,_,_,_,_,_,_,cq,cr⟩:=cm j hj;refine gG nmc4 hQ fun w5 cz W cf c4=>?_;have E:=hT.nw<|ji W;refine sp_take hf (hd.nw<|ji W).al hj fun a5 wA cn cb bp cy J=>cf.o _ _ ?_;have X:=E.nw bp;have K:=E.far w5.heap.size<|ze _;have Z:=E.swap.far w5.heap.size<|ze _;have bn:lo<=w5.heap.size:=Nat.le_of_lt E.p.size;generalize w5.heap.size=q at*;obtain⟨g,rfl,e3,e4,bw,bx,bz,b0,b1⟩:=cn.lit;have b3:g 16=_:=jf cb;simp only[slotsOf,e3,e4,bw,bx,bz,b0,b1,b3];refine Xn.seq bQ nmc4 trivial ?_
 conv=>arg 3;whnf
 refine Xn.dB bQ nmc4 ?_;refine mZ (val:=zo b) nmc4 ⟨rfl,rfl⟩ ?_;refine mZ (val:=zo B) nmc4 ⟨rfl,rfl⟩ ?_;refine Jc.value (val:=jH D[j].kd D[j].N D[j].M D[j].S D[j].T) (w':=wA) bQ nmc4 rfl (fun t d=>⟨t,d,by obtain⟨u0,u1,u2,u3,u4⟩:=ld_act J t d;show(bG _ _).run prog _=_;simp[bG,go_sem,Act.put,u0,u1,u2,u3,u4,jH]⟩) ?_;refine Jc.call (f:=21) (args:=#[zo b,zo B,jH D[j].kd D[j].N D[j].M D[j].S D[j].T]) bQ nmc4 rfl rfl (fun v=>by show(bG _ _).run prog _=_;simp[bG,go_sem,resolve,Act.put]) (bZ rfl Tryz.func21 rfl) (Hi D[j].kd D[j].N D[j].M D[j].S D[j].T X.p cc (by omega)<|by omega) ?_ ?_;rotate_left;rintro ch wx ⟨Y,_⟩;cases Y;rintro vv w6 ⟨Y,ba,r',s',k',cp,c8,R,bt⟩;cases Y;have ck:=X.one ba cp R;have br:¬r'.own B q:=fun hx=>(R q hx).elim (fun h=>K<|.inl h) (fun h=>by omega);have bs:¬r2.own B2 q:=fun hx=>Z<|.inl hx;have i:=J.but ba K;have bb:=X.old ba;refine mZ (val:= .bool bL) nmc4 ⟨rfl,rfl⟩ ?_;refine Jc.nil bQ nmc4 ?_;refine(show Xn bM 6 _ Q _ w6 from ?_);simp only[Act.put,xv,Zz,Z9];refine gG nmc4 hQ fun w7 c0 cd cg c5=>?_;have n7:=ji cd;refine sp_oS (c:=c) (q:=q) (x:=D[j]) bk hc cq (zn i.lt n7.size) (B:=B) (b:=b) (B2:=B2) (b2:=b2) (j:=j) (v:=v) ⟨tm_of rfl,rfl,rfl,rfl,rfl,rfl,rfl,rfl⟩ rfl rfl (i.nw n7) fun a8 w8 co bf bg bj l=>cg.o _ _ ?_;have cl:=(ck.nw n7).upd (i.nw n7) br bs bn bj;refine gG nmc4 hQ fun w9 c1 ce cj c6=>?_;have n9:=ji ce;refine sp_oT (c:=c) (q:=q) (x:={D[j]with S:=xorL c D[j].S}) bk hc cr (zn l.lt n9.size) co bf bg (l.nw n9) fun c2 bv bl U V I F=>cj.o _ _ ?_;have C:=(cl.nw n9).upd (l.nw n9) br bs bn I;have G:xx bv q (acC ⟨D[j].kd,D[j].N,D[j].M,xorL c D[j].S,xorL c D[j].T⟩) 47:=F;obtain⟨g',rfl,f3,f4,b4,b5,b6,b7,b8⟩:=bl.lit;have b9:g' 16=_:=jf U;have ca:g' 17=_:=jf V;simp only[slotsOf,f3,f4,b4,b5,b6,b7,b8,b9,ca];refine Xn.seq bQ nmc4 trivial ?_
 conv=>arg 3;whnf
 refine Xn.dB bQ nmc4 ?_;refine mZ (val:=zo b2) nmc4 ⟨rfl,rfl⟩ ?_;refine mZ (val:=zo B2) nmc4 ⟨rfl,rfl⟩ ?_;refine Jc.value (val:=jH D[j].kd D[j].N D[j].M (xorL c D[j].S)<|xorL c D[j].T) (w':=bv) bQ nmc4 rfl (fun t d=>⟨t,d,by obtain⟨u0,u1,u2,u3,u4⟩:=ld_act G t d;show(bG _ _).run prog _=_;simp[bG,go_sem,Act.put,u0,u1,u2,u3,u4,jH]⟩) ?_;have c7:=hS.cnt;have db:=hS.op;have dd:=hS.bP;refine Jc.call (f:=21) (args:=#[zo b2,zo B2,jH D[j].kd D[j].N D[j].M (xorL c D[j].S)<|xorL c D[j].T]) bQ nmc4 rfl rfl (fun v=>by show(bG _ _).run prog _=_;simp[bG,go_sem,resolve,Act.put]) (bZ rfl Tryz.func21 rfl) (Hi D[j].kd D[j].N D[j].M (xorL c D[j].S) (xorL c D[j].T) C.q (by omega) (by omega)<|by omega) ?_ ?_;rotate_left;rintro ch wx ⟨Y,_⟩;cases Y;rintro vv be ⟨Y,L,ct,cu,cs,bq,cx,bc,bd⟩;cases Y;have H:=(C.swap.one L bq bc).swap;have o:=Stp.shp hS hT.p.inv hT.q.inv (fun x=>hT.p.inv.tV x) (fun x=>hT.q.inv.tV x) (by omega) bt bd;refine mZ (val:= .bool bL) nmc4 ⟨rfl,rfl⟩ ?_;refine Jc.nil bQ nmc4 ?_;refine(show Xn bM 6 _ Q _ be from ?_);simp only[Act.put,xv,Zz,Z9];have O:xb (fun x=>lo<=x) w be:=by
  have m:∀{x y:Zy},Nw x y->xb (fun x=>lo<=x) x y:=fun n=>n.mono fun _ z=>z.elim;have u:∀{x y:Zy},xb (·=q) x y->xb (fun x=>lo<=x) x y:=fun n=>n.mono fun z hz=>by have hz:z=q:=hz;omega
  exact(((((((m<|ji W).trans<|m bp).trans bb).trans<|m n7).trans<|u bj).trans<|m n9).trans<|u I).trans<|C.swap.old L
 refine mY nmc4 hQ fun df cw bh bi=>?_;have bu:=ji bh;have e:=H.nw bu;refine sp_image (B:=B) (b:=b) (B2:=B2) (b2:=b2) (j:=j) (v:=v) (ci:=ci) ⟨tm_of rfl,rfl,rfl,rfl,rfl,rfl,rfl,rfl⟩ rfl rfl e.p.st e.q.st e.p.inv.U9 e.q.inv.U9 (o.fnums e.p.inv e.q.inv) o.len (by rw[yZ];have:=e.p.inv.few;have:=e.p.inv.cnt;omega) fun c3 dg bm bo=>bi.o .normal _ _<|hN _ _ bm ?_;have hD:DuoP c cv tv lo B b B2 b2 v D w0 (j+1) be:=⟨⟨r',s',k',ct,cu,cs,H,o,by omega,by omega,by omega⟩,hd.old.trans O,by omega,by omega,hd.al.but O⟩;exact(hD.nw bu).nw bo
end
theorem Shaped_wx{cv tv:Zv}(ms m2:Zl)(z:Int)(bo:-9223372036854775808<=z/\z<=9223372036854775807)(v:Zv)(T:List Ac)(ci:Int)(b6:-9223372036854775808<=ci/\ci<=9223372036854775807){w:Zy}(hG:iA cv tv w)(bj:AL w.heap.size w v T):
  Xn bM 6 c4 (nJ bM funcs Tryz.f6<|MF w) ⟨#[zs ms,zs m2,zi z,v,zi ci]++Array.replicate (Tryz.f6.ntmps-#[zs ms,zs m2,zi z,v,zi ci].size) bJ,[]⟩ w:=by
 have hQ:kT<|nJ bM funcs Tryz.f6<|MF w:=AO fun e K t d=>m_;rw[jf<|xV.symm.trans FQ];rw[show Tryz.f6.ntmps=139 from rfl];generalize hPX:nJ bM funcs Tryz.f6 (MF w)=PX at hQ;have L:=zl hQ;have bq:=zl hPX;have HG:=zl hG;have bp:=zl bj;have J:=hG.pos;clear hQ hPX hG bj;simp only[jg,zh,jn,Nat.reduceAdd,Nat.reduceSub,qw,qx,Z7,Zi,jk,jc];refine gG nmc4 L.o fun w1 cf E F bh=>?_;have N1:=zl<|ji E;clear bh
 conv=>arg 2;whnf
 go_wp2_with fail
 refine F.o _ _ ?_;clear F;have n:=Ln (cv:=cv) (tv:=tv) ms z bo (w:=w1)<|HG.o.but (S:=fun _=>False) N1.o fun _ x=>x.elim;refine Xn.seq bQ nmc4 trivial ?_
 conv=>arg 3;whnf
 refine Xn.dB bQ nmc4 ?_;refine mZ (val:=zs ms) nmc4 ⟨rfl,rfl⟩ ?_;refine mZ (val:=zi z) nmc4 ⟨rfl,rfl⟩ ?_;refine Jc.call (f:=9) (args:=#[zs ms,zi z,zi 999]) bQ nmc4 rfl rfl (fun v=>by show(bG _ _).run prog _=_;simp[bG,go_sem,resolve,Act.put]) (bZ rfl Tryz.func9 rfl) n ?_ ?_;rotate_left;rintro ch wx ⟨B,r0,s0,Q,_⟩;cases Q;rintro v2 w2 ⟨B,r0,s0,Q,O,bm⟩;cases Q;refine mZ (val:=zo B) nmc4 ⟨rfl,rfl⟩ ?_;refine Jc.nil bQ nmc4 ?_;refine(show Xn bM 6 _ PX _ w2 from ?_);simp only[Act.put,xv,Zz,Z9];have U:=zl O;have Y:Hid<|Nw w w2:=N1.o.trans bm;have HZ:=zl<|Ug E;clear O bm n;have n:=Ln (cv:=cv) (tv:=tv) m2 z bo (w:=w2)<|HG.o.but (S:=fun _=>False) Y.o fun _ x=>x.elim;refine Xn.seq bQ nmc4 trivial ?_
 conv=>arg 3;whnf
 refine Xn.dB bQ nmc4 ?_;refine mZ (val:=zs m2) nmc4 ⟨rfl,rfl⟩ ?_;refine mZ (val:=zi z) nmc4 ⟨rfl,rfl⟩ ?_;refine Jc.call (f:=9) (args:=#[zs m2,zi z,zi 999]) bQ nmc4 rfl rfl (fun v=>by show(bG _ _).run prog _=_;simp[bG,go_sem,resolve,Act.put]) (bZ rfl Tryz.func9 rfl) n ?_ ?_;rotate_left;rintro ch wx ⟨B,r0,s0,Q,_⟩;cases Q;rintro v2 W ⟨o,r2,s2,Q,O,bn⟩;cases Q;refine mZ (val:=zo o) nmc4 ⟨rfl,rfl⟩ ?_;refine Jc.nil bQ nmc4 ?_;refine(show Xn bM 6 _ PX _ W from ?_);simp only[Act.put,xv,Zz,Z9];have S3:=zl O;have N3:=zl bn;clear O bn n;refine gG nmc4 L.o fun w4 cg bc G bi=>?_;have N4:=zl<|ji bc;clear bi
 conv=>arg 2;whnf
 go_wp2_with fail
 refine G.o _ _ ?_;clear G;refine gG nmc4 L.o fun D br M bd b3=>?_;have N5:Hid<|Nw W D:=N4.o.trans<|ji M;clear b3;have X:Hid<|W6 (D.alloc<|.cells vN.cells 28) D.heap.size vN:=Mz D;have N6:Hid<|Nw W<|D.alloc<|.cells vN.cells 28:=N5.o.trans<|Nw.alloc _ _;have g:vN.cells=#[.slice bN 0 0,.slice bN 0 0,zi 0,zi 0,zi 0]:=rfl;rw[g]at X N6
 conv=>arg 2;whnf
 go_wp2_with fail
 refine bd.o _ _ ?_;clear bd;have Z5:Hid<|w.heap.size<=D.heap.size:=((Y.o.trans N3.o).trans N5.o).size;generalize D.alloc (.cells #[.slice bN 0 0,.slice bN 0 0,zi 0,zi 0,zi 0] 28)=w6 at*;generalize D.heap.size=b at*;refine gG nmc4 L.o fun C cl bv be b4=>?_;have N7:Hid<|Nw w6 C:=ji bv;clear b4;have T8:Hid<|∀c,DuoP c cv tv w.heap.size B b o C.heap.size v T w 0<|C.alloc<|.cells vN.cells 28:=fun c=>by
  have n8:Nw W<|C.alloc<|.cells vN.cells 28:=(N6.o.trans N7.o).trans<|Nw.alloc _ _;have n0:Nw w<|C.alloc<|.cells vN.cells 28:=(Y.o.trans N3.o).trans n8;have n7:Nw w6<|C.alloc<|.cells vN.cells 28:=N7.o.trans<|Nw.alloc _ _;have hg:=HG.o.but (S:=fun _=>False) n0 fun _ x=>x.elim;have z2:=Y.o.size;have cc:=((Y.o.trans N3.o).trans<|N6.o.trans N7.o).size;have hb:W6 (C.alloc<|.cells vN.cells 28) b vN:=⟨X.o.blk.nw n7,X.o.kept.but n7 fun _ _ _=>id,X.o.seen.but n7 fun _ _ _=>id⟩;refine⟨⟨r0,s0,vN,r2,s2,vN,⟨U.o.pl (N3.o.trans n8) hb (by have:=HZ.o;omega) J Z5.o hg,S3.o.pl n8 (Mz C) z2 J cc hg,fun x Z h2=>?_, ?_⟩,Shp.start U.o S3.o,by rw[U.o.cnt];omega,by rw[U.o.op];omega,by rw[U.o.bP];exact Int.le_refl _⟩,n0.mono fun _ x=>x.elim,Vj _,Vj _,bp.o.but<|n0.mono fun _ x=>x.elim⟩;have:=Sr.bX U.o.st Z;have:=S3.o.own x h2;omega;have:=X.o.blk.lt;have:=N7.o.size;omega
 rw[g]at T8;clear g
 conv=>arg 2;whnf
 go_wp2_with fail
 refine be.o _ _ ?_;clear be;generalize C.alloc (.cells #[.slice bN 0 0,.slice bN 0 0,zi 0,zi 0,zi 0] 28)=w8 at*;generalize C.heap.size=b2 at*;obtain⟨c,hc⟩:∃c,c=UInt8.ofNat (pickF ci 256):=⟨_,rfl⟩;have HC:=zl hc;have D8:=zl<|T8.o c;clear hc T8;refine Xn.seq bQ nmc4 trivial ?_;refine gG nmc4 L.o.dV fun w9 cm bw bf b5=>?_;have D9:=zl<|D8.o.nw<|ji bw;clear b5
 conv=>arg 2;whnf
 go_wp2_with fail
 refine bf.o _ _ ?_;clear bf;refine Xn.block bQ nmc4 ?_;have b0:=Vz (L.o.dV (P:=bM) (fn:=6) (y:=yySix)) (id:=0);refine Xn.loop bQ nmc4 (by trivial) (fun a K=>∃j,FrSix v ci B b o b2 j a/\DuoP c cv tv w.heap.size B b o b2 v T w j K) (fun a _=>idx15 a) ?_ _ _ ⟨0,⟨tm_of rfl,rfl,rfl,rfl,rfl,rfl,rfl,rfl⟩,D9.o⟩;rintro a W ⟨j,hf,ca⟩;have hI:∀a K t d,(∃j,FrSix v ci B b o b2 j a/\DuoP c cv tv w.heap.size B b o b2 v T w j (re K t d))↔(∃j,FrSix v ci B b o b2 j a/\DuoP c cv tv w.heap.size B b o b2 v T w j K):=fun a K t d=>
  ⟨fun⟨j,Z,h2⟩=>⟨j,Z,h2.nw ⟨rfl,rfl,ze _,fun _ _ _=>rfl⟩⟩,fun⟨j,Z,h2⟩=>⟨j,Z,h2.nw<|Nw.gL (xb.refl _ _) t d⟩⟩
 have N:=m5 b0 (I:=fun a K=>∃j,FrSix v ci B b o b2 j a/\DuoP c cv tv w.heap.size B b o b2 v T w j K) (m:=fun a _=>idx15 a) (a0:=a) (w0:=W) hI fun _ _ _ _=>rfl;have cj:=hf.idx;refine gG nmc4 N fun w4 ck bu bx b1=>?_;have l:=ca.nw<|ji bu;refine sp_test hf l (fun a4 R b8 b9 cb=>bx.o _ _ ?_) fun a4 R=>b1.o _ _ _ (by simp) ?_;refine Xn.seq bQ nmc4 trivial (Xn.block bQ nmc4 ?_);refine sp_body (Vz (N.dV (P:=bM) (fn:=6) (y:=x6k)) (id:=1)) HC.o b6 R l b8 b9 cb fun bs cd bl bk=>?_;show Xn bM 6 x6k _ bs cd;refine mY nmc4 N fun cp ce bb bg=>?_;refine sp_next bl (by omega) fun bt H=>bg.o .normal _ _ ⟨⟨j+1,H,bk.nw<|ji bb⟩, ?_⟩;have h7:=H.idx;show idx15 bt<idx15 a;omega;show(if 0=0 then _ else _);rw[aA rfl];show Xn bM 6 yySix PX a4 w4;obtain⟨r,s,k,cn,co,k2,hT,O,_⟩:=l.pl;have h:=l.old;refine mY nmc4 L.o fun D br M bz=>?_;have V:=ji M;refine sp_end R (hT.p.st.nw V) (hT.q.st.nw V) O.cnt fun a6 b7 ba=>bz.o .ret _ _ ?_;rw[<-bq.o];refine⟨b7,.bool bL,fun t d=>⟨t,d, ?_⟩,rfl, ?_⟩
 ·show(aN Tryz.f6 _).run prog _=_
  unfold At at ba;simp[aN,Tryz.results6,go_sem,ba]
 exact⟨V.os.trans h.os,V.output.trans h.output,xz h.size V.size,fun i hi _=>(V.block i (zn hi h.size) id).trans<|h.block i hi<|by show¬w.heap.size<=i;omega⟩
end P
namespace A
open Go Go.Conc
variable [pn:Pn]
section
variable {Post:Zv→Zy→Prop}
section
variable {P:Program} {F:Array Func} {X:Nat->Prop}
def vR.ends{g:Zg}{w:Zy}{m:Machine}{t:Trace}(U:vR P X g w m t)
  (h:∀u:Zy,Sm P X (A.re w u.tape u.drawn) u->∃val es u',stepG P bL g u= .ended (.done val) u' es/\(∀e∈es,xR X u.heap.size e)/\Post val u'):
  ∃N last o w' t',runNT P (N+1) m t=(.ended o w',t')/\runN P N m= .next last/\step P last= .ended o w'/\Conc.Good P Post last o w' t':=by
 obtain⟨⟨a,v,sl,k,rfl,l,y,G⟩,ok,c,J⟩:=U;refine run_of_inv BO (fun k m t=>∃(a:Array _) (v:Zy) (sl:Option _),m=Conc.crowd a v sl/\a[0]?=bO g/\JL P X k a v t/\Sm P X (A.re w v.tape v.drawn) v) _ ?_ k _ _ ⟨a,v,sl,rfl,l,y,G⟩;clear y G l;rintro k m t ⟨a,v,sl,rfl,l,y,G⟩;have I:∀g∈a,awake g:=by
  intro f n;obtain⟨i,p,rfl⟩:=Z1.1 n;rcases jl i with rfl|b
  have:a[0]=g:=by simpa[xg p]using l
  rw[this];exact awake_of<|.inl c;exact J5.awake k a v t y i _ b<|xg p
 obtain⟨i,f,d,F,p,n,E⟩:=crowd_pick (P:=P) (w:=v) (sl:=sl) I ⟨0,g,l,c⟩;have z:=J5.drawn k a v t d y;have C:Sm P X (A.re w v.tape d)<|v.at d:=G.re _ d;rcases jl i with rfl|b
 obtain rfl:f=g:=by rw[l]at p;exact(jf p).symm
 obtain⟨val,es,u',D,K,r⟩:=h (v.at d) C;have s:=runT_many_ended (sl:=F) p (show stepG P _ f _=_ from D);obtain⟨q,S,T,rfl⟩:=z;have B:=T.own (fn:=f.frame.fn) (pos:=f.frame.place) K;refine .inl ⟨_,_,_,E.trans s,val,rfl,r,B.clean,B.over,⟨fun x O=>?_,rfl⟩,fun j x O L=>?_⟩;obtain⟨j,L⟩:=List.mem_iff_getElem?.1 O;rw[PK]at L;exact⟨_,(S.old (1+j) x (by omega)<|by simpa[Conc.crowd]using L).leaves⟩;have V:=S.old j x (by omega) O;refine⟨q j, ?_⟩;have e:(t++MemOp.ofEvents 0 f.frame.fn f.frame.place es).deaf j (t++MemOp.ofEvents 0 f.frame.fn f.frame.place es).size=Deaf t j:=
  Deaf_other t (g':=0) (by omega) _ (fun op M=>by obtain⟨e,_,rfl⟩:=zy M;rfl)
 rw[e];exact V.hears _;obtain⟨H,v',R,Q,W,Y,Z,r3,r4,r5⟩:=J5.other k a (v.at d) t i f g F z b p n l c J;exact .inr ⟨_,Q,W,E.trans Y,Z,H,v',R,rfl,r3,r4,r5 w C⟩
def SD(B:Nat):qD X B #[]:=
 ⟨past_nil.clean,fun i a b c=>by simp[touchAt,Trace.act?]at b,past_nil.over,past_nil.hears,fun i a b=>by simp[touchAt,Trace.act?]at b⟩
def CT{N0:Nat}{m m1:Machine}{t t1:Trace}(a:runNT P N0 m t=(.next m1,t1))(h:∃N last o w' t',runNT P (N+1) m1 t1=(.ended o w',t')/\runN P N m1= .next last/\step P last= .ended o w'/\Conc.Good P Post last o w' t'):
  ∃N last o w' t',runNT P (N+1) m t=(.ended o w',t')/\runN P N m= .next last/\step P last= .ended o w'/\Conc.Good P Post last o w' t':=by
 obtain⟨N,last,o,w',t',b,c,d,e⟩:=h;refine⟨N0+N,last,o,w',t', ?_, ?_,d,e⟩;rw[Ja];exact ql a b;have f:(runNT P (N0+N) m t).1=(runNT P N m1 t1).1:=by
  rw[ql a (r:=(runNT P N m1 t1)) rfl]
 rw[<-runNT_fst P (N0+N) m t,f,runNT_fst];exact c
theorem zvf(K:J0 P F){f:FuncId}{args:Za}{fnc:Func}{c:Code}{R:Ending->Zy->Prop}(Z:¬Mc P f)(B:Ys P F f)(H:P.funcs[f]?=bO fnc)(O:fnc.body=bO c)
  {w v0:Zy}(h:Xn P f c (nJ P F fnc R) ⟨args++Array.replicate (fnc.ntmps-args.size) bJ,[]⟩ w)(q:∀ch w',¬R (.panicked ch) w')(hS:Sm P X (A.re w v0.tape v0.drawn) v0):
  ∃N last o w' t',runNT P (N+1) (solo (G (bF P f args .normal) []) v0) #[]=(.ended o w',t')/\runN P N (solo (G (bF P f args .normal) []) v0)= .next last/\step P last= .ended o w'/\
   Conc.Good P (fun val u=>∃X' w',(∀x,X x->X' x)/\R (.returned val) w'/\Sm P X' (A.re w' u.tape u.drawn) u) last o w' t':=by
 have s:bF P f args .normal=(bF P f args .normal).at ⟨args++Array.replicate (fnc.ntmps-args.size) bJ,[]⟩ [.code c]:=by
  simp[bF,Frame.at,H,O]
 have T:(wf P F).funcs[f]?=bO fnc:=by show F[f]?=_;rw[B.1];exact H
 have z:Xv P<|bF P f args .normal:=by
  have e:bF (wf P F) f args .normal=bF P f args .normal:=by simp[bF,T,H]
  rw[<-e];exact j_ K.codes B Z args ⟨by simp,by simp⟩
 have hi:P.inits.idxOf? f=bN:=z.init;have hb:vR P X (Z0 (bF P f args .normal) []) w (solo (G (bF P f args .normal) []) v0) #[]:=
  ⟨⟨#[Z0 _ []],v0,bN,_,rfl,rfl,⟨fun _=>0,⟨fun i g hi hg=>by
    have:i=0:=by have:=(za.1 hg).1;simp at this;omega
    omega,fun j hj=>rfl⟩,SD _,rfl⟩,hS⟩,⟨.inr z,fun c O=>by cases O⟩,rfl,rfl⟩
 let At:Zg->Zy->Prop:=fun g' w'=>∃(a:Act) (b:List Item) (val:Zv),g'=Z0 {(bF P f args .normal).at a b with mode:= .returning} []/\a.defers=[]/\(∀t d,∃t' d',(aN fnc a.tmps).run (wf P F) (A.re w' t d)= .ok val (A.re w' t' d'))/\R (.returned val) w';have V:RX P (Z0 (bF P f args .normal) []) w At:=by
  rw[s];refine h (bF P f args .normal) [] [] _ rfl rfl (fun e E w' k=>?_) fun e E w' g' k n=>?_;cases e with
  |normal=>trivial
  |ret=>exact k.1
  |panic ch=>exact k.1
  |exit id=>exact k.2.elim
  |goto l=>exact k.2.elim
  |outgrown=>exact k.2.elim
  cases e with
  |normal=>
   obtain⟨_,rfl⟩:=n;obtain⟨hd,v,C,q⟩:=k;refine RX.ctl K (g':=Z0 {(bF P f args .normal).at E []with mode:= .returning} []) Z (fun v=>?_) rfl rfl rfl<|.refl ⟨E,[],v,rfl,hd,C,q⟩;simp[stepG,Z0,Frame.at,stepG.exec]
  |ret=>
   obtain⟨_,b,rfl⟩:=n;obtain⟨hd,v,C,q⟩:=k;exact .refl ⟨E,b,v,rfl,hd,C,q⟩
  |panic ch=>exact(q ch w' k.2).elim
  |exit id=>exact k.2.elim
  |goto l=>exact k.2.elim
  |outgrown=>exact k.2.elim
 obtain⟨N,m',t',X',g',w',L,x1,b1,a,b,val,rfl,hd,C,M⟩:=V X _ _ hb;refine CT L<|b1.ends fun u r=>?_;obtain⟨t1,Y,D⟩:=C u.tape u.drawn;obtain⟨p,m,I⟩:=(QM (P:=P) (F:=F) (X:=X') fnc a.tmps).gJ _ u #[] r (by rw[D];trivial);rw[D]at I;have J:Sm P X' (A.re w' t1 Y) p:=I.sm;have W:p.heap.size=u.heap.size:=J.size.trans r.size.symm;refine⟨val,seen P f (#[]++m)++#[],p, ?_,fun e s=>?_,X',w',x1,M, ?_⟩;have U:(aN fnc a.tmps).runT P u #[]=(.ok val p,#[]++m):=I.eq;have y:=IM (fr:={(bF P f args .normal).at a b with mode:= .returning}) (by simp[bF,Frame.at]) hi val p;show unwind P bL {(bF P f args .normal).at a b with mode:= .returning} [] bN u=_;have Q:({(bF P f args .normal).at a b with mode:= .returning}:Zf).defers=[]:=hd;have S:P.funcs[({(bF P f args .normal).at a b with mode:= .returning}:Zf).fn]?=bO fnc:=H;unfold unwind;rw[Q];simp only[S];rw[show(aN fnc ({(bF P f args .normal).at a b with mode:= .returning}:Zf).tmps).runT P u #[]=(.ok val p,#[]++m)from U];simp only[y];rfl;have s:e∈seen P f (#[]++m):=by simpa using s
 have:=I.evs e (by simpa using mem_seen s);rw[W]at this;exact .pV this;have L:p.tape=t1:=J.tape;have e2:p.drawn=Y:=J.drawn;rw[L,e2];exact J
end
end
end A
namespace P
open Go.RowKit A Go Go.Conc
def WQ:Obj->Bool
 | .pending ..=>bL
 | .deferred _=>bL
 | .loop _=>bL
 |_=>bK
def EZ(j:Nat):Obj:= .chan j #[] bK 0 0 bK
def clean(j:Nat)(o:Obj):Obj:=if WQ o=bL then EZ j else o
def oH(j:Nat)(v:Zy):Zy:={v with heap:=v.heap.map<|clean j}
def X0(v:Zy)(r:Nat):Prop:=∃o,v.heap[r]?=bO o/\WQ o=bL
abbrev oO(v:Zy):Pn:=⟨⟨v.heap.size,fun r=>v.heap[r]?⟩⟩
section
variable {j r:Nat} {v:World}
def I_:(oH j v).heap[r]?=(v.heap[r]?).map (clean j):=by simp[oH]
def JK:(oH j v).heap.size=v.heap.size:=by simp[oH]
def D7(h:¬X0 v r):(oH j v).heap[r]?=v.heap[r]?:=by
 rw[I_];cases e:v.heap[r]?with
 |none=>rfl
 |some o=>
  have:¬WQ o=bL:=fun a=>h ⟨o,e,a⟩;simp[clean,this]
def Bc(h:X0 v r):(oH j v).heap[r]?=bO (EZ j):=by
 obtain⟨o,e,a⟩:=h;rw[I_,e];simp[clean,a]
def wR{a:Addr}{x:Zv}(h:v.cell? a=bO x):(oH j v).cell? a=bO x:=by
 obtain⟨g,e,i,d,_⟩:=A.cells_of_cell (pn:=oO v) (py:=⟨137⟩) h;have f:¬X0 v a.block:=by
  rintro⟨o,b,c⟩;rw[d]at b;cases b;cases c
 have e:=D7 (j:=j) f;unfold World.cell? at h⊢;rw[e];exact h
def mC(P:Zp):Sm (pn:=oO v) P (X0 v) (A.re (oH j v) v.tape v.drawn) v:=by
 refine @Sm.mk (oO v) P (X0 v) (A.re (oH j v) v.tape v.drawn) v JK.symm (fun r a=>(D7 a).symm) (fun r a=>?_) (fun r=>?_) rfl rfl rfl rfl ⟨Nat.le_of_eq JK.symm,fun r _ _=> .inl rfl⟩;have b:=Bc (j:=j) a;obtain⟨o,e,c⟩:=a;exact⟨EZ j,o,b,e,.inl ⟨rfl,by cases o<;>first|rfl|cases c⟩⟩;show A.dL P (oH j v).heap[r]?;rw[I_];cases v.heap[r]?with
 |none=>exact .none
 |some o=>cases o<;>exact⟨fun _ _ h=>(by cases h),fun _ h=>(by cases h),fun _ h=>(by cases h)⟩
end
def iA.ref{cv tv:Zv}{v:Zy}(h:iA cv tv v)(j:Nat):iA cv tv<|oH j v:=by
 obtain⟨⟨t,x,a,b⟩,⟨g,k,c,d⟩,e⟩:=h;exact⟨⟨t,x,a,wR b⟩,⟨g,k,c,wR d⟩,fun i f=>wR<|e i f⟩
def AL.ref{v:Zy}{x:Zv}{D:List Ac}(h:AL v.heap.size v x D)(j:Nat):AL (oH j v).heap.size (oH j v) x D:=by
 obtain⟨a,b,p,q,r⟩:=h;refine⟨a,b,p,q,fun i s=>?_⟩;obtain⟨g,c,n,o,d,e,f,k,m,l⟩:=r i s;exact⟨g,c,n,by rw[JK];exact o,wR d,wR e,wR f,wR k,wR m,l⟩
def ZT{P:Zp}{o:Outcome}{w:Zy}{t':Trace}:∀{n:Nat} {m:Machine} {t:Trace},runNT P n m t=(.ended o w,t')->∀k,runNT P (n+k) m t=(.ended o w,t')
 |0,m,t,h,k=>by simp[runNT]at h
 |n+1,m,t,h,k=>by
  rw[Nat.add_right_comm];unfold runNT at h⊢;split at h;exact ZT h k;exact h
def WN(v u:Zy):Prop:=u.os=v.os/\u.output=v.output/\v.heap.size<=u.heap.size/\∀r,r<v.heap.size->u.heap[r]?=v.heap[r]?
def Shaped_run{cv tv:Zv}(C m2:Zl)(k:Int)(z:-9223372036854775808<=k/\k<=9223372036854775807)(x:Zv)(E:List Ac)(ci:Int)(y:-9223372036854775808<=ci/\ci<=9223372036854775807){v:Zy}(U:iA cv tv v)(w:AL v.heap.size v x E):
  ∃N last o w' t',runNT bM (N+1) (solo (G (bF bM 6 #[.string<|st C,.string<|st m2,.int .i64 k,x,.int .i64 ci] .normal) []) v) #[]=(.ended o w',t')/\runN bM N (solo (G (bF bM 6 #[.string<|st C,.string<|st m2,.int .i64 k,x,.int .i64 ci] .normal) []) v)= .next last/\step bM last= .ended o w'/\
   Go.Conc.Good bM (fun val u=>val= .bool bL/\WN v u) last o w' t':=by
 have i:∀j,_:=fun j=>zvf (pn:=oO v) (bQ (pn:=oO v)) (nmc4 (pn:=oO v)) (bZ (pn:=oO v) rfl Tryz.func6 rfl) Tryz.func6 (xV (pn:=oO v)) (Shaped_wx (pn:=oO v) C m2 k z x E ci y (U.ref j)<|w.ref j) (fun ch w' h=>by cases h.1)<|mC (j:=j) (v:=v) bM;obtain⟨N,last,o,w',t',H,K,L,val,rfl,⟨Z,w1,X,c,q⟩,M⟩:=i 0;obtain⟨F,B,o2,a,D,O,b2,b3,l,rfl,⟨X2,w2,Y,T,W⟩,b5⟩:=i 1;obtain rfl:a=w':=by
  have Q:=ZT H<|F+1;have s:=ZT O<|N+1;rw[zW<|F+1]at s;rw[Q]at s;have R:(l=val/\a=w')/\D=t':=by simpa using s.symm
  exact R.1.2
 have g:∀{j:Nat} {n:ZP} {m:Zy},(∀r,X0 v r->n r)->Nw (oH j v) m->Sm (pn:=oO v) bM n (A.re m a.tape a.drawn) a->∀r,r<v.heap.size->a.heap[r]?=v.heap[r]?\/(X0 v r/\a.heap[r]?=bO (EZ j)):=by
  intro j n m hx V J r d;have I:m.heap[r]?=(oH j v).heap[r]?:=V.block r (by rw[JK];exact d) id;have f:a.heap[r]?=m.heap[r]?->a.heap[r]?=v.heap[r]?\/(X0 v r/\a.heap[r]?=bO (EZ j)):=fun e=>by
   rw[I]at e;rcases Classical.em (X0 v r)with b|b
   exact .inr ⟨b,e.trans<|Bc b⟩;exact .inl<|e.trans<|D7 b
  rcases Classical.em (n r)with t|t;rcases(Sm.pin (pn:=oO v) J).2 r t d with e|e;exact .inl e;exact f e;exact f<|Sm.out (pn:=oO v) J r t
 refine⟨N,last,_,a,t',H,K,L,val,rfl,⟨?_, ?_, ?_, ?_,fun r d=>?_⟩,M⟩;have:=c.1;simpa using this;exact(Sm.os (pn:=oO v) q).trans c.2.os;exact(Sm.output (pn:=oO v) q).trans c.2.output;have e0:=Sm.size (pn:=oO v) q;have I:a.heap.size=w1.heap.size:=e0;have S:=c.2.size;rw[JK]at S;omega;rcases g X c.2 q r d with e|⟨b,e⟩
 exact e;rcases g Y T.2 W r d with p|⟨_,p⟩
 exact p;rw[e]at p;simp[EZ]at p
end P
namespace P
open Go.RowKit A Go.ChangeShapes Go.WideShapes
def Uc:Tryz.prog.cellsOf 47=5:=by kernel_rfl
def JR{w:Zy}{base:Nat}{a:Addr}{n:Nat}{cs:Ze}(h:w.cells? base a n=bO cs)(i:Nat)(e:i<n):∃v,cs[i]?=bO v/\w.cell? (a.add i)=bO v:=by
 unfold World.cells? at h;split at h;obtain⟨b,c,d⟩:=Lib.mapM_at h i i (by simp[e]);exact⟨b,c,d⟩;cases h
def xoj(s:ByteArray):st s.data.toList=s:=by cases s;simp[st]
def Gk{H:Type}{enc:Zt×Zv->H}{W:Zy}{fuel:Nat}{a:Addr}{cs:Ze}{x:DataW H×List MemPlace}
  (e:W.cells? 0 a 5=bO cs)(G:DataW.trod enc bM W 0 (fun _=>bL) bL fuel 47 cs=bO x):
  ∃g off d,a=(zq g off)/\Ac.At W g off d:=by
 obtain⟨Q,e0,l⟩:=JR e 0 (by decide);obtain⟨R,m,z⟩:=JR e 1 (by decide);obtain⟨S,o,B⟩:=JR e 2 (by decide);obtain⟨T,p,C⟩:=JR e 3 (by decide);obtain⟨U,q,D⟩:=JR e 4 (by decide);obtain⟨O,n,_,rfl,y,f,b⟩:=DataW.trod_struct Tryz.underlying47 G;rw[Uc]at y
 match cs,y with
 |[u0,u1,u2,u3,u4],_=>
  match O,f with
  |[x0,x1,x2,x3,x4],_=>
   have r:=b 0 _ rfl;have s:=b 1 _ rfl;have t:=b 2 _ rfl;have v:=b 3 _ rfl;have w:=b 4 _ rfl;simp only[Xl,Xb]at r s t v w;simp only[Xl,Xb,zp]at e0 m o p q;obtain⟨k,hk,_,_⟩:=DataW.trod_int Tryz.underlying3 r;obtain⟨L,J,_,_⟩:=DataW.trod_int Tryz.underlying3 s;obtain⟨K,I,_,_⟩:=DataW.trod_int Tryz.underlying3 t;obtain⟨M,E,_,i⟩:=DataW.trod_string Tryz.underlying9 v;obtain⟨N,F,_,j⟩:=DataW.trod_string Tryz.underlying9 w;cases hk;cases J;cases I;cases E;cases F;subst e0;subst m;subst o;subst p;subst q;obtain⟨g,off,h⟩:=a;have c:h=bN:=by simpa[Addr.add]using World.cell?_spot l
   subst c;rw[Go.WideShapes.add_plain]at l z B C D;exact⟨g,off,⟨k,L,K,M.data.toList,N.data.toList⟩,rfl,l,z,B,C,D,i,j⟩
def QQ{H:Type}{enc:Zt×Zv->H}{W:Zy}{fuel:Nat}{a0:Option Addr}{len cap:Nat}{x:DataW H×List MemPlace}
  (B:DataW.trod enc bM W 0 (fun _=>bL) bL fuel 22 (Value.slice a0 len cap).cells.toList=bO x):∃D,AL W.heap.size W (.slice a0 len cap) D:=by
 have p:DataW.trod enc bM W 0 (fun _=>bL) bL fuel 22 [Value.slice a0 len cap]=bO x:=B;rcases DataW.trod_slice Tryz.underlying22 p with⟨c,_⟩|⟨a,w,r,j,y,n,_,c,J,_,G,I,v,o,_,_⟩
 cases c;exact⟨[],bN,0,rfl,by simp,fun i h=>by simp at h⟩;cases c;have f:∀i,i<len->∃g b d,a.add (i*5)=(zq g b)/\Ac.At W g b d:=by
  intro i k;have t:=o i k;have q:i<j.length:=by omega
  rw[Uc,Yh q,Option.bind_eq_some_iff]at t;obtain⟨F,c,C⟩:=t;exact Gk c C
 have e:∀i,i<len->∃d,∃g b,bO a=bO ⟨g,b,bN⟩/\g<W.heap.size/\Ac.At W g (b+i*5) d:=by
  intro i k;obtain⟨z,E,_,m,_⟩:=f 0 (by omega);rw[Nat.zero_mul]at m;have m:a=(zq z E):=by simpa[Addr.add]using m
  subst m;obtain⟨g,b,d,s,l⟩:=f i k;rw[Go.WideShapes.add_plain]at s;cases s;exact⟨d,_,_,rfl,qz l.1,l⟩
 refine⟨List.ofFn fun i:Fin len=>Classical.choose<|e i i.2,bO a,cap,by rw[List.length_ofFn],by rw[List.length_ofFn];omega,fun i k=>?_⟩;rw[List.length_ofFn]at k;rw[List.getElem_ofFn];exact XZ<|e i k
end P
namespace P
open Go.ChangeShapes Go.WideShapes Go.ChangeAt Go.RowKit A Go.Conc
open Go.ChangeMaps (open_string shut_string)
section
variable {rest:List<|String×DataW Unit}
def own:ownKnob Tryz.prog.godebug=bN:=by kernel_rfl
def UD:laidOutB bM=bL:=by kernel_rfl
def Gq:Tryz.prog.globalNamed "coffer/prim.roundWords"=bO 2:=by kernel_rfl
def Q2:(Tryz.prog.globals[2]?).map (·.type)=bO 236:=by kernel_rfl
def xw8:Tryz.prog.globalNamed "coffer/disk.ErrCrashed"=bO 0:=by kernel_rfl
def P3:(Tryz.prog.globals[0]?).map (·.type)=bO 212:=by kernel_rfl
def xw9:Tryz.prog.globalNamed "coffer/coffer.errTampered"=bO 1:=by kernel_rfl
def R1:(Tryz.prog.globals[1]?).map (·.type)=bO 212:=by kernel_rfl
def F0:Tryz.prog.cellsOf 236=64:=by kernel_rfl
def E6:Tryz.prog.cellsOf 232=1:=by kernel_rfl
def Ki:List Int:=[1116352408,1899447441,3049323471,3921009573,961987163,1508970993,2453635748,2870763221,3624381080,310598401,607225278,1426881987,1925078388,2162078206,2614888103,3248222580,3835390401,4022224774,264347078,604807628,770255983,1249150122,1555081692,1996064986,2554220882,2821834349,2952996808,3210313671,3336571891,3584528711,113926993,338241895,666307205,773529912,1294757372,1396182291,1695183700,1986661051,2177026350,2456956037,2730485921,2820302411,3259730800,3345764771,3516065817,3600352804,4094571909,275423344,430227734,506948616,659060556,883997877,958139571,1322822218,1537002063,1747873779,1955562222,2024104815,2227730452,2361852424,2428436474,2756734187,3204031479,3329325298]
def xs8:∀i:Fin 64,Ki.getD i.val 0=u (Kc i.val):=by decide+kernel
def ZV{P:Zp}{W:Zy}{x:String×DataW Unit}(h:laidMet P (x::rest) W):laidMet P rest W:=by
 obtain⟨r,⟨g,t,k,c,p,q,l,m,n,o,d,e⟩,j,f⟩:=h;subst e;exact⟨q,d,(List.nodup_append.1 j).2.1,fun b a i=>f b a<|List.mem_append_right _ i⟩
def Ow{P:Zp}{W:Zy}{n nm:String}{d:DataW Unit}{g:Nat}{ti:Zt}{ms:Array<|String×Zt}(i:P.globalNamed n=bO g)(r:(P.globals[g]?).map (·.type)=bO ti)(m:P.underlying ti=bO (.interface ms))
  (h:laidMet P ((n,.iface nm d)::rest) W):∃tt v,W.cell? (zq g 0)=bO (.iface tt v):=by
 obtain⟨C,⟨w,t,s,b,p,q,j,k,a,l,x,y⟩,B,z⟩:=h;obtain rfl:=jf<|i.symm.trans j;obtain rfl:=jf<|r.symm.trans k;obtain⟨_,tt,v,e,_,_⟩:=iface_of_trod m l;refine⟨tt,v, ?_⟩;unfold World.var? at a;rw[i,Option.bind_some]at a;unfold World.cell?;cases hb:W.heap[g]?with
 |none=>rw[hb]at a;cases a
 |some o=>
  rw[hb]at a;cases o with
  |cells c t f=>
   simp only[zp]at a;subst a;have e:c=#[.iface tt v]:=by cases c;simpa using e
   subst e;rfl
  |_=>cases a
def xq3{W:Zy}(h:laidMetH bM Rows.shapedRow.laid W):∃cv tv,iA cv tv W:=by
 have a:laidMet bM [("coffer/prim.roundWords",Rows.laid_coffer_prim_roundWords),("coffer/disk.ErrCrashed",Rows.laid_coffer_disk_ErrCrashed),("coffer/coffer.errTampered",Rows.laid_coffer_coffer_errTampered)] W:=h;have t:Lib.TabIs bM W "coffer/prim.roundWords" .u32 Ki:=Lib.tabIs_of_head Gq Q2 Tryz.underlying236 Tryz.underlying232 E6 F0 a;obtain⟨e,g,c⟩:=Ow xw8 P3 Tryz.underlying212<|ZV a;obtain⟨f,j,d⟩:=Ow xw9 R1 Tryz.underlying212<|ZV<|ZV a;refine⟨_,_,⟨e,g,rfl,c⟩,⟨f,j,rfl,d⟩,fun i b=>?_⟩;rw[t.cell Gq i b,xs8 ⟨i,b⟩]
def WN.below{v u:Zy}(h:WN v u):Below v.blind.heap.size v.blind u.blind:=⟨h.1,rfl,h.2.1,h.2.2.1,h.2.2.2⟩
abbrev xqt:ByteArray:={data:=#[116,104,101,32,109,97,99,104,105,110,101,32,115,116,111,112,112,101,100]}
abbrev xvt:ByteArray:={data:=#[115,111,109,101,98,111,100,121,32,104,97,115,32,98,101,101,110,32,97,116,32,116,104,101,32,100,105,115,107]}
noncomputable def low:Nat:=(World.holding bM default ⟨#[],#[],[]⟩).heap.size
noncomputable def Mi(os:Os):Zy:=
 let w0:=World.holding bM os ⟨#[.cells #[.string xqt] 410,.cells #[.string xvt] 410],#[],[]⟩
 {w0 with heap:=((w0.heap.modify 2 fun
   | .cells _ t frozen=> .cells #[zu 1116352408,zu 1899447441,zu 3049323471,zu 3921009573,zu 961987163,zu 1508970993,zu 2453635748,zu 2870763221,zu 3624381080,zu 310598401,zu 607225278,zu 1426881987,zu 1925078388,zu 2162078206,zu 2614888103,zu 3248222580,zu 3835390401,zu 4022224774,zu 264347078,zu 604807628,zu 770255983,zu 1249150122,zu 1555081692,zu 1996064986,zu 2554220882,zu 2821834349,zu 2952996808,zu 3210313671,zu 3336571891,zu 3584528711,zu 113926993,zu 338241895,zu 666307205,zu 773529912,zu 1294757372,zu 1396182291,zu 1695183700,zu 1986661051,zu 2177026350,zu 2456956037,zu 2730485921,zu 2820302411,zu 3259730800,zu 3345764771,zu 3516065817,zu 3600352804,zu 4094571909,zu 275423344,zu 430227734,zu 506948616,zu 659060556,zu 883997877,zu 958139571,zu 1322822218,zu 1537002063,zu 1747873779,zu 1955562222,zu 2024104815,zu 2227730452,zu 2361852424,zu 2428436474,zu 2756734187,zu 3204031479,zu 3329325298] t frozen
   |o=>o).modify 0 fun
   | .cells _ t frozen=> .cells #[.iface 388<|zo low] t frozen
   |o=>o).modify 1 fun
   | .cells _ t frozen=> .cells #[.iface 388<|zo<|low+1] t frozen
   |o=>o}
def W1(a:Os):laidMet bM Rows.shapedRow.laid ((Mi a).forCall (fun _ _=>0) ⟨#[],#[.string ⟨#[]⟩,.string ⟨#[]⟩,zi 0,.slice bN 0 0,zi 0],[]⟩).memory:=
 laidMet_of_run' 70 (by kernel_rfl) (by kernel_rfl)
def xvf(a:Os){H:Type}(enc:Zt×Zv->H):∃places,DataW.whole enc bM ((Mi a).forCall (fun _ _=>0) ⟨#[],#[.string ⟨#[]⟩,.string ⟨#[]⟩,.int .i64 0,.slice bN 0 0,.int .i64 0],[]⟩).memory Tryz.f6.params.toList Rows.shapedSpec.vars bK (#[Value.string ⟨#[]⟩,.string ⟨#[]⟩,.int .i64 0,.slice bN 0 0,.int .i64 0]).toList 8=bO ([.lit<|.string [],.lit<|.string [],.lit<|.int .i64 0,.nil,.lit<|.int .i64 0],[],places):=
 ⟨[],by kernel_rfl⟩
def xxj{H:Type}{enc:Zt×Zv->H}(W:Zy)(base:Nat)(args:Za)(R gs:List<|DataW H)(c:List MemPlace)
  (a:∀(j:Nat) t v,Tryz.f6.params[j]?=bO t->args[j]?=bO v->Value.okWide bM W .any base t v)
  (Z:DataW.Whole enc bM Tryz.f6.params.toList Rows.shapedSpec.vars bK W args.toList R gs c)(hL:laidMetH bM Rows.shapedRow.laid W):
  ∃M last o w' t',runNT bM (M+1) (solo (G (bF bM 6 args .normal) []) W) #[]=(.ended o w',t')/\runN bM M (solo (G (bF bM 6 args .normal) []) W)= .next last/\step bM last= .ended o w'/\
   Conc.Good bM (fun v W'=>Rows.shapedSpec.post enc bM Tryz.f6 bK bL bK bK W.blind args v W'.blind) last o w' t':=by
 have f:=Z;obtain⟨p,q,k,hV,rfl,bb,bc⟩:=Z;have Y:DataW.TrodAll enc bM W 0 (fun _=>bL) bL Tryz.f6.params.toList args.toList R p:=k;rw[Tryz.params6]at Y a;obtain⟨v0,vs,d0,ba,p0,q0,b,rfl,rfl,T,g⟩:=trodAll_cons Y;obtain⟨Q,L,N,O,dm,d1,d2,d4,pm,p1,p2,p4,I,rfl,rfl,hm,U,V,X⟩:=trodAll_four (args:=vs.toArray) (by simpa using g);obtain rfl:args=#[v0,Q,L,N,O]:=by
  have e:vs=[Q,L,N,O]:=by simpa using congrArg Array.toList I
  rw[e]at b;cases args;simpa using b
 obtain⟨rfl,rfl⟩:=trodVars_none hV;have s:=T;have C:=hm;have w:=U;have y:=V;have z:=X;obtain⟨s0,rfl,rfl,rfl,bd⟩:=open_string Tryz.underlying9 (a 0 9 v0 rfl rfl) T;obtain⟨sm,rfl,rfl,rfl,be⟩:=open_string Tryz.underlying9 (a 1 9 Q rfl rfl) hm;obtain⟨n1,rfl,rfl,rfl,l⟩:=open_int Tryz.underlying3 (a 2 3 L rfl rfl) U;obtain⟨n,rfl,rfl,rfl,m⟩:=open_int Tryz.underlying3 (a 4 3 O rfl rfl) X;obtain⟨a0,K,r,rfl⟩:=okWide_slice Tryz.underlying22<|a 3 22 N rfl rfl;obtain⟨S,hf⟩:=V;clear k;simp only[Xq]at f;have B:∀x∈p2,x.block<W.heap.size:=fun x d=>f.lt x (by simpa using d);obtain⟨D,hD⟩:=QQ hf;obtain⟨cv,tv,hG⟩:=xq3 hL;have E:-9223372036854775808<=n1/\n1<=9223372036854775807:=by
  simp only[Lit.wf,xl,X9]at l;exact l
 have F:-9223372036854775808<=n/\n<=9223372036854775807:=by
  simp only[Lit.wf,xl,X9]at m;exact m
 obtain⟨M,last,o,w',t',r1,r2,r3,r4⟩:=Shaped_run s0.data.toList sm.data.toList n1 E _ D n F hG hD;rw[xoj,xoj]at r1 r2;refine⟨M,last,o,w',t',r1,r2,r3,r4.mono fun v hp=>?_⟩;obtain⟨rfl,hk⟩:=hp;have i:=hk.below;have J:=DataW.Whole.of_heap (w':=W.blind) (by rfl) f;have t0:DataW.Trod enc bM W.blind 0 (fun _=>bL) bL 9 (.string s0) _ []:=DataW.Trod.of_heap (by rfl) s;have t1:DataW.Trod enc bM W.blind 0 (fun _=>bL) bL 3 (.int .i64 n1) _ []:=DataW.Trod.of_heap (by rfl) w;have t2:DataW.Trod enc bM W.blind 0 (fun _=>bL) bL 22 (.slice a0 K r) d2 p2:=DataW.Trod.of_heap (by rfl) y;have tm:DataW.Trod enc bM W.blind 0 (fun _=>bL) bL 9 (.string sm) _ []:=DataW.Trod.of_heap (by rfl) C;have t4:DataW.Trod enc bM W.blind 0 (fun _=>bL) bL 3 (.int .i64 n) _ []:=DataW.Trod.of_heap (by rfl) z;refine⟨_,_,_,[],_,[],J,trodAll_cons_mk (shut_bool Tryz.underlying4 _) trodAll_mk0,
  trodAll_cons_mk (Below.trod UD (by kernel_rfl) (Xj<|by kernel_rfl) t0 i fun x d=>by cases d) (trodAll_cons_mk (Below.trod UD (by kernel_rfl) (Xj<|by kernel_rfl) tm i fun x d=>by cases d) (trodAll_cons_mk (Below.trod UD (by kernel_rfl) (Xj<|by kernel_rfl) t1 i fun x d=>by cases d)
   (trodAll_cons_mk (Below.trod UD (by kernel_rfl) (Xj<|by kernel_rfl) t2 i B)<|trodAll_cons_mk (Below.trod UD (by kernel_rfl) (Xj<|by kernel_rfl) t4 i fun x d=>by cases d) trodAll_mk0))),rfl,i.frame _,fun h=>by cases h⟩
def lifted(h:Os)(a:h.Started)(H:Type)(enc:Zt×Zv->H):
  ReturnsInLeavingWide {} Tryz.checked h 6 .any ((OpenSpec.ofChange Rows.shapedSpec).preRow enc bM Tryz.f6 Rows.shapedRow.domain bK Rows.shapedRow.laid) (Rows.shapedSpec.post enc bM Tryz.f6 bK bL bK bK):=by
 obtain⟨j,t⟩:=xvf h enc;refine returnsInLeavingWide_of_good own a
  (witness_row_at bK _ _ rfl (by kernel_rfl) (by kernel_rfl) (by kernel_rfl)
   (OpenSpec.preRow_of_cond 8 t (by kernel_rfl) (fun k hk=>by cases hk) (by kernel_rfl)<|W1 h)) ?_
 intro w f i _ _ _ m c _;obtain⟨_,_,_,l,b,_,_,_,_,d⟩:=m;have e:l=Tryz.f6:=jf<|b.symm.trans Tryz.func6;subst e;obtain⟨⟨r,q⟩,x⟩:=c;obtain⟨o,p,g,s,v,hk⟩:=OpenSpec.pre_parts r;have n:=DataW.Whole.of_heap (w':=w.forCall f i) (by rfl) s;exact xxj _ _ _ o p _ d n<|q.of_heap<|by rfl
end
end P
namespace P
open Go.RowKit A
def gX{a b:Bool}(h:a=bL)(k:b=bL):(a&&b)=bL:=by rw[h,k];rfl
def j0:(Rows.shapedRow.wf<|OpenSpec.ofChange Rows.shapedSpec)=bL:=by kernel_rfl
def j1:(laidOutB Tryz.pinned.checked.prog)=bL:=by kernel_rfl
def j2:(mapsRowed Tryz.pinned.checked.prog)=bL:=by kernel_rfl
def j3:(Tryz.f6.params.all (Tryz.pinned.checked.prog.readableRec ·))=bL:=by kernel_rfl
def j4:(namedTie Tryz.pinned.checked.prog Rows.shapedRow.named Rows.shapedSpec.vars)=bL:=by kernel_rfl
def j5:((Rows.shapedRow.stops==[]))=bL:=by kernel_rfl
def j6:((Tryz.pinned.checked.prog.stops==[]))=bL:=by kernel_rfl
def j7:((Rows.shapedRow.knobs==[]))=bL:=by kernel_rfl
def j8:((Tryz.pinned.checked.prog.stopKnobs==[]))=bL:=by kernel_rfl
def j9:((Rows.shapedRow.inPlace==Tryz.pinned.checked.prog.inPlace 6))=bL:=by kernel_rfl
def j10:((Rows.shapedRow.unfollowed==Tryz.pinned.checked.prog.unfollowed 6))=bL:=by kernel_rfl
def j11:((Rows.shapedRow.recurses==Tryz.pinned.checked.prog.recurses 6))=bL:=by kernel_rfl
def j12:((Rows.shapedRow.named==Tryz.pinned.checked.prog.varsNamed 6))=bL:=by kernel_rfl
def j13:((Rows.shapedRow.maps==(Tryz.f6.params.toList++Rows.shapedSpec.plain.varTypes Tryz.pinned.checked.prog).any (Tryz.pinned.checked.prog.mapsRec ·)))=bL:=by kernel_rfl
def eL:((Rows.shapedRow.ifaces==(Tryz.f6.params.toList++Rows.shapedSpec.plain.varTypes Tryz.pinned.checked.prog).any (Tryz.pinned.checked.prog.ifacesRec ·)))=bL:=by kernel_rfl
def eM:((Rows.shapedRow.mapsOut==Tryz.pinned.checked.prog.mapsAmong Tryz.f6.resultTypes.toList))=bL:=by kernel_rfl
def eN:((Rows.shapedRow.loops==(Tryz.f6.params.toList++Rows.shapedSpec.plain.varTypes Tryz.pinned.checked.prog).any (Tryz.pinned.checked.prog.loopsFrom ·)))=bL:=by kernel_rfl
def eQ:((Rows.shapedRow.wideKeys==(Tryz.f6.params.toList++Rows.shapedSpec.plain.varTypes Tryz.pinned.checked.prog++Tryz.f6.resultTypes.toList).any (Tryz.pinned.checked.prog.wideKeysFrom ·)))=bL:=by kernel_rfl
def eR:(Rows.shapedSpec.vars.all (Tryz.pinned.checked.prog.varReadable ·))=bL:=by kernel_rfl
def eS:(Tryz.f6.resultTypes.all fun t=>Tryz.pinned.checked.prog.readableRec t&&decide (t<Tryz.pinned.checked.prog.types.size))=bL:=by kernel_rfl
def eV:((Rows.shapedRow.ifacesOut==Tryz.f6.resultTypes.toList.any (Tryz.pinned.checked.prog.ifacesRec ·)))=bL:=by kernel_rfl
def eW:((Rows.shapedRow.loopsOut==Tryz.f6.resultTypes.toList.any (Tryz.pinned.checked.prog.loopsFrom ·)))=bL:=by kernel_rfl
def fL:((Rows.shapedRow.plainKeys==Tryz.pinned.checked.prog.plainKeys))=bL:=by kernel_rfl
def fN:(Rows.shapedRow.shortTexts.isNone)=bL:=by kernel_rfl
def fR:(Tryz.pinned.checked.prog.stopsHeard)=bL:=by kernel_rfl
def fS:(Tryz.pinned.checked.prog.mayEnter)=bL:=by kernel_rfl
def fW:((Rows.shapedRow.lifted==Tryz.pinned.checked.prog.liftsFinal))=bL:=by kernel_rfl
def fX:((Tryz.pinned.checked.prog.make==bO Rows.shapedRow.make))=bL:=by kernel_rfl
def fY:((Rows.shapedRow.kinds==(if Rows.shapedRow.domain.isEmpty then []else Tryz.f6.params.toList.map fun t=>match Tryz.pinned.checked.prog.underlying t with|some (.int k)=>bO k|_=>bN)))=bL:=by kernel_rfl
def gA:((Rows.shapedRow.pinned==Rows.shapedRow.pinnedBy))=bL:=by kernel_rfl
def gC:((Rows.shapedRow.veiled==(Tryz.f6.params.toList++Rows.shapedSpec.plain.varTypes Tryz.pinned.checked.prog++Tryz.f6.resultTypes.toList).any (Tryz.pinned.checked.prog.veiledRec ·)))=bL:=by kernel_rfl
def gE:(Rows.shapedRow.veiledFits Tryz.pinned.checked.prog Tryz.f6.params.toList<|Tryz.f6.params.toList++Rows.shapedSpec.plain.varTypes Tryz.pinned.checked.prog++Tryz.f6.resultTypes.toList)=bL:=by kernel_rfl
def xty:joinedFacts Tryz.pinned.checked.prog 6 Tryz.f6 Rows.shapedSpec Rows.shapedRow=bL:=by
 unfold joinedFacts;exact(gX (gX (gX (gX (gX (gX (gX (gX (gX (gX (gX (gX (gX (gX (gX (gX (gX (gX (gX (gX (gX (gX (gX (gX (gX (gX (gX (gX (gX (gX (gX j0 j1) j2) j3) j4) j5) j6) j7) j8) j9) j10) j11) j12) j13) eL) eM) eN) eQ) eR) eS) eV) eW) fL) fN) fR) fS) fW) fX) fY) gA) gC) gE)
def xro:Tryz.pinned.checked.prog.funcNamed Rows.shapedRow.func=bO 6:=by kernel_rfl
def xt3:Tryz.f6.isInstance Tryz.pinned.checked.prog Rows.shapedRow.origin Rows.shapedRow.targs:=Xj<|by kernel_rfl
def xv4:Tryz.f6.isWrapper Tryz.pinned.checked.prog Rows.shapedRow.wrapper Rows.shapedRow.mainSum:=by unfold Func.isWrapper;first|(rw[aA<|by decide+kernel];kernel_rfl)|(rw[aB<|by decide+kernel];exact⟨rfl,rfl⟩)
def said:Rows.ShapedSaid:=
 OpenClaim.holds_of_wide_leaving 6 Tryz.f6 rfl rfl rfl rfl rfl rfl rfl ⟨rfl,rfl,rfl,rfl,rfl⟩ rfl rfl rfl rfl rfl xro Tryz.func6 xty xt3 xv4
  (fun c a H b _=>by rw[OpenClaim.pre_eq_preRow];exact lifted c a H b)
def plain(f:FuncId)(fn:Func)(d:Tryz.pinned.checked.prog.funcNamed "coffer/cofferkeep.Shaped"=bO f)(a:Tryz.pinned.checked.prog.funcs[f]?=bO fn):
  bL=Tryz.pinned.checked.prog.looks []/\∀(j:Nat) t,fn.params[j]?=bO t->Tryz.pinned.checked.prog.wantsStandIn t=bK:=by
 obtain rfl:f=6:=jf ((show Tryz.prog.funcNamed "coffer/cofferkeep.Shaped"=bO 6 by kernel_rfl).symm.trans d) |>.symm;obtain rfl:fn=Tryz.f6:=(jf<|Tryz.func6.symm.trans a).symm;refine⟨by kernel_rfl,fun j t c=>?_⟩;rw[Tryz.params6]at c;have b:=Wk c;simp only[List.mem_toArray,xf,Vy,or_false]at b;rcases b with rfl|rfl|rfl|rfl|rfl;exact(show Tryz.prog.wantsStandIn 9=bK by kernel_rfl);exact(show Tryz.prog.wantsStandIn 9=bK by kernel_rfl);exact(show Tryz.prog.wantsStandIn 3=bK by kernel_rfl);exact(show Tryz.prog.wantsStandIn 22=bK by kernel_rfl);exact(show Tryz.prog.wantsStandIn 3=bK by kernel_rfl)
def xt1:bL=Rows.shapedRow.goesBy Tryz.pinned.checked.prog:=by kernel_rfl
def xt7:Tryz.pinned.checked.prog.mainIs=bO (bL,"6112a70bf7700c9ef082f368a9341514db7d80b00d6c93fffd8a755e3258b503".toList):=by kernel_rfl
def card:Rows.ShapedCardSaid:=
 ⟨Claim7.tied_new_at .later [.data,.sentinel,.sentinel] bL (Claim7.new_of_sixth said (bL,"6112a70bf7700c9ef082f368a9341514db7d80b00d6c93fffd8a755e3258b503") bL rfl ⟨rfl,rfl⟩ xt7 rfl plain)<|by kernel_rfl,fun D a=>(by cases a),shaped_row_tie,(fun h=>by cases h),xt1⟩
end P
end Go.Proofs.YtjnbhiamaabbgabGreatDoor
