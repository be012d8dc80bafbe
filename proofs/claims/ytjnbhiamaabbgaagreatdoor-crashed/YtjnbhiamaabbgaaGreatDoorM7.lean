import Derived.Test.YtjnbhiamaabbgaaGreatDoorM6
set_option linter.all false
set_option maxRecDepth 100000
set_option maxHeartbeats 8000000
namespace Go.Proofs.YtjnbhiamaabbgaaGreatDoor
open Bool renaming false->bK,true->bL
open Go renaming Calls->bE,Oper->aD
open Go.RowKit renaming Below->bC,intOf->aJ
open Option renaming none->bN,some->bO
namespace P
open A.Tryq Go.RowKit
attribute [local go_sem] xe zv
def Jo.synced(s:Jo):Jo:={s with L:=cO s.L s.P,pv:= .slice bN 0 0,P:=[]}
def Sr.bW(r:Sr)(s:Jo):Option Int×Sr:=
 if s.P=[]then(bO 0,r)
 else if(r.writes s [82] s.ep<|Xt s.P).1=bO 0 then(bO 0,{(r.writes s [82] s.ep<|Xt s.P).2 with sn:=bO ({s with last:=(r.place s).1}:Jo).synced})
 else r.writes s [82] s.ep (Xt s.P)
def Sy{r r':Sr}{s:Jo}{kind plain:Zl}{ep:Nat}(a:r.sn=bO s)(h:r.writes s kind ep plain=(bO 0,r')):r'.sn=bO {s with last:=(r.place s).1}:=by
 unfold Sr.writes at h;split at h;cases h;split at h;cases h;split at h;cases h;split at h;cases h;cases h;rfl
def zvl{r r':Sr}{s:Jo}{kind plain:Zl}{ep:Nat}{a:Option Int}(b:r.sn=bO s)(h:r.writes s kind ep plain=(a,r')):∃l,r'.sn=bO {s with last:=l}:=by
 unfold Sr.writes at h;split at h;cases h;exact⟨s.last,b⟩;split at h;cases h;exact⟨s.last,b⟩;split at h;cases h;exact⟨s.last,b⟩;split at h;cases h;exact⟨s.last,b⟩;cases h;exact⟨_,rfl⟩
def jt.made{B:Nat}{r:Sr}{s:Jo}{w w1:Zy}(h:Jq w B r)(d:r.sn=bO s)(p:xb (·=s.mp) w w1)(t:Xd w1 s.mp<|cO s.L s.P):
  jt B r w {r with sn:=bO s.synced} (w1.setCell (zq s.S 1)<|.slice bN 0 0):=by
 obtain⟨k,m⟩:=h.bU s d;obtain⟨z,c,g⟩:=k.map.blk;have f:=k.blk.cZ g;have j:=h.blk.cZ g;have l:s.S≠B:=fun e=>k.blk.ne h.blk (by decide) e;have i:xb (fun x=>x=s.mp\/x=s.S) w<|w1.setCell (zq s.S 1)<|.slice bN 0 0:=(p.mono fun x b=> .inl b).trans<|(xb.set w1 _ _).mono fun x b=> .inr b;refine⟨i.mono fun x b=>?_,⟨?_, ?_,fun y o=>?_⟩,fun x b=>?_⟩;rcases b with e|e
 exact .inr<|.inr ⟨s,d,.inr<|.inl e⟩;exact .inr<|.inr ⟨s,d,.inl e⟩;have:=h.blk.but i (by rintro(e|e);exact j e;exact l e.symm);have e:({r with sn:=bO s.synced}:Sr).cells=r.cells:=by simp[Sr.cells,Sr.iJ,d,Jo.synced]
 rw[e];exact this;refine h.disk.but i fun x b e=>?_;refine h.apart d ?_ b;rcases e with e|e
 exact .inr<|.inl e;exact .inl e;cases o;refine⟨⟨?_, ?_, ?_⟩,m⟩;have q:=k.blk.but p f;exact q.set 1 _;exact t.but (xb.set w1 _ _) fun e=>f e.symm;exact Vl _ _ _ _;rcases b with e|e|⟨y,e,b⟩
 exact .inl<|.inl e;exact .inl<|.inr<|.inl e;cases e;rcases b with e|e|⟨a,n,c,v,e⟩
 exact .inl<|.inr<|.inr ⟨s,d,.inl e⟩;exact .inl<|.inr<|.inr ⟨s,d,.inr<|.inl e⟩;cases v
def RI{f:FuncId}{args:Za}{cv:Zv}{w:Zy}{A:Option Int×Sr}{T:Sr->Zy->Prop}(h:bE prog f args w fun e w'=>∃a r',A=(a,r')/\e=FD cv a/\T r' w'):
  bE prog f args w fun e w'=>(∃v r',A=(bO v,r')/\e= .returned (zi v)/\T r' w')\/(∃r',A=(bN,r')/\e=eF cv/\T r' w'):=
 h.mono fun e w' ⟨a,r',b,c,d⟩=>by
  cases a with
  |none=>exact .inr ⟨r',b,c,d⟩
  |some v=>exact .inl ⟨v,r',b,c,d⟩
def jt.nw{B:Nat}{r:Sr}{w w':Zy}(h:Jq w B r)(a:Nw w w'):jt B r w r w':=⟨a.mono fun _ x=>x.elim,h.but a fun _ _=>id,fun x b=> .inl b⟩
def O_{cv tv:Zv}(B:Nat)(r:Sr)(s:Jo)(w:Zy)(h:Jq w B r)(y:r.sn=bO s)(m:fV B r)(T:iA cv tv w)(U:∀c∈s.P,mF c):
  bE prog 35 #[zo B] w fun e w'=>∃a r',r.bW s=(a,r')/\e=FD cv a/\jt B r w r' w':=by
 have O:=zl h;have HK:=zl m;have HG:=zl T;have H:=zl y;have HP:=zl U;have k:=(h.bU s y).1;have c7:w.cell? (zq B 7)=bO (zo s.S):=(h.blk.cell 7 rfl).trans (by simp[Sr.cells,Sr.iJ,y]);have R:w.cell? (zq s.S 1)=bO s.pv:=k.blk.cell 1 rfl;have be:=(m.bU s y).2.2;rcases ZQ k.pend with⟨f,b⟩|⟨g,i,f,o,hg⟩
 ·rw[f]at R
  have Y:Hid<|r.bW s=(bO 0,r):=by show _=_;unfold Sr.bW;rw[aA b]
  clear h m T y U k f b;go_enter func35.1,Tryz.ntmps35
  go_wp2_with fail
  go_ret
  exact⟨_,_,Y.o,rfl,jt.refl O.o⟩
 rw[f]at R;by_cases b:s.P=[]
 ·have Y:Hid<|r.bW s=(bO 0,r):=by show _=_;unfold Sr.bW;rw[aA b]
  rw[b]at R;clear h m T y U k f b;go_enter func35.1,Tryz.ntmps35
  go_wp2_with fail
  go_ret
  exact⟨_,_,Y.o,rfl,jt.refl O.o⟩
 have p:Hid<|s.P≠[]:=b;have bd:¬s.P.length=0:=fun e=>b<|xa e;have bc:decide ((s.P.length:Int)=0)=bK:=by simpa using b
 have d2:w.cell? (zq s.S 2)=bO (zi s.ep):=k.blk.cell 2 rfl;have Z:Hid<|uU w.drew g s.P:=o;have q:=zl f;clear h m T y U k f b o;go_enter func35.1,Tryz.ntmps35
 go_wp2_with fail
 have d:Hid<|∀w1 r1 l,jt B r w r1 w1->r1.sn=bO {s with last:=l}->w1.cell? (zq s.S 1)=bO (.slice (bO ⟨g,0,bN⟩) s.P.length i)/\w1.cell? (zq s.S 2)=bO (zi s.ep):=fun w1 r1 l hh he=>by
  have C:=(hh.at_.bU _ he).1;exact⟨(C.blk.cell 1 rfl).trans<|congrArg bO q.o,C.blk.cell 2 rfl⟩
 have T0:=zl<|jt.nw O.o (xb.refl _ _).drew;have I:=d.o w r _ (jt.refl O.o) H.o;have X:Hid<|(Xt s.P).length<=4000:=by have:=IQ HP.o;show _<=_;omega
 clear R d2 c7
 go_region_held2 (fun w'=>w'.cell? (zq s.S 1)=bO (.slice (bO ⟨g,0,bN⟩) s.P.length i)/\w'.cell? (zq s.S 2)=bO (zi s.ep)) (first|exact I|exact Q)
  (first
   |(go_at_call 66;refine(zuw g i s.P (by omega) HP.o _ Z.o).mono ?_;rintro e w1 ⟨rfl,hb⟩;have T1:=zl<|T0.o.trans<|jt.nw T0.o.at_<|xb.of_below hb;have G1:=zl<|HG.o.but T1.o.but HK.o.own;have Q:=d.o _ _ _ T1.o H.o)
   |(go_at_call 65;refine(RI<|cH B r s [82] s.ep _ _ T1.o.at_ H.o HK.o G1.o rfl X.o).mono ?_;rintro e V (⟨v,M,z,rfl,n⟩|⟨M,z,rfl,n⟩);rotate_left;(exact⟨rfl,bN,M,by unfold Sr.bW;rw[aB p.o,aB<|by rw[z];simp];exact z,rfl,T1.o.trans n⟩);have HW:=zl z;have T2:=zl<|T1.o.trans n;obtain⟨l2,x⟩:=zvl H.o z;have W:=zl x;have Q:=d.o _ _ _ T2.o x))
 have D:=zl T2.o.at_;clear I Q d T0 T1 G1 n hb z x
 try clear hHeld
 by_cases hv:v=0
 ·subst hv
  have t:Hid<|r.bW s=(bO 0,{M with sn:=bO ({s with last:=(r.place s).1}:Jo).synced}):=by
   show _=_;unfold Sr.bW;rw[aB p.o,HW.o,aA rfl]
  have E:=zl<|Sy H.o HW.o;have j:=zl<|(D.o.bU _ E.o).1;have d:Hid (∀w1,xb (·=s.mp) V w1->w1.cell? (zq s.S 0)=bO (.map<|bO s.mp)/\w1.cell? (zq s.S 1)=bO (.slice (bO ⟨g,0,bN⟩) s.P.length i)/\w1.frozen? (zq s.S 1)=bK):=fun w1 hh=>by
   obtain⟨es,c,bb⟩:=j.o.map.blk;have C:=j.o.blk.but hh<|j.o.blk.cZ bb;exact⟨C.cell 0 rfl,(C.cell 1 rfl).trans<|congrArg bO q.o,C.bT 1⟩
  have I:=d.o V<|xb.refl _ _;have F:Hid<|Xd V.drew s.mp s.L:=j.o.map;have G:Hid<|V.drew.ownsRow 0 126 1 (.slice (bO ⟨g,0,bN⟩) s.P.length i) s.P.length<|s.P.map iC:=by
   have:=j.o.pend;show World.ownsRow _ _ _ _ _ _ _;rw[<-q.o];exact this
  clear W Q
  go_wp2_with fail
  go_region_held3 (fun w'=>w'.cell? (zq s.S 0)=bO (.map<|bO s.mp)/\w'.cell? (zq s.S 1)=bO (.slice (bO ⟨g,0,bN⟩) s.P.length i)/\w'.frozen? (zq s.S 1)=bK) (first|exact I|exact S2)
   ((go_at_call 44;refine(Qu s.mp s.L _ s.P (by omega) _ F.o G.o).mono ?_;rintro e w4 ⟨rfl,J,K⟩;have B4:=zl<|(xb.refl _ _).drew.trans J;have M4:=zl K;have S2:=d.o _ B4.o))
  have ba:Hid<|jt B r w {M with sn:=bO ({s with last:=(r.place s).1}:Jo).synced}<|w4.setCell (zq s.S 1)<|.slice bN 0 0:=T2.o.trans<|jt.made D.o E.o B4.o M4.o;obtain⟨e0,e1,e2⟩:=S2;clear I d F G J K e0
  try clear hHeld
  go_wp2_with fail
  go_ret
  exact⟨_,_,t.o,rfl,ba.o⟩
 have t:Hid<|r.bW s=(bO v,M):=by
  show _=_;unfold Sr.bW;rw[aB p.o,HW.o,aB<|by simpa using hv]
 have bf:decide (v=0)=bK:=by simpa using hv
 go_wp2_with fail
 go_ret
 exact⟨_,_,t.o,rfl,T2.o⟩
def Sr.ses1(r:Sr)(s:Jo):Jo:=if s.P=[]then s else({s with last:=(r.place s).1}:Jo).synced
def dT{r r1:Sr}{s:Jo}(a:r.sn=bO s)(h:r.bW s=(bO 0,r1)):r1.sn=bO (r.ses1 s):=by
 unfold Sr.bW at h;unfold Sr.ses1;split at h
 rename_i hp;cases h;rw[aA hp];exact a
 rename_i hp
 rw[aB hp];split at h;cases h;rfl
 rename_i hq
 rw[h]at hq;exact absurd rfl hq
def jt.lV{B:Nat}{r:Sr}{s s':Jo}{w:Zy}{j:Nat}{v:Zv}(h:Jq w B r)(f:r.sn=bO s)(F:s'.cells=s.cells.setIfInBounds j v)(l:s'.S=s.S)(m:s'.mp=s.mp)(D:s'.L=s.L)(C:s'.pv=s.pv)(E:s'.P=s.P):
  jt B r w {r with sn:=bO s'} (w.setCell (zq s.S j) v):=by
 obtain⟨k,z⟩:=h.bU s f;obtain⟨J,c,y⟩:=k.map.blk;have o:=k.blk.cZ y;have n:s.S≠B:=fun e=>k.blk.ne h.blk (by decide) e;have b:xb (fun x=>x=s.S) w<|w.setCell (zq s.S j) v:=xb.set w (zq s.S j) _;have own:∀x,s'.own x↔s.own x:=fun x=>by unfold Jo.own;rw[l,m,C]
 refine⟨b.mono fun x a=> .inr (.inr ⟨s,f,.inl a⟩),⟨?_, ?_,fun t H=>?_⟩,fun x a=>?_⟩;have e:({r with sn:=bO s'}:Sr).cells=r.cells:=by simp[Sr.cells,Sr.iJ,f,l]
 rw[e];exact h.blk.but b fun e=>n e.symm;exact h.disk.but b fun x a e=>h.apart f (.inl e) a;cases H;refine⟨⟨?_, ?_, ?_⟩,by rw[m];exact z⟩;rw[l,F];exact k.blk.set j v;rw[m,D];exact k.map.but b fun e=>o e.symm;rw[C,E];refine⟨k.pend.1, ?_⟩;rcases k.pend.2 with e|⟨g,i,d,I,G,p,q⟩
 exact .inl e;refine .inr ⟨g,i,d,I,G,(b.block g (za.1 p).1 fun e=>?_).trans p,q⟩;exact k.blk.ne (show xx w g d 126 from p) (by decide) e.symm;rcases a with e|e|⟨t,e,a⟩
 exact .inl<|.inl e;exact .inl<|.inr<|.inl e;cases e;exact .inl<|.inr<|.inr ⟨s,f,(own x).1 a⟩
def Sr.bV(r:Sr)(s:Jo):Option Int×Sr:=
 if(r.bW s).1=bO 0 then
  if(r.ses1 s).ep=5 then(bO 10,(r.bW s).2)
  else if((r.bW s).2.writes (r.ses1 s) [75] ((r.ses1 s).ep+1) []).1=bO 0 then(bO 0,{((r.bW s).2.writes (r.ses1 s) [75] ((r.ses1 s).ep+1) []).2 with sn:=bO {r.ses1 s with last:=((r.bW s).2.place<|r.ses1 s).1,ep:=(r.ses1 s).ep+1}})
  else(r.bW s).2.writes (r.ses1 s) [75] ((r.ses1 s).ep+1) []
 else r.bW s
def LS{cv tv:Zv}(B:Nat)(r:Sr)(s:Jo)(w:Zy)(h:Jq w B r)(U:r.sn=bO s)(y:fV B r)(l:∀r1,r.bW s=(bO 0,r1)->fV B r1)(R:iA cv tv w)(T:∀c∈s.P,mF c)(F:s.ep<=1000000):
  bE prog 69 #[zo B] w fun e w'=>∃a r',r.bV s=(a,r')/\e=FD cv a/\jt B r w r' w':=by
 have W:=zl h;have M:=zl y;have D:=zl l;have L:=zl R;have O:=zl U;have X:=zl T;have x:(r.ses1 s).ep<=1000000:=by unfold Sr.ses1;split<;>exact F
 clear h y l R U T;go_enter func69.1,Tryz.ntmps69
 go_wp2_with fail
 refine(RI<|O_ B r s _ W.o O.o M.o L.o X.o).mono ?_;rintro e w1 (⟨v,r1,z,rfl,j⟩|⟨r1,z,rfl,j⟩)
 ·have m:=zl z
  have T1:=zl j;clear z j;by_cases G:v=0
  ·subst G
   have g:=zl<|dT O.o m.o;have V:=zl<|L.o.but T1.o.but M.o.own;obtain⟨b,o⟩:∃b,r.ses1 s=b:=⟨_,rfl⟩;have i:=zl o;rw[o]at g x;have Z:w1.cell? (zq B 7)=bO (zo b.S):=(T1.o.at_.blk.cell 7 rfl).trans (by simp[Sr.cells,Sr.iJ,g.o]);have Q:w1.cell? (zq b.S 2)=bO (zi b.ep):=(T1.o.at_.bU b g.o).1.blk.cell 2 rfl;clear o;by_cases E:b.ep=5
   ·have f:Hid<|r.bV s=(bO 10,r1):=by
     show _=_;unfold Sr.bV;rw[m.o,aA rfl,i.o,aA E]
    rw[E]at Q
    go_wp2_with fail
    go_ret
    exact⟨_,_,f.o,rfl,T1.o⟩
   have ba:decide ((b.ep:Int)=5)=bK:=by simp;omega
   have C:=zl E
   go_wp2_with fail
   refine(RI<|cH B r1 b [75] (b.ep+1) [] _ T1.o.at_ g.o (D.o _ m.o) V.o rfl<|by decide).mono ?_;rintro e K (⟨J,q,k,rfl,d⟩|⟨q,k,rfl,d⟩)
   ·have n:=zl k
    have T2:=zl d;clear k d;by_cases p:J=0
    ·subst p
     have t:=zl<|Sy g.o n.o;have I:=(T2.o.at_.bU _ t.o).1;have e2:K.cell? (zq b.S 2)=bO (zi b.ep):=I.blk.cell 2 rfl;have f2:K.frozen? (zq b.S 2)=bK:=I.blk.bT 2;have f:Hid<|r.bV s=(bO 0,{q with sn:=bO {b with last:=(r1.place b).1,ep:=b.ep+1}}):=by
      show _=_;unfold Sr.bV;rw[m.o,aA rfl,i.o,aB C.o,n.o,aA rfl]
     have Y:Hid<|jt B r w {q with sn:=bO {b with last:=(r1.place b).1,ep:=b.ep+1}}<|K.setCell (zq b.S 2)<|zi<|(b.ep:Int)+1:=
      (T1.o.trans T2.o).trans (jt.lV (s:={b with last:=(r1.place b).1}) T2.o.at_ t.o rfl rfl rfl rfl rfl rfl)
     clear I Z Q
     go_wp2_with fail
     go_ret
     exact⟨_,_,f.o,rfl,Y.o⟩
    have f:Hid<|r.bV s=(bO J,q):=by
     show _=_;unfold Sr.bV;rw[m.o,aA rfl,i.o,aB C.o,n.o,aB<|by simpa using p]
    have H:decide (J=0)=bK:=by simpa using p
    go_wp2_with fail
    go_ret
    exact⟨_,_,f.o,rfl,T1.o.trans T2.o⟩
   have f:Hid<|r.bV s=(bN,q):=by
    show _=_;unfold Sr.bV;rw[m.o,aA rfl,i.o,aB C.o,k,aB<|by simp]
   exact⟨rfl,bN,q,f.o,rfl,T1.o.trans d⟩
  have f:Hid<|r.bV s=(bO v,r1):=by
   show _=_;unfold Sr.bV;rw[m.o,aB<|by simpa using G]
  have H:decide (v=0)=bK:=by simpa using G
  go_wp2_with fail
  go_ret
  exact⟨_,_,f.o,rfl,T1.o⟩
 have f:Hid<|r.bV s=(bN,r1):=by
  show _=_;unfold Sr.bV;rw[z,aB<|by simp]
 exact⟨rfl,bN,r1,f.o,rfl,j⟩
end P
namespace P
def XH(a b:Zl):Zl:=jF (1::(a++b))
def qL(p:Zl):Zl:=jF (0::p)
def above:List Zl->List Zl
 |a::b::r=>XH a b::above r
 |l=>l
def up:Nat->List Zl->List Zl
 |0,l=>l
 |k+1,l=>up k<|above l
def J7(ps:List Zl):Zl:=if ps=[]then jF []else(up 8<|ps.map qL).headD []
def JA:∀l:List Zl,(above l).length=(l.length+1)/2
 |[]=>rfl
 |[_]=>by simp[above]
 |_::_::r=>by simp only[above,zh,JA r];omega
def YD:∀a b:List Zl,a.length%2=0->above (a++b)=above a++above b
 |[],b,_=>rfl
 |[_],_,h=>by simp at h
 |x::y::r,b,h=>by
  have c:r.length%2=0:=by simp only[zh]at h;omega
  simp only[jc,above,YD r b c]
def Es(x:Zl):∀k,up k [x]=[x]
 |0=>rfl
 |k+1=>Es x k
def Er:∀(j k:Nat) (l:List Zl),up (j+k) l=up k (up j l)
 |0,k,l=>by rw[jy];rfl
 |j+1,k,l=>by rw[Nat.add_right_comm];exact Er j k _
def p8:∀(k:Nat) (l:List Zl),0<l.length->l.length<=2^k->∃x,up k l=[x]
 |0,l,h0,h1=>by
  match l,h0,h1 with
  |[x],_,_=>exact⟨x,rfl⟩
  |_::_::_,_,h=>simp at h
 |k+1,l,h0,h1=>by
  have a:=JA l;rw[DR]at h1;exact p8 k _ (by omega)<|by omega
def P5{k j:Nat}{l:List Zl}{x:Zl}(h:up k l=[x])(hk:k<=j):up j l=[x]:=by
 obtain⟨d,rfl⟩:=Nat.exists_eq_add_of_le hk;rw[Er,h,Es]
def LR:J7 []=jF []:=rfl
def cM{ps:List Zl}{k:Nat}{x:Zl}(h:up k (ps.map qL)=[x])(hk:k<=8)(a:ps≠[]):J7 ps=x:=by
 rw[J7,aB a,P5 h hk];rfl
def F9{l:List Zl}(h:∀x∈l,x.length=32):∀x∈above l,x.length=32:=by
 match l,h with
 |[],h=>exact h
 |[_],h=>exact h
 |a::b::r,h=>
  intro x c;simp only[above,xf]at c;rcases c with rfl|c
  exact yM _;exact F9 (fun y d=>h y<|by simp[d]) x c
def eA:∀(k:Nat) (l:List Zl),(∀x∈l,x.length=32)->∀x∈up k l,x.length=32
 |0,_,h=>h
 |k+1,_,h=>eA k _<|F9 h
def xm4(b:List Zl):∀x∈b.map qL,x.length=32:=fun y a=>by
 simp only[qp]at a;obtain⟨p,_,rfl⟩:=a;exact yM _
def Dm:∀(k:Nat) (l:List Zl),up (k+1) l=above (up k l)
 |0,_=>rfl
 |k+1,l=>Dm k<|above l
def LO{ps:List Zl}{j:Nat}{x:Zl}(h:up j (ps.map qL)=[x])(f:ps.length<=256)(c:ps≠[]):J7 ps=x:=by
 have e:0<ps.length:=by cases ps<;>simp_all
 obtain⟨y,d⟩:=p8 8 (ps.map qL) (by simpa using e) (by simpa using f);rw[cM d (by omega) c];have a:=P5 h<|Nat.le_max_left j 8;have b:=P5 d<|Nat.le_max_right j 8;rw[a]at b;exact(List.cons.inj b).1.symm
def Sd(a:List Zl)(h:a.length<=256):(J7 a).length=32:=by
 by_cases e:a=[];rw[e,LR,yM];have f:0<a.length:=by cases a<;>simp_all
 obtain⟨x,c⟩:=p8 8 (a.map qL) (by simpa using f) (by simpa using h);rw[cM c (by omega) e];have b:∀(k:Nat) (l:List Zl),(∀x∈l,x.length=32)->∀x∈up k l,x.length=32:=by
  intro k;induction k with
  |zero=>intro l h;exact h
  |succ k ih=>intro l h;exact ih _<|F9 h
 exact b 8 (a.map qL) (fun y d=>by simp only[qp]at d;obtain⟨p,_,rfl⟩:=d;exact yM _) x<|by rw[c];simp
end P
namespace P
open A.Tryq Go.RowKit
def xnq(x:Zl):({data:=#[1]}:ByteArray)++st x=st (1::x):=zv [1] x
def Pi(x:Zl):({data:=#[0]}:ByteArray)++st x=st (0::x):=zv [0] x
attribute [local go_sem] xe zv xnq Pi
def sv(L:List Zl):Ze:=L.map fun l=> .string (st l)
def xsp(L:List Zl):(sv L).length=L.length:=by simp[sv]
def o9(a b:List Zl):sv (a++b)=sv a++sv b:=by simp[sv]
def xvq(L:List Zl)(j:Nat)(h:j<L.length):(sv L)[j]?=bO (.string<|st L[j]):=by simp[sv,h]
def NY:∃i,prog.info? 9=bO i/\i.zero=bO (.string ⟨#[]⟩)/\i.size=1/\i.bytes=16:=by
 have h:(prog.info? 9).map (fun i=>(i.zero,i.size,i.bytes))=bO (bO<|.string ⟨#[]⟩,1,16):=by kernel_rfl
 cases hq:prog.info? 9 with
 |none=>rw[hq]at h;simp at h
 |some i=>rw[hq]at h;simp at h;exact⟨i,rfl,h.1,h.2.1,h.2.2⟩
def zH(w:Zy)(g off:Nat)(L:List Zl):Prop:=∀j (h:j<L.length),w.cell? (zq g<|off+j)=bO (.string<|st L[j])
def zH.below{w w':Zy}{g off B:Nat}{L:List Zl}(h:zH w g off L)(b:g<B)(a:bC B w w'):zH w' g off L:=fun j c=>(a.cell (p:=zq g<|off+j) b).trans<|h j c
def Ls{w:Zy}{base g n cap:Nat}{L:List Zl}(h:w.ownsRow base 9 1 (.slice (bO ⟨g,0,bN⟩) n cap) n<|sv L):n=L.length/\base<=g/\g<w.heap.size/\zH w g 0 L:=by
 have i:n=L.length:=by have:=h.1;simpa[xsp]using this.symm
 rcases h.2 with⟨d,_⟩|⟨m,b,a,l,e,c,o,_,p,k⟩;cases d;cases l;refine⟨i,e,(za.1 c).1,fun j f=>?_⟩;rw[jy,je _ _ j _ _ _ c];have:(a.toList.take<|n*1)[j]?=(sv L)[j]?:=by rw[k]
 rw[Jf,aA<|by omega,xvq L j f]at this;simpa using this
def R9{w w':Zy}{B g i j:Nat}{a b:Zv}(c:bC B w w')(d:g<B)(e:w.cell? (zq g i)=bO a)(f:w.cell? (zq g j)=bO b):w'.cell? (zq g i)=bO a/\w'.cell? (zq g j)=bO b:=
 ⟨(c.cell (p:=zq g i) d).trans e,(c.cell (p:=zq g j) d).trans f⟩
def VV(w:Zy)(l:Zl):∀j u,[zs l][j]?=bO u->(w.alloc<|.cells #[zs l] 9).cell? (((zq w.heap.size 0):Addr).add j)=bO u:=
 World.news_of_block (jw _ _)
def XI(l:Zl):∀u∈[zs l],u.oneCell'=bL:=by
 intro u a;simp only[jp]at a;subst a;rfl
def zy9:∀(L:List Zl) (k:Nat) (h:2*k+1<L.length),above (L.take<|2*(k+1))=above (L.take<|2*k)++[XH L[2*k] L[2*k+1]]:=by
 intro L k h;have e:L.take (2*(k+1))=L.take (2*k)++[L[2*k],L[2*k+1]]:=by
  rw[show 2*(k+1)=2*k+1+1 by omega,xy h,xy<|by omega,Zq];rfl
 rw[e,YD _ _<|by simp;omega];rfl
def DQ(L:List Zl)(k:Nat)(h:L.length=2*k+1):above L=above (L.take<|2*k)++[L[2*k]]:=by
 have e:L=L.take (2*k)++[L[2*k]]:=by
  rw[<-xy<|by omega,qj<|by omega]
 have a:above (L.take (2*k)++[L[2*k]])=above (L.take<|2*k)++[L[2*k]]:=by
  rw[YD _ _<|by simp;omega];simp[above]
 rw[<-e]at a;exact a
def zu4(L:List Zl)(X:0<L.length)(hL:L.length<=256)(F:∀x∈L,x.length=32)(g cap:Nat)(w:Zy)(Y:dF w)(hl:zH w g 0 L):
  bE prog 235 #[.slice (bO ⟨g,0,bN⟩) L.length cap] w fun en w'=>∃g' cap',en= .returned (.slice (bO ⟨g',0,bN⟩) (above L).length cap')/\w'.ownsRow w.heap.size 9 1 (.slice (bO ⟨g',0,bN⟩) (above L).length cap') (above L).length (sv<|above L)/\bC w.heap.size w w':=by
 have HT:=zl Y;have bb:=Y.pos;have K:g<w.heap.size:=qz<|hl 0 X;have V:=zl hl;have C:=zl F;clear Y hl F;obtain⟨i9,Z,s,t,z⟩:=NY;go_enter func235.1,Tryz.ntmps235
 go_wp2_with (refine wpList_make_own _ rfl _ _ 49 rfl w.heap.size 9 i9 _ 1 underlying49 Z s t .i64 .i64 _ ((L.length+1)/2) rfl rfl ?l1 ?b1 ?b2 ?b3 ?_)
 case l1=>omega
 case b1=>rw[z];omega
 case b2=>unfold maxLen;omega
 case b3=>simp
 intro w1 a M;have H:=(zr _ _).grown M (ze _) (fun _ h=>by cases h);clear M
 go_wp2
 go_loopw [3,4] (fun v i wr=>∃(k g' cap':Nat),2*k<=L.length/\i=zi (2*(k:Int))/\v= .slice (bO ⟨g',0,bN⟩) k cap'/\wr.ownsRow w.heap.size 9 1 (.slice (bO ⟨g',0,bN⟩) k cap') k (sv<|above<|L.take<|2*k)/\bC w.heap.size w wr) (fun _ i _=>(L.length-aJ i).toNat)
 case atStart=>exact⟨0,_,_,by omega,by go_num,rfl,a,H⟩
 case round=>
  clear a H;obtain⟨k,g',cap',hk,rfl,rfl,a,m⟩:=hrel;obtain⟨r,bc,bd,_⟩:=Ls a;by_cases ba:2*k+1<L.length
  ·obtain⟨x,q⟩:∃x,L[2*k]=x:=⟨_,rfl⟩
   obtain⟨y,U⟩:∃y,L[2*k+1]=y:=⟨_,rfl⟩;have lx:=C.o x (by rw[<-q];exact Zn _);have ly:=C.o y (by rw[<-U];exact Zn _);have D:w.cell? (zq g<|2*k)=bO (zs x):=by have:=V.o (2*k) (by omega);rwa[jy,q]at this
   have T:w.cell? (zq g<|2*k+1)=bO (zs y):=by have:=V.o _ (by omega);rwa[jy,U]at this
   have cr:∀o,wr.cell? (zq g o)=w.cell? (zq g o):=fun o=>m.cell K;have i0:(0:Int)<=2*(k:Int):=by omega
   have i1:2*(k:Int)+1<(L.length:Nat):=by omega
   have i2:2*(k:Int)<(L.length:Nat):=by omega
   have i3:(0:Int)<=2*(k:Int)+1:=by omega
   have t0:(2*(k:Int)).toNat=2*k:=by omega
   have t1:(2*(k:Int)+1).toNat=2*k+1:=by omega
   have e1:IntKind.i64.wrap (2*(k:Int)+1)=2*(k:Int)+1:=by rw[xn];omega
   have B:Hid<|above (L.take<|2*(k+1))=above (L.take<|2*k)++[XH x y]:=by show _=_;rw[zy9 L k ba,q,U]
   have HO:=zl a;have W:=zl<|HT.o.below bb m.drew;have S:=m.size;clear a r q U
   go_wp2
   have S0:wr.cell? (zq g<|2*k)=bO (zs x)/\wr.cell? (zq g<|2*k+1)=bO (zs y):=⟨(cr _).trans D,(cr _).trans T⟩
   go_region_held3 (fun w'=>w'.cell? (zq g<|2*k)=bO (zs x)/\w'.cell? (zq g<|2*k+1)=bO (zs y)) (first|exact S0|exact S2|exact S3|exact S4)
    (first
     |(go_at_call 234;refine(yX _ ?_ _ W.o).mono ?_;(simp;omega);rintro en w2 ⟨rfl,I⟩;have f:=m.drew.trans<|I.mono S;have S2:=R9 f K D T;have n:=f.alloc f.size<|.cells #[.string<|st<|jF (1::(x++y))] 9;have S3:=R9 n K D T;have j:=(ZO HO.o.drew I).alloc<|.cells #[.string<|st<|jF (1::(x++y))] 9)
     |(refine step_append_lies _ (by rfl) _ _ 49 (by rfl) _ 9 i9 _ 1 16 underlying49 Z s t z (by rfl) (by decide) _ k _ (by rfl) j _ 1 1 _ (by rfl) (by rfl) (VV _ _) (XI _) (by decide) (by unfold maxLen;omega) (by omega) n.size (w2.heap.size+1) (by simp) ?_;intro E c w4 b d e O;have p:=n.grown d n.size<|Vs j;have S4:=R9 p K D T))
   have l:w4.ownsRow w.heap.size 9 1 (.slice (bO ⟨E,0,bN⟩) (k+1) c) (k+1)<|sv<|above<|L.take<|2*(k+1):=by rw[B.o,o9];exact b
   clear b j d e S0 S2 S3 S4
   go_wp2
   go_roundw
   case rel=>exact⟨k+1,E,c,by omega,by go_num,rfl,l,p⟩
   case measure=>simp[aJ];omega
  have i1:¬2*(k:Int)+1<(L.length:Nat):=by omega
  by_cases J:L.length=2*k
  ·have Q:((L.length:Int)%2==1)=bK:=by simp;omega
   have G:(above L).length=k:=by rw[JA];omega
   rw[qj<|by omega]at a;have B:=zl G;clear G J r
   go_wp2
   go_ret
   exact⟨g',cap',by rw[B.o];rfl,by rw[B.o];exact a,m⟩
  have R:L.length=2*k+1:=by omega
  have Q:((L.length:Int)%2==1)=bL:=by simp;omega
  obtain⟨x,q⟩:∃x,L[2*k]=x:=⟨_,rfl⟩;have D:wr.cell? (zq g<|L.length-1)=bO (zs x):=by
   have:=V.o (2*k) (by omega);rw[jy,q]at this;rw[show L.length-1=2*k by omega];exact(m.cell K).trans this
  have i2:(0:Int)<=(L.length:Int)-1:=by omega
  have i3:(L.length:Int)-1<(L.length:Nat):=by omega
  have i4:(1:Int)<=(L.length:Nat):=by omega
  have B:Hid<|above L=above (L.take<|2*k)++[x]:=by show _=_;rw[DQ L k R,q]
  have HN:Hid<|(above L).length=k+1:=by show _=_;rw[JA];omega
  clear R J q r
  go_wp2_with (refine wpList_append_lies _ rfl _ _ 49 rfl w.heap.size 9 i9 _ 1 16 underlying49 Z s t z rfl (by decide) (.slice _ k cap') k (sv<|above<|L.take<|2*k) rfl ?own _ 1 1 _ rfl rfl (VV _ _) (XI _) (by decide) ?m1 ?m2 ?m3 (wr.heap.size+1) ?m4 ?_)
  case own=>exact a.alloc _
  case m1=>unfold maxLen;omega
  case m2=>omega
  case m3=>have:=m.size;simp;omega
  intro E c w4 b d e O;have p:=(m.alloc m.size _).grown d (by have:=m.size;simp;omega)<|Vs a;have l:w4.ownsRow w.heap.size 9 1 (.slice (bO ⟨E,0,bN⟩) (k+1) c) (k+1)<|sv<|above L:=by rw[B.o,o9];exact b
  clear b d e a
  go_wp2
  go_ret
  exact⟨E,c,by rw[HN.o];rfl,by rw[HN.o];exact l,p⟩
def Gs:Zv->Nat
 | .slice _ n _=>n
 |_=>0
def RT{w:Zy}{b b' e size:Nat}{v:Zv}{n:Nat}{xs:Ze}(f:b<=b')(h:w.ownsRow b' e size v n xs):w.ownsRow b e size v n xs:=by
 refine⟨h.1, ?_⟩;rcases h.2 with d|⟨g,a,c,j,i,r⟩
 exact .inl d;exact .inr ⟨g,a,c,j,xz f i,r⟩
def Fm(a:Option Addr)(cap:Nat)(w:Zy)(b:dF w):bE prog 176 #[.slice a 0 cap] w fun en w'=>en= .returned (zs<|J7 [])/\bC w.heap.size w w':=by
 have c:=zl b;clear b;go_enter func176.1,Tryz.ntmps176
 go_wp2_with fail
 refine(yX [] (by decide) _ c.o).mono ?_;rintro en w1 ⟨rfl,d⟩
 go_wp2_with fail
 go_ret
 exact⟨rfl,d⟩
def Fl(L:List Zl)(p:0<L.length)(hL:L.length<=256)(hp:∀x∈L,x.length<=4095)(g off cap:Nat)(w:Zy)(W:dF w)(Y:zH w g off L):
  bE prog 176 #[.slice (bO ⟨g,off,bN⟩) L.length cap] w fun en w'=>en= .returned (zs<|J7 L)/\bC w.heap.size w w':=by
 have Z:=zl W;have I:=W.pos;have hg:g<w.heap.size:=qz<|Y 0 p;have HL:=zl Y;have HP:=zl hp;clear W Y hp;obtain⟨i9,hi,J,K,M⟩:=NY;have be:((L.length:Int)==0)=bK:=by simp;intro h;simp[h]at p
 go_enter func176.1,Tryz.ntmps176
 go_wp2_with (refine wpList_make_own _ rfl _ _ 49 rfl w.heap.size 9 i9 _ 1 underlying49 hi J K .i64 .i64 _ L.length rfl rfl ?l1 ?b1 ?b2 ?b3 ?_)
 case l1=>rfl
 case b1=>rw[M];omega
 case b2=>unfold maxLen;omega
 case b3=>simp
 intro w1 a H;have G:=(zr _ _).grown H (ze _) (fun _ h=>by cases h);clear H
 go_wp2
 go_loopw [3,15] (fun v i wr=>∃(k r b:Nat),k<=L.length/\i=zi k/\v= .slice (bO ⟨r,0,bN⟩) k b/\wr.ownsRow w.heap.size 9 1 (.slice (bO ⟨r,0,bN⟩) k b) k (sv<|(L.map qL).take k)/\bC w.heap.size w wr) (fun _ i _=>(L.length-aJ i).toNat)
 case atStart=>exact⟨0,_,_,by omega,rfl,rfl,a,G⟩
 case round=>
  clear a G;obtain⟨k,r,b,hk,rfl,rfl,a,o⟩:=hrel;by_cases B:k<L.length
  ·obtain⟨x,y⟩:∃x,L[k]=x:=⟨_,rfl⟩
   have lx:=HP.o x (by rw[<-y];exact Zn _);have c0:wr.cell? (zq g<|off+k)=bO (zs x):=by have:=HL.o k B;rw[y]at this;exact(o.cell hg).trans this
   have i1:(k:Int)<(L.length:Nat):=by omega
   have HA:Hid<|(L.map qL).take (k+1)=(L.map qL).take k++[qL x]:=by show _=_;rw[xy<|by simpa using B,List.getElem_map,y]
   have HO:=zl a;have z:=zl<|Z.o.below I o;clear a y
   go_wp2_with fail
   refine(yX _ (by simp;omega) _ z.o).mono ?_;rintro en w2 ⟨rfl,m⟩;have c:=o.trans<|m.mono o.size;have d:=ZO HO.o m;clear m
   go_wp2_with (refine wpList_append_lies _ rfl _ _ 49 rfl w.heap.size 9 i9 _ 1 16 underlying49 hi J K M rfl (by decide) (.slice _ k b) k (sv<|(L.map qL).take k) rfl ?own _ 1 1 _ rfl rfl (VV _ _) (XI _) (by decide) ?m1 ?m2 ?m3 (w2.heap.size+1) ?m4 ?_)
   case own=>exact d.alloc _
   case m1=>unfold maxLen;omega
   case m2=>omega
   case m3=>have:=c.size;simp;omega
   case m4=>simp
   intro C f w4 q t F ba;have X:=(c.alloc c.size _).grown t (by have:=c.size;simp;omega)<|Vs d;have Q:w4.ownsRow w.heap.size 9 1 (.slice (bO ⟨C,0,bN⟩) (k+1) f) (k+1)<|sv<|(L.map qL).take<|k+1:=by rw[HA.o,o9];exact q
   clear q t F d c
   go_wp2
   go_roundw
   case rel=>exact⟨k+1,C,f,by omega,by go_num,rfl,Q,X⟩
   case measure=>simp[aJ];omega
  obtain rfl:k=L.length:=by omega
  rw[qj<|by simp]at a;have i1:¬((L.length:Nat):Int)<(L.length:Nat):=by omega
  obtain⟨R,D⟩:∃R,L.map qL=R:=⟨_,rfl⟩;have V:R.length=L.length:=by rw[<-D];simp
  have T:Hid<|∀x∈R,x.length=32:=by rw[<-D];exact xm4 L
  rw[D]at a;have HR:=zl D;clear D V
  go_wp2
  go_loopw [3] (fun v w2=>∃(j n r b:Nat),0<n/\n<=256/\v= .slice (bO ⟨r,0,bN⟩) n b/\w2.ownsRow w.heap.size 9 1 (.slice (bO ⟨r,0,bN⟩) n b) n (sv<|up j R)/\bC w.heap.size w w2) (fun v _=>Gs v)
  case atStart=>exact⟨0,_,_,_,p,hL,rfl,a,o⟩
  case round=>
   clear a o;obtain⟨j,n,r,b,bd,hn,rfl,a,o⟩:=hrel;obtain⟨s,bb,bc,e⟩:=Ls a;by_cases B:1<n
   ·have i2:(1:Int)<(n:Nat):=by omega
    have S:=zl s;have U:=zl e;have z:=zl<|Z.o.below I o;clear a s e
    go_wp2_with fail
    have l:=zu4 _ (by have:=S.o;omega) (by have:=S.o;omega) (eA j R T.o) r b wr z.o U.o;rw[<-S.o]at l;refine l.mono ?_;rintro en w2 ⟨C,f,rfl,d,m⟩;have E:(above<|up j R).length=(n+1)/2:=by rw[JA,<-S.o]
    have c:=o.trans<|m.mono o.size;rw[E]at d⊢;have O:w2.ownsRow w.heap.size 9 1 (.slice (bO ⟨C,0,bN⟩) ((n+1)/2) f) ((n+1)/2)<|sv<|up (j+1) R:=by
     rw[Dm];exact RT o.size d
    clear l d m E
    go_wp2_with fail
    go_roundw
    case rel=>exact⟨j+1,(n+1)/2,C,f,by omega,by omega,rfl,O,c⟩
    case measure=>simp[Gs];omega
   obtain rfl:n=1:=by omega
   obtain⟨x,y⟩:=List.length_eq_one_iff.1 s.symm;have c0:wr.cell? (zq r 0)=bO (zs x):=by
    have:=e 0 (by omega);rw[jy]at this;rw[this];simp[y]
   have HX:=zl (LO (by rw[HR.o];exact y) hL<|by intro h;rw[h]at p;simp at p);clear a s e y
   go_wp2_with fail
   go_ret
   exact⟨by rw[HX.o];rfl,o⟩
end P
namespace P
open A.Tryq Go.RowKit
attribute [local go_sem] xe zv
def Tq(a:Option Addr)(cap:Nat)(w:Zy)(b:dF w):bE prog 117 #[.slice a 0 cap] w fun en w'=>en= .returned (.tuple #[zs<|J7 [],zi 0])/\bC w.heap.size w w':=by
 have c:Hid<|dF w:=b;clear b;go_enter func117.1,Tryz.ntmps117
 go_wp2
 go_loopw [11] (fun i wr=>i=zi 0/\wr=w) (fun _ _=>0)
 case atStart=>exact⟨rfl,rfl⟩
 case round=>
  obtain⟨rfl,rfl⟩:=hrel
  go_wp2_with fail
  refine(Fm a cap _ c.o).mono ?_;rintro en w1 ⟨rfl,d⟩
  go_wp2_with fail
  go_ret2
  exact⟨rfl,d⟩
def Se(L:List Zl)(a:0<L.length)(m:L.length<=256)(j:∀x∈L,x.length<=4095)(g off cap:Nat)(w:Zy)(f:dF w)(h:zH w g off L):
  bE prog 117 #[.slice (bO ⟨g,off,bN⟩) L.length cap] w fun en w'=>en= .returned (.tuple #[zs<|J7 L,zi 0])/\bC w.heap.size w w':=by
 have l:Hid<|dF w:=f;have d:Hid<|zH w g off L:=h;have e:Hid<|∀x∈L,x.length<=4095:=j;clear f h j;have r:¬(256:Int)<(L.length:Nat):=by omega
 have p:decide ((256:Int)<(L.length:Nat))=bK:=by simp;omega
 go_enter func117.1,Tryz.ntmps117
 go_wp2
 go_loopw [11] (fun i wr=>∃k:Nat,k<=L.length/\i=zi k/\wr=w) (fun i _=>(L.length-aJ i).toNat)
 case atStart=>exact⟨0,by omega,rfl,rfl⟩
 case round=>
  obtain⟨k,hk,rfl,rfl⟩:=hrel;by_cases b:k<L.length
  ·obtain⟨x,c⟩:∃x,L[k]=x:=⟨_,rfl⟩
   have t:x.length<=4095:=e.o x (by rw[<-c];exact Zn _);have q:wr.cell? (zq g<|off+k)=bO (zs x):=by have:=d.o k b;rw[c]at this;exact this
   have o:(k:Int)<(L.length:Nat):=by omega
   have s:¬(4095:Int)<(x.length:Nat):=by omega
   clear c
   go_wp2_with fail
   go_roundw
   case rel=>exact⟨k+1,by omega,by go_num,trivial⟩
   case measure=>simp[aJ];omega
  obtain rfl:k=L.length:=by omega
  have o:¬((L.length:Nat):Int)<(L.length:Nat):=by omega
  go_wp2_with fail
  refine(Fl L a m e.o g off cap _ l.o d.o).mono ?_;rintro en w1 ⟨rfl,n⟩
  go_wp2_with fail
  go_ret2
  exact⟨rfl,n⟩
def xI:Nat->Zl->List Zl
 |0,_=>[]
 |n+1,l=>if l=[]then []else l.take 64::xI n (l.drop 64)
def Yq(l:Zl):List Zl:=xI l.length l
def Qh:∀(n m:Nat) (l:Zl),l.length<=n->l.length<=m->xI n l=xI m l
 |0,0,_,_,_=>rfl
 |0,m+1,l,h,_=>by
  have:l=[]:=xa (by omega);simp[xI,this]
 |n+1,0,l,_,h=>by
  have:l=[]:=xa (by omega);simp[xI,this]
 |n+1,m+1,l,h1,h2=>by
  by_cases a:l=[];simp[xI,a];have:0<l.length:=by cases l;exact absurd rfl a;simp
  simp only[xI,a,if_false];rw[Qh n m (l.drop 64) (by simp;omega)<|by simp;omega]
def RD:Yq []=[]:=rfl
def DY{l:Zl}(h:l≠[]):Yq l=l.take 64::Yq (l.drop 64):=by
 obtain⟨a,b,rfl⟩:∃a b,l=a::b:=by cases l;exact absurd rfl h;exact⟨_,_,rfl⟩
 unfold Yq;rw[show(a::b).length=b.length+1 from rfl];simp only[xI,h,if_false]
 congr 1
 exact Qh _ _ _ (by simp)<|by simp
def iU(x:Zl):Zv:= .string (st x)
def B_(x:Zl)(hx:x.length<=1000000)(w:Zy):bE prog 115 #[zs x] w fun e w'=>∃v,e= .returned v/\w'.ownsRow w.heap.size 9 1 v (Yq x).length ((Yq x).map iU)/\Nw w w':=by
 obtain⟨X,T,q,y,B⟩:=NY;go_enter func115.1,Tryz.ntmps115
 go_wp2_with fail
 go_loopw [0,3] (fun t v wr=>∃(D:List Zl) (r:Zl),t=zs r/\Yq x=D++Yq r/\D.length+r.length<=x.length/\wr.ownsRow w.heap.size 9 1 v D.length (D.map iU)/\Nw w wr) (fun t _ _=>match t with| .string s=>s.size|_=>0)
 case atStart=>exact⟨[],x,rfl,rfl,by simp,Vl _ _ _ _,xb.refl _ _⟩
 case round=>
  obtain⟨D,r,rfl,c,F,a,m⟩:=hrel;have C:=zl c;obtain⟨Q,i,rfl,E⟩:=Jh a;have p:=zl a;have o:=zl m;clear c a m;by_cases n:r=[]
  ·subst n
   have U:=xo [];have J:Hid<|Yq x=D:=by show _=_;rw[C.o,RD,Xq]
   go_wp2_with fail
   go_ret
   rw[J.o];exact⟨_,rfl,p.o,o.o⟩
  have U:¬(st r).toList=[]:=by rw[xo];exact n
  have V:(st r).toList.isEmpty=bK:=by rw[xo];cases r;exact absurd rfl n;rfl
  have W:0<r.length:=by cases r;exact absurd rfl n;simp
  have K:Hid<|Yq x=(D++[r.take 64])++Yq (r.drop 64):=by show _=_;rw[C.o,DY n];simp
  have G:min (64:Int) (r.length:Nat)=((min 64 r.length:Nat):Int):=by omega
  have L:Hid<|Value.string ((st r).extract 0<|min 64 r.length)=iU (r.take 64):=by
   show _=_;rw[yN];unfold iU
   congr 2
   rcases Nat.le_total 64 r.length with h|h;rw[Vg h];rw[Nat.min_eq_right h,qj<|ze _,qj h]
  have M:Hid<|(st r).extract (min 64 r.length) r.length=st (r.drop 64):=by
   show _=_;rw[J_]
   congr 1
   rcases Nat.le_total 64 r.length with h|h;rw[Vg h];rw[Nat.min_eq_right h,XV<|ze _,XV h]
  have hm1:((min 64 r.length:Nat):Int)<=(r.length:Nat):=by omega
  go_wp2_with (refine wpList_append_lies _ rfl _ _ 49 rfl w.heap.size 9 X _ 1 16 underlying49 T q y B rfl (by decide) (.slice Q _ i) D.length (D.map iU) rfl ?own _ 1 1 [.string<|(st r).extract 0<|min 64 r.length] rfl rfl ?nw ?o1 (by decide) ?m1 ?m2 ?m3 (wr.heap.size+1) ?m4 ?_)
  case own=>exact p.o.alloc _
  case m1=>unfold maxLen;omega
  case m2=>omega
  case m3=>have:=o.o.size;simp;omega
  case m4=>simp
  case o1=>intro z f;simp at f;rw[f];rfl
  case nw=>intro j z f;cases j with
   |zero=>simp at f;subst f;simp[go_sem,Addr.add]
   |succ j=>simp at f
  intro S g H b d k l;have I:Hid<|Nw w H:=by
   have R:=(zr _<|wr.alloc<|.cells _ 9).grown d (by have:=o.o.size;simp;omega)<|Vs p.o;exact(o.o.trans<|xb.alloc _).dH R
  have O:Hid<|H.ownsRow w.heap.size 9 1 (.slice (bO ⟨S,0,bN⟩) (D.length+1) g) (D++[r.take 64]).length<|(D++[r.take 64]).map iU:=by
   show World.ownsRow _ _ _ _ _ _ _;rw[Jd,zj];simp only[xq,DN,<-L.o];exact b
  clear b d k l
  go_wp2_with fail
  rw[M.o];refine⟨⟨D++[r.take 64],r.drop 64,rfl,K.o,by simp only[zj,zh,jn,jb];omega,O.o,I.o⟩, ?_⟩;simp only[xe,jb];omega
def OP(w:Zy)(g:Nat)(xs:List Zl):Prop:=∀i (h:i<xs.length),w.cell? (zq g i)=bO (iU xs[i])
def OP.but{S:ZP}{w w':Zy}{g:Nat}{xs:List Zl}(h:OP w g xs)(a:xb S w w')(c:¬S g):OP w' g xs:=fun i b=>a.cell c<|h i b
def U_(w:Zy)(v:Zv)(xs:List Zl):Prop:=∃p g cap,v= .slice p xs.length cap/\(xs≠[]->p=bO ⟨g,0,bN⟩)/\OP w g xs
def Ul{w:Zy}{base:Nat}{v:Zv}{xs:List Zl}(h:w.ownsRow base 9 1 v xs.length<|xs.map iU):U_ w v xs:=by
 rcases h.2 with⟨b,e⟩|⟨g,d,a,k,m,f,n,l,o,j⟩;have:=xa e;subst this;exact⟨bN,0,0,b,fun x=>absurd rfl x,fun i c=>absurd c<|by simp⟩;refine⟨_,g,d,k,fun _=>rfl,fun i c=>?_⟩;have:a.toList[i]?=bO (iU xs[i]):=by
  have b:(a.toList.take<|xs.length*1)[i]?=bO (iU xs[i]):=by
   rw[j];simp[c]
  rw[Jf]at b;simpa[c]using b
 simp only[World.cell?,f];simpa using this
def J8(m:Mf)(ck:Zl)(xs:List Zl):List Zl:=xs.mapIdx fun i x=>iK ck (m.fH i) x
def zZ(m:Mf)(a:Zl)(xs:List Zl):(J8 m a xs).length=xs.length:=by simp[J8]
def yW(m:Mf)(a:Zl)(xs:List Zl)(k:Nat)(h:k<xs.length):(J8 m a xs).take (k+1)=(J8 m a xs).take k++[iK a (m.fH k) xs[k]]:=by
 have hk:k<(J8 m a xs).length:=by rw[zZ];exact h
 rw[xy hk];simp[J8]
def PQ(m:Mf)(i:Nat):(m.fH i).length=8:=by simp[Mf.fH,qt]
def xx.trans'{B:Nat}{w w':Zy}{r:Nat}{cs:Za}{t:Zt}(h:xx w r cs t)(a:bC B w w')(b:r<B):xx w' r cs t:=(a.block r b).trans h
def Pb(m:Mf)(xs:List Zl)(v:Zv)(b C:Zl)(Q:b.length=16)(hx:∀x∈xs,x.length<=4096)(hl:xs.length<=1000)(w:Zy)(hv:U_ w v xs):
  bE prog 114 #[m.V,v,.agg #[.string<|st b,.string<|st C]] w fun e w'=>∃v,e= .returned v/\w'.ownsRow w.heap.size 9 1 v xs.length ((J8 m b xs).map iU)/\Nw w w':=by
 obtain⟨i9,hi,U,X,Y⟩:=NY;obtain⟨p,g,bl,rfl,hp,H⟩:=hv;have HP:=zl hp;have HR:=zl H;have HX:=zl hx;have bc:=zl Q;clear hp H hx Q;obtain⟨wm,S,n,a⟩:=run_make_own (P:=prog) ((w.alloc<|.cells m.cells 185).alloc<|.cells #[.string<|st b,.string<|st C] 120) w.heap.size 49 9 i9 _ 1 underlying49 hi U X .i64 .i64 xs.length (by rw[Y];omega) (by unfold maxLen;omega) (by simp;omega);have BM:Hid<|xx wm w.heap.size m.cells 185:=by
  have s:=(xx.new w m.cells 185).alloc<|.cells #[.string<|st b,.string<|st C] 120;exact(a.block _ s.lt<|by simp).trans s
 have BK:Hid<|xx wm (w.heap.size+1) #[.string<|st b,.string<|st C] 120:=by
  have s:=xx.new (w.alloc<|.cells m.cells 185) #[.string<|st b,.string<|st C] 120;simp only[xh]at s;exact(a.block _ s.lt<|by simp).trans s
 have NM:Hid<|Nw w wm:=((xb.alloc _).trans<|xb.alloc _).trans ⟨a.os,a.output,a.size,fun k hk _=>a.block k hk<|by simp⟩;have bd:Hid<|wm.ownsRow (w.heap.size+2) 9 1 (.slice (bO ⟨w.heap.size+1+1,0,bN⟩) 0 xs.length) 0 []:=by
  refine⟨rfl,.inr ?_⟩;rcases n.2 with⟨s,_⟩|⟨g',bi,bf,hv,hg,r⟩
  cases s;simp only[xh]at hv;cases hv;exact⟨_,_,bf,rfl,by simp,r⟩
 simp only[xh]at S;unfold Mf.V;unfold Mf.cells at S;clear n a;go_enter func114.1,Tryz.ntmps114;unfold Mf.cells
 go_wp2_with fail
 go_loopw [7,15] (fun v i wr=>∃k:Nat,k<=xs.length/\i= .int .i64 k/\wr.ownsRow (w.heap.size+2) 9 1 v k (((J8 m b xs).take k).map iU)/\Nw w wr/\xx wr w.heap.size m.cells 185/\xx wr (w.heap.size+1) #[.string<|st b,.string<|st C] 120) (fun _ i _=>(xs.length-aJ i).toNat)
 case atStart=>exact⟨0,by omega,rfl,by simpa using bd.o,NM.o,BM.o,BK.o⟩
 case round=>
  obtain⟨k,hk,rfl,l,T,O,M⟩:=hrel;obtain⟨a4,F,rfl,bj⟩:=Jh l;have HO:=zl l;have HN:=zl T;have I:=zl O;have t:=zl M;clear l T O M;by_cases f:k<xs.length
  ·have i1:(k:Int)<(xs.length:Nat):=by omega
   have i0:(0:Int)<=(k:Int):=by omega
   have bh:=HP.o (fun e=>by rw[e]at f;simp at f);subst bh;have hc:=(HR.o.but HN.o id) k f;unfold iU at hc;have HT:=zl<|yW m b xs k f;have be:=zl<|HX.o _<|Zn f;generalize xs[k]=x at*;have c:Hid<|∀w1,xb (fun y=>w.heap.size+2<=y) wr w1->MC w.heap.size m m.root w1/\w1.cell? ⟨w.heap.size+1,0,bN⟩=bO (.string<|st b)/\w1.cell? ⟨w.heap.size+1,1,bN⟩=bO (.string<|st C):=fun w1 h=>by
    have s:=I.o.but h (by omega);have h2:=t.o.but h (by omega);exact⟨s.mc,h2.cell 0 rfl,h2.cell 1 rfl⟩
   have S0:=c.o wr<|xb.refl _ _;have E:Hid<|Nw wr wr.drew:=(xb.refl _ _).drew;have bk:w.heap.size+2<=wr.heap.size:=t.o.lt;have d:∀W:Zy,(W.alloc<|.cells #[.string<|st<|iK b (m.fH k) x] 9).cell? ⟨W.heap.size,0,bN⟩=bO (.string<|st<|iK b (m.fH k) x):=fun W=>(xx.new W _ 9).cell 0 rfl
   go_wp2_with fail
   go_region_held3 (fun w'=>MC w.heap.size m m.root w'/\w'.cell? ⟨w.heap.size+1,0,bN⟩=bO (.string<|st b)/\w'.cell? ⟨w.heap.size+1,1,bN⟩=bO (.string<|st C)) (first|exact S0|exact S1|exact SA)
    (first
     |(go_at_call 175;refine(I2 m k _).mono ?_;rintro e w3 ⟨rfl,hb⟩;have N3:Hid<|Nw wr w3:=E.o.trans<|xb.of_below hb;have S1:=c.o _<|N3.o.mono fun _ x=>x.elim)
     |(go_at_call 156;refine(ZI b C _ x bc.o (PQ m k) be.o _).mono ?_;rintro e Z ⟨rfl,hb⟩;have B:Hid<|Nw wr Z:=N3.o.trans<|xb.of_below hb;have S1:=c.o _<|B.o.mono fun _ x=>x.elim;have O4:=zl<|yU HO.o B.o fun _ _ x=>x;have bm:=B.o.size;have SA:=c.o (Z.alloc<|.cells #[.string<|st<|iK b (m.fH k) x] 9)<|(B.o.trans<|xb.alloc _).mono fun _ x=>x.elim)
     |(refine step_append_lies _ rfl _ _ 49 rfl _ 9 i9 _ 1 16 underlying49 hi U X Y rfl (by decide) (.slice a4 k F) k _ rfl (O4.o.alloc _) _ 1 1 [.string _] rfl rfl (by intro j z J;cases j with|zero=>simp at J;subst J;exact d Z|succ j=>simp at J) (by intro z J;simp at J;rw[J];rfl) (by decide) (by unfold maxLen;omega) (by omega) (by simp;omega) (Z.heap.size+1) (by simp) ?_;intro g2 K w5 o G L R;have D:=zl<|(zr _<|Z.alloc<|.cells _ 9).grown G (by simp;omega)<|Vs O4.o;have S1:=c.o _<|((B.o.trans<|xb.alloc _).mono fun _ x=>x.elim).trans ⟨D.o.os,D.o.output,D.o.size,fun q hq hs=>D.o.block q<|by omega⟩))
   have W5:Hid<|Nw w w5:=((HN.o.trans B.o).trans<|xb.alloc _).dH (D.o.mono<|by omega);have bb:=zl (((I.o.but B.o id).alloc _).trans' D.o<|by omega);have ba:=zl (((t.o.but B.o id).alloc _).trans' D.o<|by omega);have O5:Hid<|w5.ownsRow (w.heap.size+2) 9 1 (.slice (bO ⟨g2,0,bN⟩) (k+1) K) (k+1)<|((J8 m b xs).take<|k+1).map iU:=by
    show World.ownsRow _ _ _ _ _ _ _;rw[HT.o,Jd];exact o
   clear S0 S1 SA c E N3 B O4 o G L R D I t HO HN d
   try clear hHeld
   go_wp2_with fail
   go_roundw
   case rel=>exact⟨k+1,by omega,by go_num,O5.o,W5.o,bb.o,ba.o⟩
   case measure=>simp[aJ];omega
  have bg:k=xs.length:=by omega
  subst bg;have HF:Hid<|wr.ownsRow w.heap.size 9 1 (.slice a4 xs.length F) xs.length<|(J8 m b xs).map iU:=by
   have:=EG (base':=w.heap.size) HO.o (by omega);rw[qj<|by rw[zZ];exact ze _]at this;exact this
  go_wp2_with fail
  go_ret
  exact⟨_,rfl,HF.o,HN.o⟩
def zV:Nat->Zl->Zl->KV->Option KV
 |_,[],_,L=>bO L
 |0,_::_,_,_=>bN
 |n+1,a::l,ab,L=>match jS (a::l)with
  |some ((k,v),r)=>if ab<k then zV n r k (dA L k v)else bN
  |none=>bN
def rH(l:Zl):Option KV:=zV l.length l [] []
def dC:∀(n m:Nat) (l ab:Zl) (L:KV),l.length<=n->l.length<=m->zV n l ab L=zV m l ab L
 |0,0,_,_,_,_,_=>rfl
 |0,m+1,l,ab,L,h,_=>by
  have:l=[]:=xa (by omega);subst this;rfl
 |n+1,0,l,ab,L,_,h=>by
  have:l=[]:=xa (by omega);subst this;rfl
 |n+1,m+1,[],ab,L,_,_=>rfl
 |n+1,m+1,a::l,ab,L,h1,h2=>by
  simp only[zV];cases hp:jS (a::l)with
  |none=>rfl
  |some q=>
   obtain⟨⟨k,v⟩,r⟩:=q;have:=RH hp;simp only[zh]at h1 h2 this;simp only;rw[dC n m r k _ (by omega)<|by omega]
def xM(r ab:Zl)(L:KV):Option KV:=zV r.length r ab L
def cY(a:Zl)(L:KV):xM [] a L=bO L:=rfl
def Qy{r:Zl}(d:r≠[])(c:Zl)(L:KV):xM r c L=match jS r with
  |some ((k,v),b)=>if c<k then xM b k (dA L k v)else bN
  |none=>bN:=by
 obtain⟨a,l,rfl⟩:∃a l,r=a::l:=by cases r;exact absurd rfl d;exact⟨_,_,rfl⟩
 unfold xM;rw[show(a::l).length=l.length+1 from rfl];simp only[zV];cases hp:jS (a::l)with
 |none=>rfl
 |some q=>
  obtain⟨⟨k,v⟩,b⟩:=q;have:=RH hp;simp only[zh]at this;simp only;rw[dC l.length b.length b k _ (by omega)<|ze _]
def xmy(k a:Zl):(!Op.bytesLess (st k).toList (st a).toList&& !(st k).toList==(st a).toList)=decide (a<k):=by
 rw[xo,xo,bytesLess_eq];by_cases h:a<k;have c:¬k<a:=fun x=>W9 _<|List.lt_trans h x;have b:k≠a:=fun e=>by subst e;exact W9 _ h
 simp[h,c,b];by_cases b:k=a;subst b;simp[h];have c:k<a:=by
  have d:=List.not_lt.1 h;exact Std.lt_of_le_of_ne d b
 simp[h,c]
def F6(tv:Zv)(l:Zl)(w:Zy)(e:Ending)(w':Zy):Prop:=
 Nw w w'/\(match rH l with|some L=>∃m,e= .returned (.map<|bO m)/\w.heap.size<=m/\Xd w' m L|none=>e=eF tv)
def Ky{tv:Zv}{l:Zl}{w w':Zy}(h:rH l=bN)(a:Nw w w'):F6 tv l w (eF tv) w':=by
 unfold F6;rw[h];exact⟨a,rfl⟩
def xF{tv:Zv}(l:Zl)(w:Zy)(bf:1<w.heap.size)(T:Wh tv w):bE prog 212 #[.string<|st l] w<|F6 tv l w:=by
 have M:=zl T;have F:=run_makeMap (P:=prog) 91<|w.alloc<|.cells #[.string<|st l] 234;have V:=zl<|(xx.new w #[.string<|st l] 234).alloc<|.map #[] 0;have M0:Hid<|Xd ((w.alloc<|.cells #[.string<|st l] 234).alloc<|.map #[] 0) (w.heap.size+1) []:=by
  refine⟨#[],0, ?_,rfl,MapKept.stamped_empty 0⟩;have:=jw (w.alloc<|.cells #[.string<|st l] 234)<|.map #[] 0;simp only[xh]at this;exact this
 have N0:Hid<|Nw w<|(w.alloc<|.cells #[.string<|st l] 234).alloc<|.map #[] 0:=(xb.alloc _).trans<|xb.alloc _;simp only[xh]at F;clear T;go_enter func212.1,Tryz.ntmps212
 go_wp2_with fail
 generalize(w.alloc<|.cells #[.string<|st l] 234).alloc (.map #[] 0)=w0 at*
 go_loopw [5] (fun a wr=>∃(r j:Zl) (L:KV),a= .string (st j)/\rH l=xM r j L/\xx wr w.heap.size #[.string<|st r] 234/\Xd wr (w.heap.size+1) L/\Nw w wr) (fun _ wr=>leftOf w.heap.size wr)
 case atStart=>exact⟨l,[],[],rfl,rfl,V.o,M0.o,N0.o⟩
 case round=>
  obtain⟨r,j,L,rfl,x,b,p,i⟩:=hrel;have g:=zl x;have K:=zl b;have C:=zl p;have z:=zl i;have c0:wr.cell? ⟨w.heap.size,0,bN⟩=bO (.string<|st r):=b.cell 0 rfl;have HZ:=zl<|DV b;have Y:=zl<|M.o.but i id;clear x b p i;by_cases B:r=[]
  ·subst B
   have hn:=xo [];have HE:Hid<|rH l=bO L:=by show _=_;rw[g.o,cY]
   go_wp2_with fail
   go_ret
   refine⟨z.o, ?_⟩;rw[HE.o];exact⟨_,rfl,by omega,C.o⟩
  have hn:¬(st r).toList=[]:=by rw[xo];exact B
  have bc:(st r).toList.isEmpty=bK:=by rw[xo];cases r;exact absurd rfl B;rfl
  have D:Hid (rH l=match jS r with
    |some ((k,v),y)=>if j<k then xM y k (dA L k v)else bN
    |none=>bN):=by show _=_;rw[g.o,Qy B]
  clear g
  go_wp2_with fail
  refine(Ry r (by omega) K.o Y.o).mono ?_;intro e m s;unfold AJ at s;cases hq:jS r with
  |none=>
   rw[hq]at s;obtain⟨d,rfl⟩:=s;exact⟨rfl,Ky (by rw[D.o,hq])<|z.o.fresh (ze _) d⟩
  |some q=>
   obtain⟨⟨k,v⟩,y⟩:=q;rw[hq]at s;obtain⟨d,rfl,o⟩:=s;have n:Hid<|rH l=if j<k then xM y k (dA L k v)else bN:=by show _=_;rw[D.o,hq]
   have E:=RH hq;have Q:Hid<|Nw w m:=z.o.fresh (ze _) d;have W:=zl o;have O:=zl (C.o.but d<|by omega);have be:=O.o.lt;clear d o hq D K C z c0
   go_wp2_with fail
   rw[xmy];have Z:=zl<|M.o.but (Q.o.trans<|xb.alloc<|.cells #[.string<|st k,.string<|st v] 86) id;have X:=zl<|W.o.alloc<|.cells #[.string<|st k,.string<|st v] 86;have J:Hid<|xx (m.alloc<|.cells #[.string<|st k,.string<|st v] 86) m.heap.size #[.string<|st k,.string<|st v] 86:=xx.new _ _ _;have MA:=zl<|O.o.but (S:=fun _=>False) (xb.alloc<|.cells #[.string<|st k,.string<|st v] 86) id;have R:Hid<|Nw w<|m.alloc<|.cells #[.string<|st k,.string<|st v] 86:=Q.o.trans<|xb.alloc _;have bd:m.heap.size≠w.heap.size+1:=by omega
   generalize m.alloc (.cells #[.string<|st k,.string<|st v] 86)=wA at*;by_cases c:j<k
   ·refine(Yb _ (by simpa using c) _).mono ?_
    rintro e w3 ⟨rfl,H⟩;obtain rfl:=H.symm;have ba:=J.o.cell 0 rfl;have bb:=J.o.cell 1 rfl;obtain⟨U,f,h,t⟩:=Bf (P:=prog) yO underlying9 MA.o k v;have G:(Instr.mapUpdate 91 (.map<|bO<|w.heap.size+1) (.string<|st k)<|.agg #[.string<|st v]).run prog wA= .ok () U:=f;have HF:Hid<|rH l=xM y k (dA L k v):=by show _=_;rw[n.o,aA c]
    have I:=zl (X.o.but h<|by omega);have M4:=zl t;have N4:Hid<|Nw w U:=R.o.fresh (by omega) h;have Z4:=zl<|DV I.o;clear f h t
    go_wp2_with fail
    go_roundw
    case rel=>exact⟨y,k,dA L k v,rfl,HF.o,I.o,M4.o,N4.o⟩
    case measure=>rw[HZ.o,Z4.o];exact E
   refine(Xu _ (by simpa using c) _ Z.o).mono ?_;rintro e w3 ⟨rfl,rfl⟩;exact⟨rfl,Ky (by rw[n.o,aB c]) R.o⟩
def Sr.roomFor(r:Sr)(n:Nat):Nat:=if qu r.d.L 0=[]then n+116 else n
def tW(B:Nat)(r:Sr)(x:Zl)(hx:x.length<=1000000)(w:Zy)(h:Jq w B r):bE prog 112 #[zo B,zs x] w fun e w'=>e= .returned (zi<|r.roomFor x.length)/\w'=w:=by
 have j:=zl h;have m:w.cell? (zq B 2)=bO (zo r.D):=h.blk.cell 2 rfl;clear h;go_enter func112.1,Tryz.ntmps112
 go_wp2_with fail
 refine(AV r.D r.d 0 _ j.o.disk).mono ?_;rintro e w1 ⟨rfl,g⟩;obtain rfl:=g.symm;obtain⟨c,b⟩:∃c,qu r.d.L 0=c:=⟨_,rfl⟩;have i:Hid<|r.roomFor x.length=if c=[]then x.length+116 else x.length:=by show _=_;unfold Sr.roomFor;rw[b]
 rw[b];clear b;cases c with
 |nil=>
  have k:=xo []
  go_wp2_with fail
  go_ret
  exact⟨by rw[i.o];simp,rfl⟩
 |cons a f=>
  have k:¬(st (a::f)).toList=[]:=by rw[xo];simp
  have l:(st (a::f)).toList.isEmpty=bK:=by rw[xo];rfl
  go_wp2_with fail
  go_ret
  exact⟨by rw[i.o];rfl,rfl⟩
def lK(m:Mf):List Int->Dk->Bool×Dk
 |[],d=>(bL,d)
 |n::ns,d=>if n=0\/n=(m.file:Int)then lK m ns d else if d.stops=bL then(bK,d.lost)else lK m ns (d.rem n)
def qB(m:Mf)(sl:Zl)(d:Dk):Bool×Dk:=if d.stops=bL then(bK,d.lost)else lK m (Xs (d.mG 0 sl).L) (d.mG 0 sl)
def Sr.lays(r:Sr)(m:Mf)(pt sl:Zl):Bool×Dk:=
 if pt=[]then qB m sl r.d
 else if r.d.stops=bL then(bK,r.d.lost)
 else if(r.d.app m.file pt).stops=bL then(bK,(r.d.app m.file pt).lost)
 else qB m sl ((r.d.app m.file pt).mR m.file)
def UE(cv:Zv)(B:Nat)(r:Sr)(x:Bool×Dk)(w:Zy)(e:Ending)(w':Zy):Prop:=
 e=(if x.1=bL then .returned (.tuple #[])else eF cv)/\jt B r w {r with d:=x.2} w'
def sB{cv tv:Zv}(B:Nat)(r:Sr)(m:Mf)(c sl:Zl)(w:Zy)(h:Jq w B r)(G:fV B r)(hG:iA cv tv w)(cp:r.d.L.length+2<1000000)(cu:sl.length<=1000000)(ct:(qu r.d.L m.file).length+c.length<=1000000)(cs:m.file<=1000000):
  bE prog 118 #[zo B,m.V,zs c,zs sl] w (UE cv B r (r.lays m c sl) w):=by
 have HD:Hid<|Xg w r.D r.d:=h.disk;have HB:Hid<|xx w B r.cells 81:=h.blk;have HG:Hid<|mJ cv w:=hG.FT;have C:Hid<|¬r.d.own r.D B:=h.fB;have HK:Hid<|dL r.D r.d:=G.FU;have HZ:Hid<|¬r.d.own r.D 0:=G.FU.zero;have HT:Hid<|∀t a,r.lays m c sl=(bL,a)->xb (r.d.own r.D) w t->Xg t r.D a->(∀y,a.own r.D y->r.d.own r.D y)->a.M=r.d.M->UE cv B r (r.lays m c sl) w (.returned<|.tuple #[]) t:=fun t a h1 h2 h3 h4 h5=>by
  rw[h1];exact⟨rfl,jt.disk h h2 h3 h5 h4⟩
 have HF:Hid<|∀t a,r.lays m c sl=(bK,a)->xb (r.d.own r.D) w t->Xg t r.D a->(∀y,a.own r.D y->r.d.own r.D y)->a.M=r.d.M->UE cv B r (r.lays m c sl) w (eF cv) t:=fun t a h1 h2 h3 h4 h5=>by
  rw[h1];exact⟨rfl,jt.disk h h2 h3 h5 h4⟩
 have NA:Hid<|xb (r.d.own r.D) w<|w.alloc<|.cells m.cells 185:=xb.alloc _;have XM:Hid<|xx (w.alloc<|.cells m.cells 185) w.heap.size m.cells 185:=xx.new _ _ _;have cq:=h.blk.lt;have X:Hid<|xx (w.alloc<|.cells m.cells 185) B r.cells 81:=h.blk.alloc _;clear h G hG;unfold Mf.V;unfold Mf.cells;go_enter func118.1,Tryz.ntmps118;by_cases hp:c=[]
 focus
  subst hp;have hn:(st ([]:Zl)).toList=[]:=xo [];have HS:Hid<|r.lays m [] sl=qB m sl r.d:=by show _=_;unfold Sr.lays;rw[aA rfl]
  have XD:Hid<|Xg (w.alloc<|.cells m.cells 185) r.D r.d:=HD.o.but (xb.alloc _) fun _ _=>id;have Y:Hid<|dL r.D r.d:=HK.o;have XG:Hid<|mJ cv<|w.alloc<|.cells m.cells 185:=HG.o.but NA.o HZ.o;have z:Hid<|xb (r.d.own r.D) w<|w.alloc<|.cells m.cells 185:=NA.o;have v:Hid<|∀y,r.d.own r.D y->r.d.own r.D y:=fun _ x=>x;have XF:Hid<|r.d.L.length<1000000:=by show _<_;omega
  clear NA;unfold Mf.cells at XM XD XG z X;have e2:=X.o.cell 2 rfl;change World.cell? _ _=bO (zo r.D)at e2
  go_wp2_with fail
  generalize w.alloc (.cells _ 185)=U at*;refine(Nz r.D r.d 0 sl _ XD.o Y.o XG.o).mono ?_;rintro e H ⟨k,⟨rfl,l,b⟩|⟨rfl,l,b⟩⟩;rotate_left;exact⟨rfl,HF.o _ _ (by rw[HS.o];unfold qB;rw[aA b.o]) (z.o.trans<|k.mono v.o) l (fun y o=>v.o y<|Dk.dQ _ _ _ o)<|(Dk.gQ _)⟩;have DA:Hid<|Xg H r.D<|r.d.mG 0 sl:=l;have KA:Hid<|dL r.D<|r.d.mG 0 sl:=Y.o.step b.o<|Y.o.files.lay (by unfold i64;omega) (by simp only;omega) XF.o;have OA:Hid<|∀y,(r.d.mG 0 sl).own r.D y->r.d.own r.D y:=fun y o=>v.o y<|(Dk.dS r.d r.D y).1 o;have MA:Hid<|(r.d.mG 0 sl).M=r.d.M:=(Dk.eB r.d);have BA:Hid<|xb (r.d.own r.D) w H:=z.o.trans<|k.mono v.o;have bd:Hid<|r.lays m [] sl=lK m (Xs (r.d.mG 0 sl).L) (r.d.mG 0 sl):=by show _=_;rw[HS.o];unfold qB;rw[aB<|by rw[b.o];decide]
  have BB:Hid<|xx H B r.cells 81:=HB.o.but BA.o C.o;have R:Hid<|xx U w.heap.size m.cells 185:=XM.o;have BX:Hid<|xx H w.heap.size m.cells 185:=R.o.but k (fun x=>by have:=Dk.bX HD.o<|v.o _ x;omega);have g2:H.cell? (zq B 2)=bO (zo r.D):=BB.o.cell 2 rfl;clear k l b XD Y XG z v XM X XF HS e2 R;generalize r.d.mG 0 sl=dd at*
  go_wp2_with fail
 rotate_left
 focus
  have hn:¬(st c).toList=[]:=by rw[xo];exact hp
  have ci:(st c).toList.isEmpty=bK:=by rw[xo];cases c;exact absurd rfl hp;rfl
  have z:Hid<|xb (r.d.own r.D) w<|w.alloc<|.cells m.cells 185:=NA.o;have XN:Hid<|Nw w<|w.alloc<|.cells m.cells 185:=xb.alloc _;have bp:Hid<|r.lays m c sl=if r.d.stops=bL then(bK,r.d.lost)else if(r.d.app m.file c).stops=bL then(bK,(r.d.app m.file c).lost)else qB m sl ((r.d.app m.file c).mR m.file):=by show _=_;unfold Sr.lays;rw[aB hp]
  clear NA hp;unfold Mf.cells at XM z XN X
  go_wp2_with fail
  generalize w.alloc (.cells _ 185)=wA at*;have bo:Hid<|xx wA w.heap.size m.cells 185:=XM.o;have be:Hid<|∀w1,xb (r.d.own r.D) wA w1->w1.cell? (zq B 2)=bO (zo r.D)/\w1.cell? (zq w.heap.size 5)=bO (zi m.file):=fun w1 hh=>⟨(X.o.but hh C.o).cell 2 rfl,(bo.o.but hh fun x=>by have:=Dk.bX HD.o x;omega).cell 5 rfl⟩;have S0:=be.o wA<|xb.refl _ _;have br:Hid<|bE prog 99 #[zo r.D,zi m.file,zs c] wA.drew<|Yz cv r.D r.d (Yx r.d.L m.file (qu r.d.L m.file++c,(Vu r.d.L m.file).2)) wA.drew:=Qm r.D r.d _ c (by omega) _ (HD.o.but XN.o.drew fun _ _=>id) HK.o<|HG.o.but XN.o.drew id
  go_region_held2 (fun t=>t.cell? (zq B 2)=bO (zo r.D)/\t.cell? (zq w.heap.size 5)=bO (zi m.file)) (first|exact S0|exact S1)
   ((go_at_call 99;refine br.o.mono ?_;rintro e W ⟨hb,⟨rfl,hd,b⟩|⟨rfl,hd,b⟩⟩;rotate_left;(exact⟨rfl,HF.o _ _ (by rw[bp.o,aA b.o]) (z.o.drew.trans hb) hd (fun y o=>Dk.dQ _ _ _ o)<|Dk.gQ _⟩);have Y1:Hid<|xb (r.d.own r.D) wA W:=(xb.refl _ _).drew.trans hb;have D1:Hid<|Xg W r.D<|r.d.app m.file c:=hd;have O:Hid<|r.d.stops=bK:=b.o;have S1:=be.o W Y1.o))
  have bc:Hid<|r.lays m c sl=if(r.d.app m.file c).stops=bL then(bK,(r.d.app m.file c).lost)else qB m sl ((r.d.app m.file c).mR m.file):=by show _=_;rw[bp.o,aB<|by rw[O.o];decide]
  have K1:Hid<|dL r.D<|r.d.app m.file c:=by
   refine HK.o.step O.o (HK.o.files.lay (by unfold i64;omega) ?_<|by omega);have h1:=HK.o.files.each.dat m.file;have h5:(Vu r.d.L m.file).1.length=(qu r.d.L m.file).length:=rfl;simp only[zj];omega
  have O1:Hid<|∀y,(r.d.app m.file c).own r.D y->r.d.own r.D y:=fun y o=>(Dk.dS r.d r.D y).1 o;have M1:Hid<|(r.d.app m.file c).M=r.d.M:=Dk.eB r.d;have F1:Hid<|(r.d.app m.file c).L.length<=r.d.L.length+1:=by
   show(Yx r.d.L m.file _).length<=_;unfold Yx;split;have:=RF r.d.L m.file;omega;exact(TI _ _ _).1
  have bq:Hid<|(qu (r.d.app m.file c).L m.file).length<=1000000:=by
   have:=(K1.o.files.each.dat m.file).2.2;exact this
  obtain⟨a,b2⟩:∃a,r.d.app m.file c=a:=⟨_,rfl⟩;rw[b2]at bc K1 O1 M1 F1 D1 bq;have bg:Hid<|xb (r.d.own r.D) w W:=z.o.trans Y1.o;have B1:Hid<|xx W B r.cells 81:=X.o.but Y1.o C.o;have bv:Hid<|xx W w.heap.size m.cells 185:=bo.o.but Y1.o (fun x=>by have:=Dk.bX HD.o x;omega);have K:Hid<|∀w1,xb (r.d.own r.D) W w1->w1.cell? (zq B 2)=bO (zo r.D)/\w1.cell? (zq w.heap.size 5)=bO (zi m.file):=fun w1 hh=>be.o w1<|Y1.o.trans hh;have bu:Hid<|bE prog 100 #[zo r.D,zi m.file] W.drew<|Yz cv r.D a (Yx a.L m.file (qu a.L m.file,(qu a.L m.file).length)) W.drew:=Tn r.D a _ _ (D1.o.but (xb.refl _ _).drew fun _ _=>id) K1.o<|HG.o.but bg.o.drew HZ.o;have b0:=K.o W<|xb.refl _ _;clear b2 S0 S1 be bp O Y1 br XM z XN X bo
  try clear hHeld
  go_wp2_with fail
  go_region_held2 (fun t=>t.cell? (zq B 2)=bO (zo r.D)/\t.cell? (zq w.heap.size 5)=bO (zi m.file)) (first|exact b0|exact b1)
   ((go_at_call 100;refine bu.o.mono ?_;rintro e U ⟨hb,⟨rfl,hd,b⟩|⟨rfl,hd,b⟩⟩;rotate_left;(exact⟨rfl,HF.o _ _ (by rw[bc.o,aA b.o]) (bg.o.drew.trans<|hb.mono O1.o) hd (fun y o=>O1.o y<|Dk.dQ _ _ _ o)<|(Dk.gQ _).trans M1.o⟩);have Y2:Hid<|xb (r.d.own r.D) W U:=(xb.refl _ _).drew.trans<|hb.mono O1.o;have D2:Hid<|Xg U r.D<|a.mR m.file:=hd;have Q:Hid<|a.stops=bK:=b.o;have b1:=K.o U Y2.o))
  have HS:Hid<|r.lays m c sl=qB m sl (a.mR m.file):=by show _=_;rw[bc.o,aB<|by rw[Q.o];decide]
  have Y:Hid<|dL r.D<|a.mR m.file:=K1.o.step Q.o (K1.o.files.lay (by unfold i64;omega) (by have:=bq.o;simp only;omega)<|by have:=F1.o;omega);have v:Hid<|∀y,(a.mR m.file).own r.D y->r.d.own r.D y:=fun y o=>O1.o y<|(Dk.dS a r.D y).1 o;have bf:Hid<|(a.mR m.file).M=r.d.M:=(Dk.eB a).trans M1.o;have XF:Hid<|(a.mR m.file).L.length<1000000:=by
   show(Yx a.L m.file _).length<_;have:=F1.o;unfold Yx;split;have:=RF a.L m.file;omega;have:=(TI a.L m.file (qu a.L m.file,((qu a.L m.file).length:Int))).1;omega
  obtain⟨F,b3⟩:∃F,a.mR m.file=F:=⟨_,rfl⟩;rw[b3]at HS Y v bf XF D2;have XD:Hid<|Xg U r.D F:=D2.o;have z:Hid<|xb (r.d.own r.D) w U:=bg.o.trans Y2.o;have XG:Hid<|mJ cv U:=HG.o.but z.o HZ.o;have X:Hid<|xx U B r.cells 81:=B1.o.but Y2.o C.o;have XM:Hid<|xx U w.heap.size m.cells 185:=bv.o.but Y2.o (fun x=>by have:=Dk.bX HD.o x;omega);clear b3 b0 b1 K bc Q Y2 D2 bg B1 bv bu K1 O1 M1 F1 D1 bq hn ci
  try clear hHeld
  have e2:=X.o.cell 2 rfl;change World.cell? _ _=bO (zo r.D)at e2
  go_wp2_with fail
  skip;refine(Nz r.D F 0 sl _ XD.o Y.o XG.o).mono ?_;rintro e H ⟨k,⟨rfl,l,b⟩|⟨rfl,l,b⟩⟩;rotate_left;exact⟨rfl,HF.o _ _ (by rw[HS.o];unfold qB;rw[aA b.o]) (z.o.trans<|k.mono v.o) l (fun y o=>v.o y<|Dk.dQ _ _ _ o)<|(Dk.gQ _).trans bf.o⟩;have DA:Hid<|Xg H r.D<|F.mG 0 sl:=l;have KA:Hid<|dL r.D<|F.mG 0 sl:=Y.o.step b.o<|Y.o.files.lay (by unfold i64;omega) (by simp only;omega) XF.o;have OA:Hid<|∀y,(F.mG 0 sl).own r.D y->r.d.own r.D y:=fun y o=>v.o y<|(Dk.dS F r.D y).1 o;have MA:Hid<|(F.mG 0 sl).M=r.d.M:=(Dk.eB F).trans bf.o;have BA:Hid<|xb (r.d.own r.D) w H:=z.o.trans<|k.mono v.o;have bd:Hid<|r.lays m c sl=lK m (Xs (F.mG 0 sl).L) (F.mG 0 sl):=by show _=_;rw[HS.o];unfold qB;rw[aB<|by rw[b.o];decide]
  have BB:Hid<|xx H B r.cells 81:=HB.o.but BA.o C.o;have R:Hid<|xx U w.heap.size m.cells 185:=XM.o;have BX:Hid<|xx H w.heap.size m.cells 185:=R.o.but k (fun x=>by have:=Dk.bX HD.o<|v.o _ x;omega);have g2:H.cell? (zq B 2)=bO (zo r.D):=BB.o.cell 2 rfl;clear k l b XD Y XG z v XM X XF HS e2 bf R;generalize F.mG 0 sl=dd at*
  go_wp2_with fail
 all_goals
  refine(QK r.D dd H DA.o KA.o.files).mono ?_;rintro e w1 ⟨p,g,co,rfl,hp,hg,bn,S⟩;have HP:Hid<|Xs dd.L≠[]->p=bO ⟨g,0,bN⟩:=hp;have HR:Hid<|DK w1 g<|Xs dd.L:=bn;have cb:Hid<|xb (r.d.own r.D) w w1:=BA.o.trans<|xb.of_below S;have ca:Hid<|Xg w1 r.D dd:=DA.o.but (xb.of_below S) fun _ _=>id;have b9:Hid<|xx w1 w.heap.size m.cells 185:=BX.o.below S;have b8:Hid<|xx w1 B r.cells 81:=BB.o.below S;have bz:Hid<|(Xs dd.L).length<=1000000:=by show _<=_;rw[yZ];exact KA.o.files.cnt
  have ce:Hid<|¬r.d.own r.D g:=fun x=>by have:=Dk.bX HD.o x;have:=BA.o.size;omega
  clear hp bn S DA BA BX BB g2;obtain⟨f,b7⟩:∃f,Xs dd.L=f:=⟨_,rfl⟩;rw[b7]at HP HR bz bd⊢;clear b7
  go_wp2_with fail
  go_loopw [39] (fun i wr=>∃(j:Nat) (a:Dk),j<=f.length/\i=zi j/\xb (r.d.own r.D) w wr/\xb (r.d.own r.D) w1 wr/\Xg wr r.D a/\dL r.D a/\(∀y,a.own r.D y->r.d.own r.D y)/\a.M=r.d.M/\lK m (f.drop j) a=lK m f dd) (fun i _=>(f.length-aJ i).toNat)
  case atStart=>exact⟨0,dd,by omega,rfl,cb.o,xb.refl _ _,ca.o,KA.o,OA.o,MA.o,rfl⟩
  case round=>
   obtain⟨j,a,hj,rfl,hb,bi,b4,G,bm,b6,b5⟩:=hrel;have cr:=bz.o;have E:Hid<|xb (r.d.own r.D) w wr:=hb;have Z:Hid<|xb (r.d.own r.D) w1 wr:=bi;have ba:Hid<|Xg wr r.D a:=b4;have I:Hid<|dL r.D a:=G;have q:Hid<|∀y,a.own r.D y->r.d.own r.D y:=bm;have J:Hid<|a.M=r.d.M:=b6;have bb:Hid<|lK m (f.drop j) a=lK m f dd:=b5;have bt:xx wr w.heap.size m.cells 185:=b9.o.but bi (fun x=>by have:=Dk.bX HD.o x;omega);have bs:xx wr B r.cells 81:=b8.o.but bi C.o;have c5:wr.cell? (zq w.heap.size 5)=bO (zi m.file):=bt.cell 5 rfl;have c2:wr.cell? (zq B 2)=bO (zo r.D):=bs.cell 2 rfl;clear hb bi b4 G bm b6 b5 bt bs;by_cases bk:j<f.length
   ·have i1:(j:Int)<(f.length:Nat):=by omega
    have i0:(0:Int)<=(j:Int):=by omega
    have cj:=HP.o (fun e=>by rw[e]at bk;simp at bk);subst cj;have hc:=(HR.o.but Z.o ce.o) j bk;have bx:Hid (f.drop j=f[j]::f.drop (j+1)):=Vd bk;generalize f[j]=n at*;by_cases s:n=0\/n=(m.file:Int)
    ·have HN:Hid<|lK m (f.drop<|j+1) a=lK m f dd:=by
      show _=_;rw[<-bb.o,bx.o];simp only[lK,aA s]
     by_cases T:n=0
     ·subst T
      clear s
      go_wp2_with fail
      go_roundw
      case rel=>exact⟨j+1,a,by omega,by go_num,E.o,Z.o,ba.o,I.o,q.o,J.o,HN.o⟩
      case measure=>simp[aJ];omega
     have bl:n=(m.file:Int):=s.resolve_left T;subst bl;clear s
     go_wp2_with fail
     go_roundw
     case rel=>exact⟨j+1,a,by omega,by go_num,E.o,Z.o,ba.o,I.o,q.o,J.o,HN.o⟩
     case measure=>simp[aJ];omega
    have HN:Hid<|lK m (f.drop j) a=if a.stops=bL then(bK,a.lost)else lK m (f.drop<|j+1) (a.rem n):=by
     show _=_;rw[bx.o];simp only[lK,aB s]
    have T:¬n=0:=fun e=>s<|.inl e;have bl:¬n=(m.file:Int):=fun e=>s<|.inr e;have cl:decide (n=0)=bK:=by simpa using T
    have cn:decide (n=(m.file:Int))=bK:=by simpa using bl
    have cm:(n != (m.file:Int))=bL:=by simpa using bl
    have ck:(n != 0)=bL:=by simpa using T
    have GR:Hid<|mJ cv wr:=HG.o.but E.o HZ.o;clear s
    go_wp2_with fail
    refine(f_ r.D a n _ ba.o I.o GR.o).mono ?_;rintro e w3 ⟨bh,⟨rfl,bj,b⟩|⟨rfl,bj,b⟩⟩;rotate_left;exact⟨rfl,HF.o _ _ (by rw[bd.o,<-bb.o,HN.o,aA b.o]) (E.o.trans<|bh.mono q.o) bj (fun y o=>q.o y<|Dk.dQ a r.D y o)<|(Dk.gQ a).trans J.o⟩;have cc:Hid<|xb (r.d.own r.D) w w3:=E.o.trans<|bh.mono q.o;have bw:Hid<|xb (r.d.own r.D) w1 w3:=Z.o.trans<|bh.mono q.o;have cd:Hid<|Xg w3 r.D<|a.rem n:=bj;have cf:Hid<|dL r.D<|a.rem n:=I.o.step b.o<|I.o.files.del n;have cg:Hid<|lK m (f.drop<|j+1) (a.rem n)=lK m f dd:=by show _=_;rw[<-bb.o,HN.o,aB<|by rw[b.o];decide]
    clear bh bj b
    go_wp2_with fail
    go_roundw
    case rel=>exact⟨j+1,a.rem n,by omega,by go_num,cc.o,bw.o,cd.o,cf.o,fun y o=>q.o y<|(Dk.jE a n r.D y).1 o,(Dk.GD a n).trans J.o,cg.o⟩
    case measure=>simp[aJ];omega
   have ch:j=f.length:=by omega
   subst ch
   go_wp2_with fail
   go_end0
   exact HT.o _ _ (bd.o.trans<|bb.o.symm.trans<|by rw[List.drop_length];rfl) E.o ba.o q.o J.o
def Mf.text(m:Mf):Zl:=77::(nb m.ep 1++(nb m.op 2++(nb m.cnt 4++(nb m.bP 2++(nb m.base 4++(nb m.file 2++(nb m.len 4++(m.root++m.last))))))))
def Mf.bS(m:Mf)(tk:Zl):Zl:=m.text++V1 tk m.text
def sT(m:Mf)(f d:Zl)(l:d.length<=4096)(K:m.root.length=32)(I:m.last.length=32)(w:Zy)(B:dF w):
  bE prog 120 #[m.V,.agg #[zs f,zs d]] w fun e w'=>e= .returned (zs<|m.bS d)/\bC w.heap.size w w':=by
 have x:=zl B;have p:=zl l;have l1:=qt m.ep 1;have C:=qt m.op 2;have D:=qt m.cnt 4;have E:=qt m.bP 2;have l5:=qt m.base 4;have F:=qt m.file 2;have G:=qt m.len 4;have v:Hid<|(⟨#[77]⟩:ByteArray)++st (nb m.ep 1)++st (nb m.op 2)++st (nb m.cnt 4)++st (nb m.bP 2)++st (nb m.base 4)++st (nb m.file 2)++st (nb m.len 4)++st m.root++st m.last=st m.text:=by
  show _=_;rw[show(⟨#[77]⟩:ByteArray)=st [77]from rfl];simp only[zv];simp[Mf.text]
 have W0:Hid<|bC w.heap.size w<|(w.alloc<|.cells m.cells 185).alloc<|.cells #[zs f,zs d] 120:=((zr _ _).alloc (ze _) _).alloc (by simp) _;have t:Hid<|xx ((w.alloc<|.cells m.cells 185).alloc<|.cells #[zs f,zs d] 120) w.heap.size m.cells 185:=(xx.new _ _ _).alloc _;have s:Hid<|xx ((w.alloc<|.cells m.cells 185).alloc<|.cells #[zs f,zs d] 120) (w.heap.size+1) #[zs f,zs d] 120:=by
  have:=xx.new (w.alloc<|.cells m.cells 185) #[zs f,zs d] 120;simp only[xh]at this;exact this
 clear B l;unfold Mf.V;unfold Mf.cells at*;go_enter func120.1,Tryz.ntmps120
 go_wp2_with fail
 generalize(w.alloc<|.cells _ 185).alloc (.cells #[zs f,zs d] 120)=W at*;have c:Hid<|∀w1,bC W.heap.size W w1->MC w.heap.size m m.root w1:=fun w1 h=>by
  have b:=t.o.below h;exact b.mc
 have y:=c.o W<|zr _ _;have a:Hid<|bC W.heap.size W W.drew:=(zr _ _).drew
 go_region_held3 (fun w'=>MC w.heap.size m m.root w') (first|exact y|exact n)
  (first
   |(go_at_call 153;refine(LV _ _).mono ?_;rintro e w1 ⟨rfl,j⟩;replace a:=zl<|Yg a.o j;have n:=c.o _ a.o)
   |(go_at_call 154;refine(RV _ _).mono ?_;rintro e w1 ⟨rfl,j⟩;replace a:=zl<|Yg a.o j;have n:=c.o _ a.o)
   |(go_at_call 155;refine(Cn _ _).mono ?_;rintro e w1 ⟨rfl,j⟩;replace a:=zl<|Yg a.o j;have n:=c.o _ a.o))
 have r:m.text.length=84:=by simp[Mf.text,l1,C,D,E,l5,F,G,K,I]
 rw[v.o];have i:=zl<|s.o.below a.o;have z:=zl<|W0.o.trans<|a.o.mono W0.o.size;have T1:=zl<|x.o.below x.o.pos z.o;have e0:=i.o.cell 0 rfl;have L:=i.o.cell 1 rfl;obtain⟨o,g⟩:∃o,m.text=o:=⟨_,rfl⟩;have q:=zl g;rw[g]at r⊢;clear g y c a t s W0 v l1 C D E l5 F G;clear n
 try clear hHeld
 go_wp2_with fail
 refine(TC f d o p.o (by omega) _ T1.o).mono ?_;rintro e M ⟨rfl,k⟩;have J:=wP d o;have H:=zl<|Yg z.o k;clear k
 go_wp2_with fail
 go_ret
 exact⟨by unfold Mf.bS;rw[q.o];rfl,H.o⟩
def oW(l:Zl):Zl:=l.drop 1
def sM(l:Zl):Zl:=(oW l).drop 1
def rP(l:Zl):Zl:=(sM l).drop 2
def sN(l:Zl):Zl:=(rP l).drop 4
def rQ(l:Zl):Zl:=(sN l).drop 2
def sO(l:Zl):Zl:=(rQ l).drop 4
def rM(l:Zl):Zl:=(sO l).drop 2
def sP(l:Zl):Zl:=(rM l).drop 4
def rO(l:Zl):Zl:=(sP l).drop 32
def vJ(l:Zl):Zl:=(rO l).drop 32
def iL(l:Zl):Mf:={ep:=Zk<|(oW l).take 1,op:=Zk<|(sM l).take 2,cnt:=Zk<|(rP l).take 4,bP:=Zk<|(sN l).take 2,base:=Zk<|(rQ l).take 4,file:=Zk<|(sO l).take 2,len:=Zk<|(rM l).take 4,root:=(sP l).take 32,last:=(rO l).take 32}
structure qJ(m:Zl)(tc:Int)(l:Zl):Prop where
 len:l.length=116
 head:l.take 1=[77]
 ep:(iL l).ep<=5
 tag:vJ l=V1 (Jm m (iL l).ep) (l.take 84)
 cnt:((iL l).cnt:Int)<=tc
def xnc(tv:Zv)(m:Zl)(tc:Int)(l:Zl)(w:Zy)(e:Ending)(w':Zy):Prop:=
 Nw w w'/\((e= .returned (iL l).V/\qJ m tc l)\/(e=eF tv/\¬qJ m tc l))
def Ux{l:Zl}(h:l.length=116):(oW l).length=115/\(sM l).length=114/\(rP l).length=112/\(sN l).length=108/\(rQ l).length=106/\(sO l).length=102/\(rM l).length=100/\(sP l).length=96/\(rO l).length=64/\(vJ l).length=32:=by
 refine⟨?_, ?_, ?_, ?_, ?_, ?_, ?_, ?_, ?_, ?_⟩<;>simp[oW,sM,rP,sN,rQ,sO,rM,sP,rO,vJ,h]
def xx.set9{x:Zy}{r:Nat}{t:Zt}{a0 a1 a2 a3 a4 a5 a6 a7 a8 b0 b1 b2 b3 b4 b5 b6 b7 b8:Zv}(h:xx x r #[a0,a1,a2,a3,a4,a5,a6,a7,a8] t):xx (((((((((x.setCell (zq r 0) b0).setCell (zq r 1) b1).setCell (zq r 2) b2).setCell (zq r 3) b3).setCell (zq r 4) b4).setCell (zq r 5) b5).setCell (zq r 6) b6).setCell (zq r 7) b7).setCell (zq r 8) b8) r #[b0,b1,b2,b3,b4,b5,b6,b7,b8] t:=by
 have k:=((((((((h.set 0 b0).set 1 b1).set 2 b2).set 3 b3).set 4 b4).set 5 b5).set 6 b6).set 7 b7).set 8 b8;simp only[xv,Zz,Z9]at k;exact k
def uJ(l:Zl)(k:Nat):Za:=#[if 0<k then .int .i64 ((Zk ((oW l).take 1):Nat):Int)else .int .i64 0,if 1<k then .int .i64 ((Zk ((sM l).take 2):Nat):Int)else .int .i64 0,if 2<k then .int .i64 ((Zk ((rP l).take 4):Nat):Int)else .int .i64 0,if 3<k then .int .i64 ((Zk ((sN l).take 2):Nat):Int)else .int .i64 0,if 4<k then .int .i64 ((Zk ((rQ l).take 4):Nat):Int)else .int .i64 0,if 5<k then .int .i64 ((Zk ((sO l).take 2):Nat):Int)else .int .i64 0,if 6<k then .int .i64 ((Zk ((rM l).take 4):Nat):Int)else .int .i64 0,if 7<k then .string (st<|(sP l).take 32)else .string ⟨#[]⟩,if 8<k then .string (st<|(rO l).take 32)else .string ⟨#[]⟩]
structure MS(w v:Zy)(R:Nat)(m mk:Zl)(tc op:Int)(l:Zl)(c:Za):Prop where
 T:xx v w.heap.size #[zs m,zi tc,zs mk,zi op] 78
 Z:xx v (w.heap.size+1) #[zi 0,zi 0,zi 0,zi 0,zi 0,zi 0,zi 0,.string ⟨#[]⟩,.string ⟨#[]⟩] 185
 K:xx v (w.heap.size+1+1) #[zs l] 234
 C:xx v R c 185
 N:Nw w v
section
variable {w v v':World} {R i:Nat} {m mk l l':List UInt8} {tc op:Int} {c:Array Value} {u:Value}
def MS.cut(s:MS w v R m mk tc op l c)(a:R≠w.heap.size+1+1)(k:xb (·=w.heap.size+1+1) v v')(b:xx v' (w.heap.size+1+1) #[zs l'] 234):MS w v' R m mk tc op l' c:=⟨s.T.but k<|by omega,s.Z.but k<|by omega,b,s.C.but k a,s.N.fresh (by omega) k⟩
def MS.set(s:MS w v R m mk tc op l c)(a:w.heap.size+1+1<R)(e:v.setCell (zq R i) u=v'):MS w v' R m mk tc op l<|c.setIfInBounds i u:=⟨s.T.ot e<|by omega,s.Z.ot e<|by omega,s.K.ot e<|by omega,s.C.st e,s.N.st e<|by omega⟩
end
def zra{tv:Zv}(m k:Zl)(tc op:Int)(l:Zl)(hm:m.length=32)(hl:l.length<=1000000)(w:Zy)(bk:1<w.heap.size)(hT:dF w)(hG:Wh tv w):
  bE prog 105 #[.agg #[zs m,zi tc,zs k,zi op],zs l] w (xnc tv m tc l w):=by
 have HG:=zl hG;have HT:=zl hT;have HM:=zl hm;clear hG hT hm;go_enter func105.1,Tryz.ntmps105
 go_wp2_with fail
 refine kN fun w0 a=>?_;have BT:=zl<|(xx.new w _ 78).al a;have BR:Hid<|xx w0 (w.heap.size+1) _ 185:=xh w _▸xx.nu a;have N0:Hid<|Nw w w0:=(xb.alloc _).al a;have bb:w0.heap.size=w.heap.size+1+1:=by rw[xoc a,xh]
 have G0:=zl<|HG.o.but N0.o id;clear a;by_cases q:l.length=116;rotate_left;refine(Xu _ (by simp;omega) _ G0.o).mono ?_;rintro e w1 ⟨rfl,rfl⟩;exact⟨rfl,N0.o,.inr ⟨rfl,fun h=>q h.len⟩⟩;refine(Yb _ (by simp;omega) _).mono ?_;rintro e w1 ⟨rfl,ba⟩;obtain rfl:w0=w1:=ba.symm;have Q:=zl<|Ux q;have O:=zl q
 go_wp2_with fail
 refine kN fun w1 a=>?_;have S:Hid<|MS w w1 (w.heap.size+1) m k tc op l<|uJ l 0:=⟨BT.o.al a,BR.o.al a,bb▸xx.nu a,BR.o.al a,N0.o.al a⟩;clear a BT BR N0 bb G0;refine(rJ S.o.K _ 1 rfl<|by omega).mono ?_;rintro e w2 ⟨rfl,b,hk⟩;replace S:=zl<|S.o.cut (l':=oW l) (by omega) b hk;have G2:=zl<|HG.o.but S.o.N id;have i:=S.o.K.lt;clear b hk
 go_wp2_with fail
 by_cases p:l.take 1=[77];rotate_left;refine(Xu _ (by rw[xo,Xy];exact p) _ G2.o).mono ?_;rintro e J ⟨rfl,rfl⟩;exact⟨rfl,S.o.N,.inr ⟨rfl,fun h=>p h.head⟩⟩;refine(Yb _ (by rw[xo,p];rfl) _).mono ?_;rintro e J ⟨rfl,r⟩;obtain rfl:w2=J:=r.symm;have bc:=zl p;clear p
 go_wp2_with fail
 refine kN fun v a=>?_;generalize hR:w2.heap.size=R at i⊢;replace S:Hid<|MS w v R m k tc op (oW l)<|uJ l 0:=⟨S.o.T.al a,S.o.Z.al a,S.o.K.al a,hR▸xx.nu a,S.o.N.al a⟩;clear a G2 hR;refine(V3 S.o.K _ 1 rfl (by decide)<|by rw[Q.o.1];decide).mono ?_;rintro e x ⟨rfl,b,hk⟩;replace S:=zl<|S.o.cut (l':=sM l) (by omega) b hk;have c:=S.o.C.cell (v:=zi 0) 0 rfl;have f:=S.o.C.bT 0;clear b hk
 go_wp2_with fail
 refine kN fun v0 a=>?_;replace S:Hid<|MS w v0 R m k tc op (sM l)<|uJ l 1:=S.o.set i a;clear a c f;refine(V3 S.o.K _ 2 rfl (by decide)<|by rw[Q.o.2.1];decide).mono ?_;rintro e x ⟨rfl,b,hk⟩;replace S:=zl<|S.o.cut (l':=rP l) (by omega) b hk;have c:=S.o.C.cell (v:=zi 0) 1 rfl;have f:=S.o.C.bT 1;clear b hk
 go_wp2_with fail
 refine kN fun v1 a=>?_;replace S:Hid<|MS w v1 R m k tc op (rP l)<|uJ l 2:=S.o.set i a;clear a c f;refine(V3 S.o.K _ 4 rfl (by decide)<|by rw[Q.o.2.2.1];decide).mono ?_;rintro e x ⟨rfl,b,hk⟩;replace S:=zl<|S.o.cut (l':=sN l) (by omega) b hk;have c:=S.o.C.cell (v:=zi 0) 2 rfl;have f:=S.o.C.bT 2;clear b hk
 go_wp2_with fail
 refine kN fun v2 a=>?_;replace S:Hid<|MS w v2 R m k tc op (sN l)<|uJ l 3:=S.o.set i a;clear a c f;refine(V3 S.o.K _ 2 rfl (by decide)<|by rw[Q.o.2.2.2.1];decide).mono ?_;rintro e x ⟨rfl,b,hk⟩;replace S:=zl<|S.o.cut (l':=rQ l) (by omega) b hk;have c:=S.o.C.cell (v:=zi 0) 3 rfl;have f:=S.o.C.bT 3;clear b hk
 go_wp2_with fail
 refine kN fun v3 a=>?_;replace S:Hid<|MS w v3 R m k tc op (rQ l)<|uJ l 4:=S.o.set i a;clear a c f;refine(V3 S.o.K _ 4 rfl (by decide)<|by rw[Q.o.2.2.2.2.1];decide).mono ?_;rintro e x ⟨rfl,b,hk⟩;replace S:=zl<|S.o.cut (l':=sO l) (by omega) b hk;have c:=S.o.C.cell (v:=zi 0) 4 rfl;have f:=S.o.C.bT 4;clear b hk
 go_wp2_with fail
 refine kN fun v4 a=>?_;replace S:Hid<|MS w v4 R m k tc op (sO l)<|uJ l 5:=S.o.set i a;clear a c f;refine(V3 S.o.K _ 2 rfl (by decide)<|by rw[Q.o.2.2.2.2.2.1];decide).mono ?_;rintro e x ⟨rfl,b,hk⟩;replace S:=zl<|S.o.cut (l':=rM l) (by omega) b hk;have c:=S.o.C.cell (v:=zi 0) 5 rfl;have f:=S.o.C.bT 5;clear b hk
 go_wp2_with fail
 refine kN fun v5 a=>?_;replace S:Hid<|MS w v5 R m k tc op (rM l)<|uJ l 6:=S.o.set i a;clear a c f;refine(V3 S.o.K _ 4 rfl (by decide)<|by rw[Q.o.2.2.2.2.2.2.1];decide).mono ?_;rintro e x ⟨rfl,b,hk⟩;replace S:=zl<|S.o.cut (l':=sP l) (by omega) b hk;have c:=S.o.C.cell (v:=zi 0) 6 rfl;have f:=S.o.C.bT 6;clear b hk
 go_wp2_with fail
 refine kN fun v6 a=>?_;replace S:Hid<|MS w v6 R m k tc op (sP l)<|uJ l 7:=S.o.set i a;clear a c f;refine(rJ S.o.K _ 32 rfl<|by rw[Q.o.2.2.2.2.2.2.2.1];decide).mono ?_;rintro e x ⟨rfl,b,hk⟩;replace S:=zl<|S.o.cut (l':=rO l) (by omega) b hk;have c:=S.o.C.cell (v:= .string _) 7 rfl;have f:=S.o.C.bT 7;clear b hk
 go_wp2_with fail
 refine kN fun v7 a=>?_;replace S:Hid<|MS w v7 R m k tc op (rO l)<|uJ l 8:=S.o.set i a;clear a c f;refine(rJ S.o.K _ 32 rfl<|by rw[Q.o.2.2.2.2.2.2.2.2.1];decide).mono ?_;rintro e x ⟨rfl,b,hk⟩;replace S:=zl<|S.o.cut (l':=vJ l) (by omega) b hk;have c:=S.o.C.cell (v:= .string _) 8 rfl;have f:=S.o.C.bT 8;have d:=S.o.C.cell (v:=zi _) 0 rfl;clear b hk
 go_wp2_with fail
 refine kN fun n a=>?_;replace S:Hid<|MS w n R m k tc op (vJ l)<|uJ l 9:=S.o.set i a;clear a c f;have o:Hid<|(iL l).ep=Zk ((oW l).take 1):=rfl;clear d;have G9:Hid<|Wh tv n:=HG.o.but S.o.N id;have D:Hid<|dF n:=HT.o.but S.o.N id;by_cases M:Zk ((oW l).take 1)<=5;rotate_left;refine(Xu _ (by simp;omega) _ G9.o).mono ?_;rintro e J ⟨rfl,rfl⟩;exact⟨rfl,S.o.N,.inr ⟨rfl,fun h=>M<|by have:=h.ep;rw[o.o]at this;exact this⟩⟩;refine(Yb _ (by simp;omega) _).mono ?_;rintro e J ⟨rfl,r⟩;obtain rfl:n=J:=r.symm;have G:Hid<|Zk ((oW l).take 1)<=5:=M;clear M;obtain⟨E,Y⟩:∃E,Zk ((oW l).take 1)=E:=⟨_,rfl⟩;have C:Hid<|xx n R #[zi<|(Zk ((oW l).take 1):Nat),zi<|(Zk ((sM l).take 2):Nat),zi<|(Zk ((rP l).take 4):Nat),zi<|(Zk ((sN l).take 2):Nat),zi<|(Zk ((rQ l).take 4):Nat),zi<|(Zk ((sO l).take 2):Nat),zi<|(Zk ((rM l).take 4):Nat),zs<|(sP l).take 32,zs<|(rO l).take 32] 185:=S.o.C;rw[Y]at C o G⊢;obtain⟨W,X⟩:∃W,Xz m E=W:=⟨_,rfl⟩;obtain⟨I,F⟩:∃I,Jm m E=I:=⟨_,rfl⟩;have U:Hid<|Jm m (iL l).ep=I:=by show _=_;rw[o.o];exact F
 have KY:Hid<|∀g,dF g->bE prog 103 #[.agg #[zs m,zi tc,zs k,zi op],zi E] g fun e y=>e= .returned (.agg #[zs W,zs I])/\bC g.heap.size g y:=fun g h=>by rw[<-X,<-F];exact EO m k tc op E HM.o g h
 have KM:Hid<|∀g s,s=st (l.take 84)->dF g->bE prog 157 #[.agg #[zs W,zs I],.string s] g fun e y=>e= .returned (zs<|V1 I<|l.take 84)/\bC g.heap.size g y:=fun g s hs hT=>by rw[hs];exact TC W I _ (by rw[<-F,F8];omega) (by rw[xt];omega) g hT
 have B:Hid<|∀g,bC n.heap.size n g->g.cell? (zq w.heap.size 0)=bO (zs m)/\g.cell? (zq w.heap.size 1)=bO (zi tc)/\g.cell? (zq w.heap.size 2)=bO (zs k)/\g.cell? (zq w.heap.size 3)=bO (zi op)/\g.cell? (zq (w.heap.size+1+1) 0)=bO (zs<|vJ l)/\g.cell? (zq R 0)=bO (zi E):=fun g h=>⟨(S.o.T.below h).cell 0 rfl,(S.o.T.below h).cell 1 rfl,(S.o.T.below h).cell 2 rfl,(S.o.T.below h).cell 3 rfl,(S.o.K.below h).cell 0 rfl,(C.o.below h).cell 0 rfl⟩;have S0:=B.o n<|zr _ _;have bf:(84:Int)<=(l.length:Nat):=by omega
 clear Y X F
 go_wp2_with fail
 go_region_held2 (fun y=>y.cell? (zq w.heap.size 0)=bO (zs m)/\y.cell? (zq w.heap.size 1)=bO (zi tc)/\y.cell? (zq w.heap.size 2)=bO (zs k)/\y.cell? (zq w.heap.size 3)=bO (zi op)/\y.cell? (zq (w.heap.size+1+1) 0)=bO (zs<|vJ l)/\y.cell? (zq R 0)=bO (zi E)) (first|exact S0|exact S1)
  (first
   |(go_at_call 103;refine(KY.o _ D.o.drew).mono ?_;rintro e y1 ⟨rfl,b⟩;have Y1:Hid<|bC n.heap.size n y1:=(zr _ _).drew.trans b;have S1:=B.o _ Y1.o;have TY:Hid<|dF y1:=D.o.below D.o.pos Y1.o)
   |(go_at_call 157;refine(KM.o _ _ (yN l 84) TY.o).mono ?_;rintro e y2 ⟨rfl,b⟩;have H:Hid<|bC n.heap.size n y2:=Yg Y1.o b;have S1:=B.o _ H.o;have GY:Hid<|Wh tv y2:=G9.o.of_below H.o)
   |(go_at_call 164;refine(AQ _ _ GY.o).mono ?_;rintro e y3 ⟨bh,bg⟩;obtain rfl:y2=y3:=bh.symm;rcases bg with⟨rfl,HQ⟩|⟨rfl,HQ⟩;rotate_left;(exact⟨rfl,(S.o.N.trans<|xb.of_below H.o),.inr ⟨rfl,fun h=>by have h1:=h.tag;rw[U.o]at h1;have h2:=HQ.o;rw[h1]at h2;simp at h2⟩⟩)))
 have be:Hid<|vJ l=V1 I (l.take 84):=by have:=HQ.o;rw[Ju,xo,xo]at this;exact this
 have t:=C.o.below H.o;have j:=zl<|S.o.Z.below H.o;have NF:=zl<|S.o.N.trans<|xb.of_below H.o;have t1:=(S.o.T.below H.o).cell 1 rfl;have a0:=t.cell (v:=zi _) 0 rfl;have r0:=j.o.cell 0 rfl;have z0:=j.o.bT 0;have a1:=t.cell (v:=zi _) 1 rfl;have r1:=j.o.cell 1 rfl;have z1:=j.o.bT 1;have a2:=t.cell (v:=zi _) 2 rfl;have r2:=j.o.cell 2 rfl;have z2:=j.o.bT 2;have a3:=t.cell (v:=zi _) 3 rfl;have r3:=j.o.cell 3 rfl;have z3:=j.o.bT 3;have a4:=t.cell (v:=zi _) 4 rfl;have r4:=j.o.cell 4 rfl;have z4:=j.o.bT 4;have a5:=t.cell (v:=zi _) 5 rfl;have r5:=j.o.cell 5 rfl;have z5:=j.o.bT 5;have a6:=t.cell (v:=zi _) 6 rfl;have r6:=j.o.cell 6 rfl;have z6:=j.o.bT 6;have a7:=t.cell (v:= .string _) 7 rfl;have r7:=j.o.cell 7 rfl;have z7:=j.o.bT 7;have a8:=t.cell (v:= .string _) 8 rfl;have r8:=j.o.cell 8 rfl;have z8:=j.o.bT 8;have bj:¬R=w.heap.size+1:=by omega
 have bi:¬w.heap.size+1=R:=by omega
 clear t C S0 B KY KM S G9 D HQ Y1 H TY bf
 try clear S1
 try clear hHeld
 go_wp2_with fail
 by_cases L:((Zk ((rP l).take 4):Nat):Int)<=tc;rotate_left;refine(Xu _ (by simp;omega) _ GY.o).mono ?_;rintro e J ⟨rfl,rfl⟩;exact⟨rfl,NF.o,.inr ⟨rfl,fun h=>L h.cnt⟩⟩;refine(Yb _ (by simp;omega) _).mono ?_;rintro e J ⟨rfl,r⟩;obtain rfl:y2=J:=r.symm;have bd:Hid<|qJ m tc l:=⟨O.o,bc.o,by rw[o.o];exact G.o,by rw[U.o];exact be.o,L⟩;clear L
 go_wp2_with fail
 refine Gv fun v a=>?_;have z:=a▸xx.set9 j.o;have NV:xb (·=w.heap.size+1) y2 v:=by
  subst a
  iterate 9 refine xb.trans ?_<|xb.set _ (zq (w.heap.size+1) _) _
  exact xb.refl _ _
 clear a;have s0:=z.cell (v:=zi _) 0 rfl;have s1:=z.cell (v:=zi _) 1 rfl;have s2:=z.cell (v:=zi _) 2 rfl;have s3:=z.cell (v:=zi _) 3 rfl;have s4:=z.cell (v:=zi _) 4 rfl;have s5:=z.cell (v:=zi _) 5 rfl;have s6:=z.cell (v:=zi _) 6 rfl;have s7:=z.cell (v:= .string _) 7 rfl;have s8:=z.cell (v:= .string _) 8 rfl;refine jz (v:= .agg #[zi E,zi<|(Zk ((sM l).take 2):Nat),zi<|(Zk ((rP l).take 4):Nat),zi<|(Zk ((sN l).take 2):Nat),zi<|(Zk ((rQ l).take 4):Nat),zi<|(Zk ((sO l).take 2):Nat),zi<|(Zk ((rM l).take 4):Nat),zs<|(sP l).take 32,zs<|(rO l).take 32]) (by simp[results,Tryz.results105,go_sem,s0,s1,s2,s3,s4,s5,s6,s7,s8]) rfl ⟨NF.o.fresh (by omega) NV,.inl ⟨?_,bd.o⟩⟩;unfold Mf.V Mf.cells;rw[o.o];rfl
end P
namespace A
open Go
section
variable {Q:Act→Prop}
section
variable {P:Program} {ops:Array aD} {md:Region.Mode} {C:World->Prop}
def LY(P:Zp)(md:Region.Mode)(ops:Array aD)(C:Zy->Prop)(z:Nat)(Q:Act->Prop):Nat->Array Bool->Act->Prop
 |0,listed,a=>Region.ready md ops listed=[z]/\Region.ready md ops (listed.setIfInBounds z bL)=[]/\Q a
 |fuel+1,listed,a=>Region.ready md ops listed≠[]/\z∉Region.ready md ops listed/\∀i∈Region.ready md ops listed,qOp P ops C i (LY P md ops C z Q fuel<|listed.setIfInBounds i bL) a
def La{z:Nat}{Q':Exit->Act->Zy->Prop}(f:∀a w,C w->Q a->wpOp P ops Q' z (fun a' w'=>Q' .normal a' w') a w):∀(fuel:Nat) (listed:Array Bool) (a:Act) (w:Zy),C w->
  LY P md ops C z Q fuel listed a->wpAny P md ops Q' (fuel+1) listed a w
 |0,listed,a,w,hw,h=>by
  refine⟨fun c=>(by rw[h.1]at c;cases c),fun i b=>?_⟩;rw[h.1]at b;simp only[jp]at b;subst b;exact wpOp_mono (fun a' w' d=>⟨h.2.1,d⟩)<|f a w hw h.2.2
 |fuel+1,listed,a,w,hw,h=>⟨fun c=>absurd c h.1,fun i b=>wpOp_of_qOp hw (fun a' w' e d=>La f fuel _ a' w' e d)<|h.2.2 i b⟩
def qN(md:Region.Mode)(ops:Array aD)(listed:Array Bool):Prop:=∀(j:Nat) (oj:aD),ops[j]?=bO oj->listed.getD j bK=bL->∀e∈oj.after,Region.binds md e=bL->listed.getD e.on bK=bL
def qN.set{listed:Array Bool}(h:qN md ops listed){i:Nat}(k:i∈Region.ready md ops listed):qN md ops<|listed.setIfInBounds i bL:=fun j m f l e d c=>by
 by_cases b:j=i;subst b;obtain⟨_,o,g,a⟩:=mem_ready.1 k;rw[f]at g;cases g;exact getD_set_true<|a e d c;refine getD_set_true<|h j m f ?_ e d c;rwa[getD_set_ne bK<|Ne.symm b]at l
def qN.none(n:Nat):qN md ops<|Array.replicate n bK:=fun j c b a=>by
 simp only[Zj,Array.getElem?_replicate]at a;split at a<;>cases a
def Fh(md:Region.Mode)(ops:Array aD)(oz:aD)(i:Nat):Prop:=∃e∈oz.after,Region.binds md e=bL/\(e.on=i\/∃oj,ops[e.on]?=bO oj/\∃e'∈oj.after,Region.binds md e'=bL/\e'.on=i)
def zvi{z:Nat}{oz:aD}{i:Nat}{oi:aD}{v:Zv}(hz:ops[z]?=bO oz)(V:Fh md ops oz i)(S:ops[i]?=bO oi)(s:∀(j:Nat) (o:aD) cs b,ops[j]?=bO o->o.op≠ .select cs b):
  ∀(fuel:Nat) (listed:Array Bool) (a:Act),qN md ops listed->
   (∀j oj,ops[j]?=bO oj->j≠i->listed.getD j bL=bK->(∀e∈oj.after,Region.binds md e=bL->e.on≠i)->oi.apart ops oj=bL)->
   i∈Region.ready md ops listed->YieldsIn P ops C oi v a->
   LY P md ops C z Q fuel (listed.setIfInBounds i bL) (a.put oi.dst v)->LY P md ops C z Q (fuel+1) listed a:=by
 intro fuel;have Y:∀(listed:Array Bool),i∈Region.ready md ops listed->¬listed.getD i bK=bL:=fun listed f d=>by
  have B:=(mem_ready.1 f).1;rcases Vi i listed.size with t|t
  simp[t]at B d;rw[B]at d;cases d;simp[ju t]at d
 have g:∀(listed:Array Bool),qN md ops listed->i∈Region.ready md ops listed->z∉Region.ready md ops listed:=fun listed w f W=>by
  obtain⟨e,N,L,x⟩:=V;obtain⟨_,ba,r,l⟩:=mem_ready.1 W;rw[hz]at r;cases r;have d:=l e N L;rcases x with x|⟨oj,n,e',O,M,F⟩
  rw[x]at d;exact Y _ f d;have J:=w _ oj n d e' O M;rw[F]at J;exact Y _ f J
 induction fuel with
 |zero=>
  intro listed a w _ f K H;refine⟨fun h=>(by rw[h]at f;cases f),g listed w f,fun j y=>?_⟩;by_cases c:j=i;subst c;exact K.qOp S H;have:=ready_mono y c;rw[H.1]at this;simp only[jp]at this;subst this;exact absurd y<|g _ w f
 |succ fuel ih=>
  intro listed a w m f K H;refine⟨fun h=>(by rw[h]at f;cases f),g listed w f,fun j y=>?_⟩;by_cases c:j=i;subst c;exact K.qOp S H;have d:=H.2.2 j<|ready_mono y c;obtain⟨q,oj,n,l⟩:=mem_ready.1 y;have E:∀e∈oj.after,Region.binds md e=bL->e.on≠i:=fun e N L R=>by
   have d:=l e N L;have B:=(mem_ready.1 f).1;rw[R]at d;rcases Vi i listed.size with t|t
   simp[t]at B d;rw[B]at d;cases d;simp[ju t]at d
  have J:=qOp_put n (m j oj n c q E) (fun cs b=>s i oi cs b S) (fun cs b=>s j oj cs b n) K d;have p:∀k I,ops[k]?=bO I->k≠i->(listed.setIfInBounds j bL).getD k bL=bK->
    (∀e∈I.after,Region.binds md e=bL->e.on≠i)->oi.apart ops I=bL:=fun k I hk T G U=>by
   refine m k I hk T ?_ U;by_cases D:j=k;subst D;exact q;rw[getD_set_ne bL D]at G;exact G
  refine qOp_mono (fun Z X=>ih (listed.setIfInBounds j bL) Z (w.set y) p (ready_mono f<|Ne.symm c) X.1 ?_) J;rw[Array.setIfInBounds_comm _ _ c];exact X.2
def ML(md:Region.Mode)(ops:Array aD)(z:Nat)(oz:aD):Nat->Nat->Array Bool->Bool
 |0,_,listed=>(Region.ready md ops listed==[z])&&(Region.ready md ops<|listed.setIfInBounds z bL).isEmpty
 |fuel+1,k,listed=>(Region.ready md ops listed).contains k&&Region.free md ops listed k&&(oz.after.any fun e=>Region.binds md e&&(e.on==k||(match ops[e.on]?with|some oj=>oj.after.any (fun e'=>Region.binds md e'&&e'.on==k)|none=>bK)))&&ML md ops z oz fuel (k+1) (listed.setIfInBounds k bL)
def iG:List aD->List aD
 |[]=>[]
 |[_]=>[]
 |x::y::l=>x::iG (y::l)
def Og:∀(l:List aD) (o:aD),iG (l++[o])=l
 |[],o=>rfl
 |[x],o=>rfl
 |x::y::l,o=>by
  show x::iG (y::l++[o])=_;rw[Og (y::l) o]
def XE(ops:Array aD):Bool:=match ops.back? with
 |none=>bK
 |some oz=>Region.noSelect ops&&ML .any ops (ops.size-1) oz (ops.size-1) 0 (Array.replicate ops.size bK)
def Px{z:Nat}{oz:aD}(s:ops[z]?=bO oz)(q:Region.noSelect ops=bL):∀(l:List aD) (k:Nat) (listed:Array Bool) (a:Act),qN md ops listed->(∀j,j<l.length->l[j]?=ops[k+j]?)->
  ML md ops z oz l.length k listed=bL->wpQuiet P ops C Q l a->LY P md ops C z Q l.length listed a
 |[],_,_,_,_,_,hB,h=>by
  simp only[jn,ML,xl,Ju,List.isEmpty_iff]at hB;exact⟨hB.1,hB.2,h⟩
 |o::l,k,listed,a,hc,hl,hB,h=>by
  have c:ops[k]?=bO o:=by simpa using(hl 0<|by simp).symm
  simp only[zh,ML,xl]at hB;obtain⟨⟨⟨p,y⟩,r⟩,g⟩:=hB;have m:qOp P ops C k (wpQuiet P ops C Q l) a:=by unfold qOp;simp only[c];exact h
  obtain⟨v,D,w⟩:=yieldsIn_of_qOp c m;have n:Fh md ops oz k:=by
   rw[Array.any_eq_true']at r;obtain⟨e,x,d⟩:=r;simp only[xl,Yk,Ju]at d;refine⟨e,x,d.1,d.2.imp id fun b=>?_⟩;cases hq:ops[e.on]?with
   |none=>rw[hq]at b;cases b
   |some oj=>
    rw[hq]at b;dsimp only at b;rw[Array.any_eq_true']at b;obtain⟨t,i,f⟩:=b;simp only[xl,Ju]at f;exact⟨oj,rfl,t,i,f.1,f.2⟩
  exact zvi s n c (Region.noSelect_spec q) _ _ a hc (Region.free_spec c y) (by simpa using p) D
   (Px s q l _ _ _ (hc.set<|by simpa using p) (fun j B=>by have:=hl (j+1) (by simpa using B);simpa[Ja,zW 1 j]using this) g w)
def zqz{id:Nat}{Q:Exit->Act->Zy->Prop}{a:Act}{w:Zy}{l:List aD}{z:aD}(n:P.follows .mixedOrders=bL)(d:ops=(l++[z]).toArray)(b:XE ops=bL)(g:C {w with drawn:=w.drawn+1})(k:z.guard=bN)
  (h:wpQuiet P ops C (fun a'=>∀w',C w'->z.wp P a' w' (fun a w=>Q .normal a w) Q) l a):(Code.region id ops bL).wp P Q a w:=by
 have i:ops.back?=bO z:=by rw[d];simp
 have c:ops.size=l.length+1:=by rw[d];simp
 have e:ops[l.length]?=bO z:=by rw[d];simp
 unfold XE at b;rw[i]at b;simp only[xl,c,Nat.add_sub_cancel]at b;refine wp_region_any n ?_;rw[c];refine La (z:=l.length) (Q:=fun a'=>∀w',C w'->z.wp P a' w' (fun a w=>Q .normal a w) Q) (C:=C) (fun a' w' o f=>?_) l.length _ a _ g ?_;unfold wpOp;rw[e];simp only[Region.wanted,k,if_true];exact .inl<|f w' o;exact Px e b.1 l 0 _ a (qN.none _) (fun j m=>by rw[d];simp[Z2 m]) b.2 h
def gU{id:Nat}{Q:Exit->Act->Zy->Prop}{a:Act}{w:Zy}{l:List aD}{z:aD}(e:P.follows .mixedOrders=bL)(b:l.getLast?=bO z)(c:XE l.toArray=bL)(d:z.guard=bN)
  (h:wpQuiet P l.toArray (fun w'=>∃n,w'=w.drewN n) (fun a'=>∀w',(∃n,w'=w.drewN n)->z.wp P a' w' (fun a w=>Q .normal a w) Q) (iG l) a):(Code.region id l.toArray bL).wp P Q a w:=by
 obtain⟨k,rfl⟩:∃k,l=k++[z]:=by
  rw[List.getLast?_eq_some_iff]at b;exact b
 rw[Og]at h;exact zqz e rfl c ⟨1,rfl⟩ d h
end
end
end A
namespace P
open A.Tryq Go.RowKit
attribute [local go_sem] xe zv
def UI(r:Sr)(s:Jo)(n:Nat):Za:=#[.int .i64 (s.ep:Int),.int .i64 (r.op:Int),.int .i64 (r.cnt:Int),.int .i64 s.bP,.int .i64 s.last,.int .i64 (Ye s.named:Int),.int .i64 (n:Int),.string ⟨#[]⟩,.string<|st r.mark]
def xnk(B:Nat)(r:Sr)(s:Jo)(n:Nat)(w:Zy)(h:Jq w B r)(p:r.sn=bO s):bE prog 113 #[zo B,zi n] w fun e w'=>e= .returned (.agg<|UI r s n)/\bC w.heap.size w w':=by
 have k:=(h.bU s p).1;have v:w.cell? (zq B 7)=bO (zo s.S):=(h.blk.cell 7 rfl).trans (by simp[Sr.cells,Sr.iJ,p]);have f:w.cell? (zq B 4)=bO (zi r.cnt):=h.blk.cell 4 rfl;have c5:w.cell? (zq B 5)=bO (zs r.mark):=h.blk.cell 5 rfl;have g:w.cell? (zq B 6)=bO (zi r.op):=h.blk.cell 6 rfl;have i:w.cell? (zq s.S 2)=bO (zi s.ep):=k.blk.cell 2 rfl;have j:w.cell? (zq s.S 4)=bO (zi s.last):=k.blk.cell 4 rfl;have l:w.cell? (zq s.S 5)=bO (zi s.named):=k.blk.cell 5 rfl;have m:w.cell? (zq s.S 6)=bO (zi s.bP):=k.blk.cell 6 rfl;have o:=h.blk.lt;have c:=k.blk.lt;clear h p k;go_enter func113.1,Tryz.ntmps113
 go_wp2_with fail
 have b:Hid<|bC w.heap.size w<|w.alloc<|.cells #[zi 0,zi 0,zi 0,zi 0,zi 0,zi 0,zi 0,.string ⟨#[]⟩,.string ⟨#[]⟩] 185:=(zr _ _).alloc (ze _) _;have a:Hid<|xx (w.alloc<|.cells #[zi 0,zi 0,zi 0,zi 0,zi 0,zi 0,zi 0,.string ⟨#[]⟩,.string ⟨#[]⟩] 185) w.heap.size #[zi 0,zi 0,zi 0,zi 0,zi 0,zi 0,zi 0,.string ⟨#[]⟩,.string ⟨#[]⟩] 185:=xx.new _ _ _;generalize w.alloc (.cells #[zi 0,zi 0,zi 0,zi 0,zi 0,zi 0,zi 0,.string ⟨#[]⟩,.string ⟨#[]⟩] 185)=W at*;replace f:=(b.o.cell o).trans f;replace c5:=(b.o.cell o).trans c5;replace g:=(b.o.cell o).trans g;replace i:=(b.o.cell c).trans i;replace j:=(b.o.cell c).trans j;replace l:=(b.o.cell c).trans l;replace m:=(b.o.cell c).trans m;clear v;refine A.gU (by kernel_rfl) rfl (by kernel_rfl) rfl ?_;simp only[A.iG]
 repeat (go_big_quiet_step ((go_at_call 174;refine Calls.quiet_of_same<|Ha _ _)))
 refine wpQuiet_nil ?_;intro w1 q;obtain⟨t,rfl⟩:=q;have x:W.cell? (zq w.heap.size 0)=bO ((zi 0)):=a.o.cell 0 rfl;have J:=a.o.bT 0;have y:W.cell? (zq w.heap.size 1)=bO ((zi 0)):=a.o.cell 1 rfl;have K:=a.o.bT 1;have z:W.cell? (zq w.heap.size 2)=bO ((zi 0)):=a.o.cell 2 rfl;have L:=a.o.bT 2;have C:W.cell? (zq w.heap.size 3)=bO ((zi 0)):=a.o.cell 3 rfl;have M:=a.o.bT 3;have D:W.cell? (zq w.heap.size 4)=bO ((zi 0)):=a.o.cell 4 rfl;have O:=a.o.bT 4;have E:W.cell? (zq w.heap.size 5)=bO ((zi 0)):=a.o.cell 5 rfl;have Q:=a.o.bT 5;have F:W.cell? (zq w.heap.size 6)=bO ((zi 0)):=a.o.cell 6 rfl;have R:=a.o.bT 6;have G:W.cell? (zq w.heap.size 7)=bO ((.string ⟨#[]⟩)):=a.o.cell 7 rfl;have T:=a.o.bT 7;have H:W.cell? (zq w.heap.size 8)=bO ((.string ⟨#[]⟩)):=a.o.cell 8 rfl;have U:=a.o.bT 8;clear f c5 g i j l m
 go_wp2_with fail
 have d:Hid<|bC w.heap.size w<|(((((((((W.drewN t).setCell (zq w.heap.size 0)<|zi s.ep).setCell (zq w.heap.size 1)<|zi r.op).setCell (zq w.heap.size 2)<|zi r.cnt).setCell (zq w.heap.size 3)<|zi s.bP).setCell (zq w.heap.size 4)<|zi s.last).setCell (zq w.heap.size 5)<|zi<|Ye s.named).setCell (zq w.heap.size 6)<|zi n).setCell (zq w.heap.size 7)<|.string ⟨#[]⟩).setCell (zq w.heap.size 8)<|zs r.mark:=by
  have I:bC w.heap.size w<|W.drewN t:=⟨b.o.os,b.o.tape,b.o.output,b.o.size,b.o.block⟩;exact((((((((I.setCell (ze _) _).setCell (ze _) _).setCell (ze _) _).setCell (ze _) _).setCell (ze _) _).setCell (ze _) _).setCell (ze _) _).setCell (ze _) _).setCell (ze _) _
 refine jz (by simp[results,Tryz.results113,go_sem,UI,x,y,z,C,D,E,F,G,H]) rfl ⟨rfl,d.o⟩
def o5:∀(xs:List Zl),Lib.join xs []=xs.flatten
 |[]=>rfl
 |[x]=>by simp[Lib.join]
 |x::y::xs=>by
  have:=o5 (y::xs);simp only[Lib.join,Wu,jk]at*;simp[this]
def Ba{base:Nat}(xs:List Zl)(v:Zv)(o:xs.length<=1000000)(c:xs.flatten.length<=140737488355328)(w:Zy)(h:w.ownsRow base 9 1 v xs.length<|xs.map iU):
  bE prog 119 #[v,.string ⟨#[]⟩] w fun e w'=>e= .returned (zs xs.flatten)/\bC w.heap.size w w':=by
 have a:(xs.map st).map (·.data.toList)=xs:=by simp[uP,PS,st]
 rcases QS (f:=iU) (fun _=>rfl) h with⟨rfl,rfl⟩|⟨g,cap,rfl,hcap,hg,hr⟩;exact(Any.strings_Join_none mV dW bN 0 _ w).mono fun e w' ⟨b,d⟩=>⟨b,d▸zr _ _⟩;have i:g<w.heap.size:=by obtain⟨l,b,_⟩:=hr;exact(za.1 b).1
 have:=Any.strings_Join mV dW g 0 cap _ ⟨#[]⟩ w (fun j x k=>by
  rw[List.getElem?_map,zt]at k;obtain⟨y,n,rfl⟩:=k;obtain⟨m,rfl⟩:=XR.1 n;rw[jy];exact hr.cell j m) i (by rw[Zb];omega) (by rw[Zb];exact hcap)<|by rw[a];show(Lib.join xs []).length<=_;rw[o5];exact c
 rw[a,Zb]at this;refine this.mono fun e w' ⟨b,d⟩=>⟨b.trans ?_,d⟩;show Ending.returned (.string ⟨(Lib.join xs []).toArray⟩)=_;rw[o5];rfl
def Tp{base:Nat}(xs:List Zl)(v:Zv)(c:xs.length<=256)(hx:∀x∈xs,x.length<=4095)(w:Zy)(a:dF w)(h:w.ownsRow base 9 1 v xs.length<|xs.map iU):
  bE prog 117 #[v] w fun e w'=>e= .returned (.tuple #[zs<|J7 xs,zi 0])/\bC w.heap.size w w':=by
 rcases QS (f:=iU) (fun _=>rfl) h with⟨rfl,rfl⟩|⟨g,cap,rfl,hcap,hg,hr⟩;exact Tq bN 0 w a;by_cases b:xs=[];subst b;exact Tq _ cap w a;exact Se xs (qb.2 b) c hx g 0 cap w a fun j d=>by rw[jy];exact hr.cell j d
def DU(l:Zl):(∀y∈Yq l,y.length<=64)/\(Yq l).length*64<=l.length+63/\(Yq l).flatten=l:=by
 generalize hn:l.length=n;induction n using Nat.strongRecOn generalizing l with
 |_ n ih=>
  by_cases h:l=[];subst h;simp[RD];have e:=qb.2 h;rw[DY h];obtain⟨b,c,d⟩:=ih (l.drop 64).length (by rw[jb];omega) (l.drop 64) rfl;refine⟨fun y a=>?_, ?_, ?_⟩;rcases xf.1 a with rfl|a
  simp;omega;exact b y a;rw[jb]at c;simp only[zh];omega;rw[Wu,d,PW]
def Rb{m:Mf}{ck:Zl}{xs:List Zl}{k:Nat}(h:∀y∈xs,y.length<=k):∀y∈J8 m ck xs,y.length<=k:=by
 intro y a;unfold J8 at a;rw[List.mem_mapIdx]at a;obtain⟨i,b,rfl⟩:=a;rw[yJ];exact h _<|Zn b
def zub{k:Nat}:∀{xs:List Zl},(∀y∈xs,y.length<=k)->xs.flatten.length<=k*xs.length
 |[],_=>by simp
 |x::xs,h=>by
  have b:=h x jo;have c:=zub fun y a=>h y<|xj _ a;simp only[Wu,zj,zh,Nat.mul_add];omega
def jt.fresh{B b:Nat}{r0 r:Sr}{w0 w w':Zy}(h:jt B r0 w0 r w)(a:w0.heap.size<=b)(ho:¬r.own B b)(k:xb (·=b) w w'):jt B r0 w0 r w':=
 ⟨xb.fresh h.but a k,h.at_.but k fun x c e=>ho<|by have e:=e;rw[<-e];exact c,h.own⟩
def fV.bP{B:Nat}{r:Sr}{s:Jo}(h:fV B r)(b:r.sn=bO s)(k:Int):fV B {r with sn:=bO {s with bP:=k}} where
 m:=h.m
 mark:=h.mark
 cnt:=h.cnt
 op:=h.op
 room:=h.room
 files:=h.files
 few:=h.few
 nx:=h.nx
 own:=fun x a=>h.own x (by
  rcases a with e|e|⟨t,e,a⟩;exact .inl e;exact .inr<|.inl e;cases e;exact .inr<|.inr ⟨s,b,a⟩)
 bU:=fun t c=>by cases c;exact h.bU s b
def xri{cv:Zv}{B:Nat}{r:Sr}{f:FuncId}{args:Za}{x:Bool×Dk}{w:Zy}(h:bE prog f args w<|UE cv B r x w):
  bE prog f args w fun e w'=>(e= .returned (.tuple #[])/\x.1=bL/\jt B r w {r with d:=x.2} w')\/(e=eF cv/\x.1=bK/\jt B r w {r with d:=x.2} w'):=
 h.mono fun e w' ⟨a,b⟩=>by
  cases hx:x.1 with
  |true=>rw[hx,aA rfl]at a;exact .inl ⟨a,rfl,b⟩
  |false=>rw[hx,aB<|by simp]at a;exact .inr ⟨a,rfl,b⟩
def YR(m:Mf)(c:Zl)(b:m.root.length=32)(a:m.last.length=32):(m.bS c).length=116:=by
 simp[Mf.bS,Mf.text,qt,b,a,wP]
def RK{B:Nat}{r:Sr}{s:Jo}{k:Int}(b:r.sn=bO s){x:Nat}:({r with sn:=bO {s with bP:=k}}:Sr).own B x↔r.own B x:=by
 constructor;rintro(e|e|⟨t,e,a⟩);exact .inl e;exact .inr<|.inl e;cases e;exact .inr<|.inr ⟨s,b,a⟩;rintro(e|e|⟨t,e,a⟩);exact .inl e;exact .inr<|.inl e;rw[b]at e;cases e;exact .inr<|.inr ⟨_,rfl,a⟩
end P
end Go.Proofs.YtjnbhiamaabbgaaGreatDoor
