import Derived.Test.YtjnbhiamaabbgaaGreatDoorM7
set_option linter.all false
set_option maxRecDepth 100000
set_option maxHeartbeats 8000000
namespace Go.Proofs.YtjnbhiamaabbgaaGreatDoor
open Bool renaming false->bK,true->bL
open Go renaming Calls->bE
open Option renaming none->bN,some->bO
open _root_.List renaming replicate->aM
namespace P
open A.Tryq Go.RowKit
attribute [local go_sem] xe zv
def nN(m:Mf)(L:Ym):Option Zl:=if 0<m.len then(if m.len<=16384 then(if m.file=10001\/m.file=10002 then bO (qu L m.file)else bN)else bN)else bO []
def sU(m:Mf)(ck b:Zl):Option KV:=if b.length=m.len then(if m.root=J7 (Yq b)then rH (J8 m ck<|Yq b).flatten else bN)else bN
def Y6(m:Mf)(L:Ym)(ck:Zl):Option KV:=(nN m L).bind<|sU m ck
def KJ(tv:Zv)(x:Option KV)(w:Zy)(e:Ending)(w':Zy):Prop:=
 Nw w w'/\(match x with|some L=>∃m,e= .returned (.map<|bO m)/\w.heap.size<=m/\Xd w' m L|none=>e=eF tv)
def Wj{tv:Zv}{x:Option KV}{w w':Zy}(h:x=bN)(a:Nw w w'):KJ tv x w (eF tv) w':=by
 subst h;exact⟨a,rfl⟩
def zyq{tv:Zv}(m:Mf)(D:Nat)(d:Dk)(a r:Zl)(bk:a.length=16)(bx:m.len<=100000000000)(w:Zy)(h:Xg w D d)(hG:Wh tv w)(hT:dF w):
  bE prog 163 #[m.V,zo D,.agg #[zs a,zs r]] w (KJ tv (Y6 m d.L a) w):=by
 have HD:Hid<|Xg w D d:=h;have HG:Hid<|Wh tv w:=hG;have HT:Hid<|dF w:=hT;have bs:Hid<|a.length=16:=bk;have bm:=hT.pos;have M:Hid<|Nw w<|(w.alloc<|.cells m.cells 185).alloc<|.cells #[zs a,zs r] 120:=(xb.alloc _).trans<|xb.alloc _;have BM:Hid<|xx ((w.alloc<|.cells m.cells 185).alloc<|.cells #[zs a,zs r] 120) w.heap.size m.cells 185:=(xx.new w _ 185).alloc _;have BK:Hid<|xx ((w.alloc<|.cells m.cells 185).alloc<|.cells #[zs a,zs r] 120) (w.heap.size+1) #[zs a,zs r] 120:=by
  have:=xx.new (w.alloc<|.cells m.cells 185) #[zs a,zs r] 120;rw[xh]at this;exact this
 have s:Hid<|Y6 m d.L a=(nN m d.L).bind (sU m a):=rfl;clear h hG hT bk;unfold Mf.V;unfold Mf.cells at*;go_enter func163.1,Tryz.ntmps163;have G1:Hid<|Wh tv<|(w.alloc<|.cells #[zi m.ep,zi m.op,zi m.cnt,zi m.bP,zi m.base,zi m.file,zi m.len,zs m.root,zs m.last] 185).alloc<|.cells #[zs a,zs r] 120:=HG.o.but M.o id;by_cases h0:0<m.len;rotate_left
 focus
  have i0:¬(0:Int)<(m.len:Int):=by omega
  have v:Hid<|m.len<=16384:=by show _<=_;omega
  have n:Hid<|nN m d.L=bO []:=by show _=_;unfold nN;rw[aB h0]
  go_wp2_with fail
  generalize(w.alloc<|.cells #[zi m.ep,zi m.op,zi m.cnt,zi m.bP,zi m.base,zi m.file,zi m.len,zs m.root,zs m.last] 185).alloc (.cells #[zs a,zs r] 120)=w1 at*;refine(AQ _ _ G1.o).mono ?_;rintro e R ⟨l,p⟩;obtain rfl:w1=R:=l.symm;rcases p with⟨rfl,k⟩|⟨rfl,k⟩
  rotate_left;exact⟨rfl,Wj (by rw[s.o,n.o];show sU m a _=bN;unfold sU;rw[aB<|by have:=k.o;simp at this;(try simp);omega]) M.o⟩;have E:(([]:Zl)).length=m.len:=by have:=k.o;simp at this;(try simp);omega
  have t:Hid<|(([]:Zl)).length=m.len:=E;have H:Hid<|Y6 m d.L a=if m.root=J7 (Yq<|([]:Zl))then rH (J8 m a<|Yq<|([]:Zl)).flatten else bN:=by
   show _=_;rw[s.o,n.o];show sU m a _=_;unfold sU;rw[aA t.o]
  have C:(([]:Zl)).length<=16384:=by have:=v.o;omega
  clear k
  go_wp2_with fail
  refine(B_ _ (by omega) _).mono ?_;rintro e f ⟨v4,rfl,g,c⟩;have N4:Hid<|Nw w f:=M.o.trans c;have G:Hid<|xx f w.heap.size #[zi m.ep,zi m.op,zi m.cnt,zi m.bP,zi m.base,zi m.file,zi m.len,zs m.root,zs m.last] 185:=BM.o.but c id;have T:Hid<|xx f (w.heap.size+1) #[zs a,zs r] 120:=BK.o.but c id;have O4:Hid<|f.ownsRow w1.heap.size 9 1 v4 (Yq<|([]:Zl)).length<|(Yq<|([]:Zl)).map iU:=g;have G4:Hid<|Wh tv f:=G1.o.but c id;have T4:Hid<|dF f:=HT.o.but N4.o id;have bo:w1.heap.size<=f.heap.size:=c.size;obtain⟨z,Z,ba⟩:=DU<|([]:Zl);have o:Hid<|(∀y∈Yq (([]:Zl)),y.length<=64)/\(Yq<|([]:Zl)).length<=256:=⟨z,by omega⟩;generalize Yq (([]:Zl))=ps at*;clear z Z ba g c t E C
 rotate_left
 focus
  have i0:(0:Int)<(m.len:Int):=by omega
  go_wp2_with fail
  generalize(w.alloc<|.cells #[zi m.ep,zi m.op,zi m.cnt,zi m.bP,zi m.base,zi m.file,zi m.len,zs m.root,zs m.last] 185).alloc (.cells #[zs a,zs r] 120)=w1 at*;refine(AQ _ _ G1.o).mono ?_;rintro e w2 ⟨bt,p⟩;obtain rfl:w1=w2:=bt.symm;rcases p with⟨rfl,k⟩|⟨rfl,k⟩
  rotate_left;exact⟨rfl,Wj (by rw[s.o];unfold nN;rw[aA h0,aB<|by have:=k.o;simp at this;omega];rfl) M.o⟩;have B:m.len<=16384:=by have:=k.o;simp at this;omega
  have v:Hid<|m.len<=16384:=B;have e6:w1.cell? (zq w.heap.size 6)=bO (zi m.len):=BM.o.cell 6 rfl;have e5:w1.cell? (zq w.heap.size 5)=bO (zi m.file):=BM.o.cell 5 rfl;have bc:Hid<|Xg w1 D d:=HD.o.but M.o fun _ _=>id;clear k;by_cases h2:m.file=10001;rotate_left
  focus
   by_cases h3:m.file=10002;rotate_left
   ·have j1:((m.file:Int)==10001)=bK:=by simp;omega
    have j2:((m.file:Int)==10002)=bK:=by simp;omega
    have br:Hid<|Y6 m d.L a=bN:=by show _=_;rw[s.o];unfold nN;rw[aA h0,aA B,aB<|by omega];rfl
    go_wp2_with fail
    refine(Ll _ G1.o).mono ?_;rintro e R ⟨rfl,l⟩;obtain rfl:=l;exact⟨rfl,Wj br.o M.o⟩
   clear i0;have n:Hid<|nN m d.L=bO (qu d.L m.file):=by show _=_;unfold nN;rw[aA h0,aA B,aA<|.inr h3]
   have j1:(m.file:Int)=10002:=by omega
   rw[j1]at e5 n
   go_wp2_with fail
   refine(YN _).mono ?_;rintro e R ⟨rfl,l⟩;obtain rfl:w1=R:=l.symm
   go_wp2_with fail
   refine(AV D d 10002 _ bc.o).mono ?_;rintro e f ⟨rfl,bb⟩;obtain rfl:w1=f:=bb.symm;have bi:=e6;generalize qu d.L 10002=b at*
  rotate_left
  focus
   clear i0;have n:Hid<|nN m d.L=bO (qu d.L m.file):=by show _=_;unfold nN;rw[aA h0,aA B,aA<|.inl h2]
   have j1:(m.file:Int)=10001:=by omega
   rw[j1]at e5 n
   go_wp2_with fail
   refine(YN _).mono ?_;rintro e R ⟨rfl,l⟩;obtain rfl:w1=R:=l.symm
   go_wp2_with fail
   refine(AV D d 10001 _ bc.o).mono ?_;rintro e f ⟨rfl,bb⟩;obtain rfl:w1=f:=bb.symm;have bi:=e6;generalize qu d.L 10001=b at*
  all_goals
   go_wp2_with fail
   refine(AQ _ _ G1.o).mono ?_;rintro e R ⟨l,p⟩;obtain rfl:w1=R:=l.symm;rcases p with⟨rfl,k⟩|⟨rfl,k⟩
   rotate_left;exact⟨rfl,Wj (by rw[s.o,n.o];show sU m a _=bN;unfold sU;rw[aB<|by have:=k.o;simp at this;(try simp);omega]) M.o⟩;have E:(b).length=m.len:=by have:=k.o;simp at this;(try simp);omega
   have t:Hid<|(b).length=m.len:=E;have H:Hid<|Y6 m d.L a=if m.root=J7 (Yq<|b)then rH (J8 m a<|Yq<|b).flatten else bN:=by
    show _=_;rw[s.o,n.o];show sU m a _=_;unfold sU;rw[aA t.o]
   have C:(b).length<=16384:=by have:=v.o;omega
   clear k
   go_wp2_with fail
   refine(B_ (b) (by omega) _).mono ?_;rintro e f ⟨v4,rfl,g,c⟩;have N4:Hid<|Nw w f:=M.o.trans c;have G:Hid<|xx f w.heap.size #[zi m.ep,zi m.op,zi m.cnt,zi m.bP,zi m.base,zi m.file,zi m.len,zs m.root,zs m.last] 185:=BM.o.but c id;have T:Hid<|xx f (w.heap.size+1) #[zs a,zs r] 120:=BK.o.but c id;have O4:Hid<|f.ownsRow w1.heap.size 9 1 v4 (Yq<|b).length<|(Yq<|b).map iU:=g;have G4:Hid<|Wh tv f:=G1.o.but c id;have T4:Hid<|dF f:=HT.o.but N4.o id;have bo:w1.heap.size<=f.heap.size:=c.size;obtain⟨z,Z,ba⟩:=DU<|b;have o:Hid<|(∀y∈Yq (b),y.length<=64)/\(Yq<|b).length<=256:=⟨z,by omega⟩;generalize Yq (b)=ps at*;clear z Z ba g c t E C
 all_goals
  have X:Hid<|∀w1,Nw f w1->w1.cell? (zq w.heap.size 7)=bO (zs m.root):=fun w1 hh=>(G.o.but hh id).cell 7 rfl;have S0:=X.o f<|xb.refl _ _;have bg:Hid<|f.drew.ownsRow w1.heap.size 9 1 v4 ps.length<|ps.map iU:=O4.o;have bh:Hid<|dF f.drew:=T4.o;have NN:Hid<|Nw f f.drew:=(xb.refl _ _).drew
  go_wp2_with fail
  go_region_held2 (fun w'=>w'.cell? (zq w.heap.size 7)=bO (zs m.root)) (first|exact S0|exact S1)
   (first
    |(go_at_call 117;refine(Tp ps v4 o.o.2 (fun y hy=>by have:=o.o.1 y hy;omega) _ bh.o bg.o).mono ?_;rintro e j ⟨rfl,bj⟩;have O:Hid<|Nw f j:=NN.o.trans<|xb.of_below bj;have S1:=X.o _ O.o;have G5:Hid<|Wh tv j:=G4.o.but O.o id)
    |(go_at_call 116;refine(KQ _ _).mono ?_;rintro e w6 ⟨rfl,bu⟩;obtain rfl:j=w6:=bu.symm)
    |(go_at_call 164;refine(AQ _ _ G5.o).mono ?_;rintro e w7 ⟨bv,p⟩;obtain rfl:j=w7:=bv.symm;rcases p with⟨rfl,k⟩|⟨rfl,k⟩;rotate_left;(exact⟨rfl,Wj (by rw[H.o,aB<|by have B:=k.o;rw[Xy,xo,xo]at B;exact B])<|N4.o.trans O.o⟩);have bd:Hid<|m.root=J7 ps:=by have B:=k.o;rw[Ju,xo,xo]at B;exact B))
  have Y:Hid<|Nw w j:=N4.o.trans O.o;have i:Hid<|xx j w.heap.size #[zi m.ep,zi m.op,zi m.cnt,zi m.bP,zi m.base,zi m.file,zi m.len,zs m.root,zs m.last] 185:=G.o.but O.o id;have U:Hid<|xx j (w.heap.size+1) #[zs a,zs r] 120:=T.o.but O.o id;have O5:Hid<|j.ownsRow w1.heap.size 9 1 v4 ps.length<|ps.map iU:=yU O4.o O.o fun _ _ x=>x;have z0:j.cell? (zq w.heap.size 0)=bO (zi m.ep):=i.o.cell 0 rfl;have z1:j.cell? (zq w.heap.size 1)=bO (zi m.op):=i.o.cell 1 rfl;have z2:j.cell? (zq w.heap.size 2)=bO (zi m.cnt):=i.o.cell 2 rfl;have z3:j.cell? (zq w.heap.size 3)=bO (zi m.bP):=i.o.cell 3 rfl;have z4:j.cell? (zq w.heap.size 4)=bO (zi m.base):=i.o.cell 4 rfl;have z5:j.cell? (zq w.heap.size 5)=bO (zi m.file):=i.o.cell 5 rfl;have z6:j.cell? (zq w.heap.size 6)=bO (zi m.len):=i.o.cell 6 rfl;have z7:j.cell? (zq w.heap.size 7)=bO (zs m.root):=i.o.cell 7 rfl;have z8:j.cell? (zq w.heap.size 8)=bO (zs m.last):=i.o.cell 8 rfl;have y0:j.cell? (zq (w.heap.size+1) 0)=bO (zs a):=U.o.cell 0 rfl;have y1:j.cell? (zq (w.heap.size+1) 1)=bO (zs r):=U.o.cell 1 rfl;have be:Hid<|Y6 m d.L a=rH (J8 m a ps).flatten:=by show _=_;rw[H.o,aA bd.o]
  have bp:4<j.heap.size:=zn bm Y.o.size
  try clear j1
  try clear h3
  try clear h2
  try clear B
  try clear i0
  try clear h0
  try clear e5
  try clear e6
  try clear bi
  clear S0 S1 X NN N4 O G T O4 bg T4 bh G4 i U bj H bd k
  try clear hHeld
  go_wp2_with fail
  refine(Pb m ps v4 a r bs.o (fun y hy=>by have:=o.o.1 y hy;omega) (by have:=o.o.2;omega) _<|Ul O5.o).mono ?_;rintro e w8 ⟨v8,rfl,F,J⟩;have O8:Hid<|w8.ownsRow j.heap.size 9 1 v8 (J8 m a ps).length<|(J8 m a ps).map iU:=by show World.ownsRow _ _ _ _ _ _ _;rw[zZ];exact F
  have N8:Hid<|Nw w w8:=Y.o.trans J;have G8:Hid<|Wh tv w8:=G5.o.but J id;have W:Hid<|(∀y∈J8 m a ps,y.length<=64)/\(J8 m a ps).length<=256:=⟨Rb o.o.1,by rw[zZ];exact o.o.2⟩;have bw:4<w8.heap.size:=zn bp J.size;clear F J z0 z1 z2 z3 z4 z5 z6 z7 z8 y0 y1 Y O5 G5;generalize J8 m a ps=qs at*
  go_wp2_with fail
  refine(Ba qs v8 (by have:=W.o.2;omega) (by have:=zub W.o.1;have:=W.o.2;omega) _ O8.o).mono ?_;rintro e w9 ⟨rfl,I⟩;have N9:Hid<|Nw w w9:=N8.o.trans<|xb.of_below I;have G9:Hid<|Wh tv w9:=G8.o.but (S:=fun _=>False) (xb.of_below I) id;have bz:4<w9.heap.size:=zn bw I.size;clear I O8 N8 G8
  go_wp2_with fail
  refine(xF _ _ (by omega) G9.o).mono ?_;rintro e bq ⟨Q,q⟩;have bf:Hid<|Nw w bq:=N9.o.trans Q;cases hq:rH qs.flatten with
  |none=>
   rw[hq]at q;subst q;exact⟨rfl,Wj (by rw[be.o,hq]) bf.o⟩
  |some K=>
   rw[hq]at q;obtain⟨mm,rfl,bl,bn⟩:=q;have HF:Hid<|KJ tv (Y6 m d.L a) w (.returned<|.map<|bO mm) bq:=by
    show KJ _ _ _ _ _;rw[be.o,hq];exact⟨bf.o,mm,rfl,xz N9.o.size bl,bn⟩
   clear bl bn Q
   go_wp2_with fail
   go_ret
   exact HF.o
def Lk.begun(k:Lk)(m:Mf)(mp:Nat):Lk:={k with ep:=m.ep,mp:=mp,cnt:=m.cnt,tag:=m.last,base:=(m.base:Int),named:=(m.file:Int),dK:=if 0<m.len then(m.file:Int)else k.dK}
def vD(tv:Zv)(b:Nat)(k:Lk)(m:Mf)(x:Option KV)(w:Zy)(e:Ending)(w':Zy):Prop:=
 xb (·=b) w w'/\(match x with|some L=>e= .returned (.tuple #[])/\∃mp,w.heap.size<=mp/\Xd w' mp L/\Xa w' b (k.begun m mp)|none=>e=eF tv)
def B7{tv:Zv}(b:Nat)(k:Lk)(m:Mf)(D:Nat)(d:Dk)(hm:k.m.length=32)(bf:m.len<=100000000000)(w:Zy)(hb:Xa w b k)(h:Xg w D d)(bd:¬d.own D b)(br:4<b)(hG:Wh tv w)(hT:dF w):
  bE prog 104 #[zo b,m.V,zo D] w (vD tv b k m (Y6 m d.L<|Xz k.m m.ep) w):=by
 have HB:=zl hb;have HD:=zl h;have bg:=zl bd;have HG:=zl hG;have HT:=zl hT;have HM:=zl hm;have bk:=hT.pos;have bs:=xx.lt hb;have N0:Hid<|Nw w<|w.alloc<|.cells m.cells 185:=xb.alloc _;have BM:=zl<|xx.new w m.cells 185;clear hb h bd hG hT hm;unfold Mf.V;unfold Mf.cells at*;go_enter func104.1,Tryz.ntmps104
 go_wp2_with fail
 generalize w.alloc (.cells #[zi m.ep,zi m.op,zi m.cnt,zi m.bP,zi m.base,zi m.file,zi m.len,zs m.root,zs m.last] 185)=w1 at*;have B1:Hid<|Xa w1 b k:=xx.but HB.o N0.o id;have T1:=zl<|HT.o.but N0.o id;refine(JX b k HM.o m.ep _ B1.o T1.o).mono ?_;rintro e g ⟨rfl,K,be⟩;have G:=zl<|(N0.o.mono fun _ x=>x.elim).trans K;have L2:=zl be;have H:=zl (BM.o.but K<|by omega);have D2:=zl (HD.o.but G.o fun x hx e=>bg.o<|by have e:x=b:=e;rw[<-e];exact hx);have G2:=zl (HG.o.but G.o<|by omega);have T2:=zl (HT.o.but G.o<|by omega);clear K be B1 T1 BM N0 HB;obtain⟨c,z⟩:∃c,Xz k.m m.ep=c:=⟨_,rfl⟩;obtain⟨f,M⟩:∃f,Jm k.m m.ep=f:=⟨_,rfl⟩;have o:=zl z;have W:=zl M;have bh:Hid<|c.length=16:=by show _=_;rw[<-z];exact A9 _ _
 have s:Hid<|xx g b (Lk.cells {k with ep:=m.ep} c f) 122:=by
  have:=L2.o;unfold Xa at this;rw[show Xz ({k with ep:=m.ep}:Lk).m ({k with ep:=m.ep}:Lk).ep=c from z,show Jm ({k with ep:=m.ep}:Lk).m ({k with ep:=m.ep}:Lk).ep=f from M]at this;exact this
 clear z M L2;have I:Hid<|∀w1,Nw g w1->MC w.heap.size m m.root w1/\w1.cell? (zq b 6)=bO (zs c)/\w1.cell? (zq b 7)=bO (zs f):=fun w1 v=>by
  have B:=H.o.but v id;have k2:=s.o.but v id;exact⟨B.mc,k2.cell 6 rfl,k2.cell 7 rfl⟩
 have J:Hid<|∀w1,Nw g w1->w1.cell? (zq b 4)=bO (.map<|bO k.mp)/\w1.frozen? (zq b 4)=bK:=fun w1 v=>⟨(s.o.but v id).cell 4 rfl,(s.o.but v id).bT 4⟩;have U:Hid<|∀w1 mp,Nw g w1->MC w.heap.size m m.root (w1.setCell (zq b 4)<|.map<|bO mp)/\(w1.setCell (zq b 4)<|.map<|bO mp).cell? (zq b 6)=bO (zs c)/\(w1.setCell (zq b 4)<|.map<|bO mp).cell? (zq b 7)=bO (zs f):=fun w1 mp v=>by
  have B:=(H.o.but v id).other (p:=zq b 4) (by show w.heap.size≠b;omega)<|.map<|bO mp;have k2:=(s.o.but v id).set 4<|.map<|bO mp;exact⟨B.mc,k2.cell 6 rfl,k2.cell 7 rfl⟩
 have S0:=I.o g<|xb.refl _ _;have O:Hid<|Nw g g.drew:=(xb.refl _ _).drew;have R:Hid<|bE prog 163 #[.agg #[zi m.ep,zi m.op,zi m.cnt,zi m.bP,zi m.base,zi m.file,zi m.len,zs m.root,zs m.last],zo D,.agg #[zs c,zs f]] g.drew<|KJ tv (Y6 m d.L c) g.drew:=zyq m D d c f bh.o bf g.drew (D2.o.but O.o fun _ _=>id) (G2.o.but O.o id)<|T2.o.but O.o id;have Q:Hid<|bE prog 163 #[.agg #[zi m.ep,zi m.op,zi m.cnt,zi m.bP,zi m.base,zi m.file,zi m.len,zs m.root,zs m.last],zo D,.agg #[zs c,zs f]] g.drew fun e a=>(∃X mp,Hid (Y6 m d.L c=bO X)/\e= .returned (.map<|bO mp)/\Hid (Nw g.drew a/\g.drew.heap.size<=mp/\Xd a mp X))\/(Hid (Y6 m d.L c=bN)/\e=eF tv/\Hid (Nw g.drew a)):=R.o.mono fun e a ⟨E,F⟩=>by
  cases hq:Y6 m d.L c with
  |none=>rw[hq]at F;exact .inr ⟨rfl,F,E⟩
  |some X=>rw[hq]at F;obtain⟨mp,h3,h4,h5⟩:=F;exact .inl ⟨X,mp,rfl,h3,E,h4,h5⟩
 have T:Hid<|∀a,Y6 m d.L c=bN->Nw g.drew a->vD tv b k m (Y6 m d.L<|Xz k.m m.ep) w (eF tv) a:=fun a E F=>by
  unfold vD;rw[o.o,E];exact⟨G.o.trans<|(O.o.trans F).mono fun _ x=>x.elim,rfl⟩
 go_wp2_with fail
 go_region_held2 (fun a=>MC w.heap.size m m.root a/\a.cell? (zq b 6)=bO (zs c)/\a.cell? (zq b 7)=bO (zs f)) (first|exact S0|exact S1|exact S2)
  ((go_at_call 163;refine Q.o.mono ?_;rintro e w4 (⟨X,mp,HQ,rfl,q⟩|⟨HQ,rfl,q⟩);rotate_left;(exact⟨rfl,T.o _ HQ.o q.o⟩);have C:Hid<|Nw g w4:=O.o.trans q.o.1;have S1:=I.o _ C.o;have x4:=(J.o _ C.o).1;have y4:=(J.o _ C.o).2;have S2:=U.o w4 mp C.o))
 have i:=q.o;have A5:=zl<|(G.o.trans<|C.o.mono fun _ x=>x.elim).trans<|xb.set _ (zq b 4)<|.map<|bO mp;have t:=zl<|(s.o.but C.o id).set 4<|.map<|bO mp;have l:=zl<|(H.o.but C.o id).other (p:=zq b 4) (by show w.heap.size≠b;omega)<|.map<|bO mp;have j:mp≠b:=by have E:=i.2.1;have F:=G.o.size;simp at E;omega
 have M5:=zl<|i.2.2.but (xb.set w4 (zq b 4)<|.map<|bO mp) j;have S:Hid<|w.heap.size<=mp:=by show _<=_;have E:=i.2.1;have F:=G.o.size;simp at E;omega
 clear i q S0 S1 S2 x4 y4 I U J R Q T O C
 try clear hHeld
 generalize w4.setCell (zq b 4) (.map<|bO mp)=w5 at*;have z2:w5.cell? (zq w.heap.size 2)=bO (zi m.cnt):=l.o.cell 2 rfl;have z4:w5.cell? (zq w.heap.size 4)=bO (zi m.base):=l.o.cell 4 rfl;have z5:w5.cell? (zq w.heap.size 5)=bO (zi m.file):=l.o.cell 5 rfl;have z6:w5.cell? (zq w.heap.size 6)=bO (zi m.len):=l.o.cell 6 rfl;have z8:w5.cell? (zq w.heap.size 8)=bO (zs m.last):=l.o.cell 8 rfl;have b8:w5.cell? (zq b 8)=bO (zi k.cnt):=t.o.cell 8 rfl;have b9:w5.cell? (zq b 9)=bO (zs k.tag):=t.o.cell 9 rfl;have bl:w5.cell? (zq b 11)=bO (zi k.base):=t.o.cell 11 rfl;have bm:w5.cell? (zq b 13)=bO (zi k.named):=t.o.cell 13 rfl;have bn:w5.cell? (zq b 14)=bO (zi k.dK):=t.o.cell 14 rfl;have f8:=t.o.bT 8;have f9:=t.o.bT 9;have bo:=t.o.bT 11;have bp:=t.o.bT 13;have bq:=t.o.bT 14;have bj:¬w.heap.size=b:=by omega
 have bt:¬b=w.heap.size:=by omega
 have bi:¬mp=b:=j;have LE:=(((t.o.set 8<|zi m.cnt).set 9<|zs m.last).set 11<|zi m.base).set 13<|zi m.file;have BE:xb (·=b) w5<|(((w5.setCell (zq b 8)<|zi m.cnt).setCell (zq b 9)<|zs m.last).setCell (zq b 11)<|zi m.base).setCell (zq b 13)<|zi m.file:=(((xb.set w5 (zq b 8) _).trans<|xb.set _ (zq b 9) _).trans<|xb.set _ (zq b 11) _).trans<|xb.set _ (zq b 13) _;have r:Hid (∀w1,xb (·=b) w5 w1->w1.cell? (zq w.heap.size 2)=bO (zi m.cnt)/\w1.cell? (zq w.heap.size 4)=bO (zi m.base)/\w1.cell? (zq w.heap.size 5)=bO (zi m.file)/\w1.cell? (zq w.heap.size 6)=bO (zi m.len)/\w1.cell? (zq w.heap.size 8)=bO (zs m.last)):=fun w1 v=>by
  have B:=l.o.but v bj;exact⟨B.cell 2 rfl,B.cell 4 rfl,B.cell 5 rfl,B.cell 6 rfl,B.cell 8 rfl⟩
 have Y:=r.o w5.drew (xb.refl _ _).drew;have Z:=r.o (w5.setCell (zq b 8)<|zi m.cnt).drew ((xb.refl _ _).trans<|xb.set _ (zq b 8) _).drew;have ba:=r.o ((w5.setCell (zq b 8)<|zi m.cnt).setCell (zq b 9)<|zs m.last).drew (((xb.refl _ _).trans<|xb.set _ (zq b 8) _).trans<|xb.set _ (zq b 9) _).drew;have bb:=r.o (((w5.setCell (zq b 8)<|zi m.cnt).setCell (zq b 9)<|zs m.last).setCell (zq b 11)<|zi m.base).drew ((((xb.refl _ _).trans<|xb.set _ (zq b 8) _).trans<|xb.set _ (zq b 9) _).trans<|xb.set _ (zq b 11) _).drew;have bc:=r.o ((((w5.setCell (zq b 8)<|zi m.cnt).setCell (zq b 9)<|zs m.last).setCell (zq b 11)<|zi m.base).setCell (zq b 13)<|zi m.file).drew (((((xb.refl _ _).trans<|xb.set _ (zq b 8) _).trans<|xb.set _ (zq b 9) _).trans<|xb.set _ (zq b 11) _).trans<|xb.set _ (zq b 13) _).drew;have y:=zl LE;have n:=zl BE;clear LE BE;by_cases h0:0<m.len
 ·have i0:(0:Int)<(m.len:Int):=by omega
  have HF:Hid<|vD tv b k m (Y6 m d.L<|Xz k.m m.ep) w (.returned<|.tuple #[])<|(((((w5.setCell (zq b 8)<|zi m.cnt).setCell (zq b 9)<|zs m.last).setCell (zq b 11)<|zi m.base).setCell (zq b 13)<|zi m.file).setCell (zq b 14)<|zi m.file).drew:=by
   show vD _ _ _ _ _ _ _ _;unfold vD;rw[o.o,HQ.o];refine⟨((A5.o.trans n.o).trans<|xb.set _ (zq b 14) _).drew,rfl,mp,S.o,M5.o.but ((n.o.trans<|xb.set _ (zq b 14) _).drew) j, ?_⟩;unfold Xa;rw[show Xz (k.begun m mp).m (k.begun m mp).ep=c from o.o,show Jm (k.begun m mp).m (k.begun m mp).ep=f from W.o];have e:(k.begun m mp).cells c f=#[zs k.m,zi k.tc,zs k.mark,zi k.op,.map<|bO mp,zi m.ep,zs c,zs f,zi m.cnt,zs m.last,zs k.ahead,zi m.base,zi k.last,zi m.file,zi m.file,.bool k.dD,zi k.whole]:=by
    simp[Lk.cells,Lk.begun,h0]
   rw[e];exact xx.set y.o 14<|zi m.file
  clear h0 y n
  go_wp2_with fail
  go_region_held3 (fun a=>a.cell? (zq w.heap.size 2)=bO (zi m.cnt)/\a.cell? (zq w.heap.size 4)=bO (zi m.base)/\a.cell? (zq w.heap.size 5)=bO (zi m.file)/\a.cell? (zq w.heap.size 6)=bO (zi m.len)/\a.cell? (zq w.heap.size 8)=bO (zs m.last)) (first|with_reducible exact Y|with_reducible exact Z|with_reducible exact ba|with_reducible exact bb|with_reducible exact bc) (fail)
  all_goals (
   go_wp2_with fail
   go_end0
   exact HF.o)
 ·have i0:¬(0:Int)<(m.len:Int):=by omega
  have HF:Hid<|vD tv b k m (Y6 m d.L<|Xz k.m m.ep) w (.returned<|.tuple #[])<|((((w5.setCell (zq b 8)<|zi m.cnt).setCell (zq b 9)<|zs m.last).setCell (zq b 11)<|zi m.base).setCell (zq b 13)<|zi m.file).drew:=by
   show vD _ _ _ _ _ _ _ _;unfold vD;rw[o.o,HQ.o];refine⟨(A5.o.trans n.o).drew,rfl,mp,S.o,M5.o.but n.o.drew j, ?_⟩;unfold Xa;rw[show Xz (k.begun m mp).m (k.begun m mp).ep=c from o.o,show Jm (k.begun m mp).m (k.begun m mp).ep=f from W.o];have e:(k.begun m mp).cells c f=#[zs k.m,zi k.tc,zs k.mark,zi k.op,.map<|bO mp,zi m.ep,zs c,zs f,zi m.cnt,zs m.last,zs k.ahead,zi m.base,zi k.last,zi m.file,zi k.dK,.bool k.dD,zi k.whole]:=by
    simp[Lk.cells,Lk.begun,h0]
   rw[e];exact y.o
  clear h0 y n
  go_wp2_with fail
  go_region_held3 (fun a=>a.cell? (zq w.heap.size 2)=bO (zi m.cnt)/\a.cell? (zq w.heap.size 4)=bO (zi m.base)/\a.cell? (zq w.heap.size 5)=bO (zi m.file)/\a.cell? (zq w.heap.size 6)=bO (zi m.len)/\a.cell? (zq w.heap.size 8)=bO (zs m.last)) (first|with_reducible exact Y|with_reducible exact Z|with_reducible exact ba|with_reducible exact bb|with_reducible exact bc) (fail)
  all_goals (
   go_wp2_with fail
   go_end0
   exact HF.o)
def Sr.FY(r:Sr)(s:Jo)(n:Nat):Mf:=⟨s.ep,r.op,r.cnt,s.bP.toNat,s.last.toNat,Ye s.named,n,[],r.mark⟩
def Sr.parts(r:Sr)(s:Jo):List Zl:=J8 (r.FY s (Vf s.L).length) (Xz r.m s.ep)<|Yq<|Vf s.L
def Sr.mf(r:Sr)(s:Jo):Mf:={r.FY s (Vf s.L).length with root:=J7<|r.parts s}
def Sr.jR(r:Sr)(s:Jo):Option Int×Sr:=
 if s.bP=999 then(bO 10,r)
 else if 16384<(Vf s.L).length\/r.d.room-J6 r.d.L<(r.roomFor (Vf s.L).length:Int)then(bO 9,r)
 else if(({r with sn:=bO {s with bP:=s.bP+1}}:Sr).lays (r.mf s) (r.parts s).flatten<|(r.mf s).bS<|Jm r.m s.ep).1=bL then
  (bO 0,{r with d:=(({r with sn:=bO {s with bP:=s.bP+1}}:Sr).lays (r.mf s) (r.parts s).flatten<|(r.mf s).bS<|Jm r.m s.ep).2,sn:=bO {s with bP:=s.bP+1,base:=s.last,named:=(Ye s.named:Int)}})
 else(bN,{r with d:=(({r with sn:=bO {s with bP:=s.bP+1}}:Sr).lays (r.mf s) (r.parts s).flatten<|(r.mf s).bS<|Jm r.m s.ep).2,sn:=bO {s with bP:=s.bP+1}})
def Sr.dG(r:Sr)(s:Jo):Option Int×Sr:=
 if(r.bW s).1=bO 0 then(r.bW s).2.jR (r.ses1 s)else r.bW s
def Kp{cv tv:Zv}(B:Nat)(r:Sr)(s:Jo)(w:Zy)(h:Jq w B r)(hs:r.sn=bO s)(dm:fV B r)(b0:∀r1,r.bW s=(bO 0,r1)->fV B r1/\r1.d.L.length+2<1000000/\jM (r.ses1 s).L/\(r.ses1 s).L.length<=1000000/\0<=(r.ses1 s).bP/\(r.ses1 s).bP<=999/\(qu r1.d.L<|Ye (r.ses1 s).named).length<=900000)(hG:iA cv tv w)(hP:∀c∈s.P,mF c)(dj:s.ep<=1000000):
  bE prog 70 #[zo B] w fun e w'=>∃a r',r.dG s=(a,r')/\e=FD cv a/\jt B r w r' w':=by
 have HH:=zl h;have HK:=zl dm;have HG:=zl hG;have HS:=zl hs;have HP:=zl hP;have cx:=zl b0;clear h dm b0 hG hs hP;go_enter func70.1,Tryz.ntmps70
 go_wp2_with fail
 refine(RI<|O_ B r s _ HH.o HS.o HK.o HG.o HP.o).mono ?_;rintro e w1 (⟨v,r1,hw,rfl,bq⟩|⟨r1,hw,rfl,bq⟩);rotate_left;have HR:Hid<|r.dG s=(bN,r1):=by
  show _=_;unfold Sr.dG;rw[hw,aB<|by simp]
 exact⟨rfl,bN,r1,HR.o,rfl,bq⟩;have HW:=zl hw;have T1:=zl bq;clear hw bq;by_cases hv:¬v=0
 ·have HR:Hid<|r.dG s=(bO v,r1):=by
   show _=_;unfold Sr.dG;rw[HW.o,aB<|by simpa using hv]
  have el:decide (v=0)=bK:=by simpa using hv
  go_wp2_with fail
  go_ret
  exact⟨_,_,HR.o,rfl,T1.o⟩
 obtain rfl:v=0:=by omega
 have i:=zl<|dT HS.o HW.o;have G1:=zl<|HG.o.but T1.o.but HK.o.own;obtain⟨de,bz,bd,df,b2,dr,cg⟩:=cx.o _ HW.o;have M:Hid<|r.dG s=r1.jR (r.ses1 s):=by
  show _=_;unfold Sr.dG;rw[HW.o,aA rfl]
 have dk:(r.ses1 s).ep<=1000000:=by unfold Sr.ses1;split<;>exact dj
 obtain⟨b,dq⟩:∃b,r.ses1 s=b:=⟨_,rfl⟩;rw[dq]at i bd df b2 dr cg M dk;have o:=zl de;have b9:=zl bd;have cr:Hid<|r1.d.L.length+2<1000000/\(qu r1.d.L<|Ye b.named).length<=900000:=⟨bz,cg⟩;have c7:w1.cell? (zq B 7)=bO (zo b.S):=(T1.o.at_.blk.cell 7 rfl).trans (by simp[Sr.cells,Sr.iJ,i.o]);have R:=(T1.o.at_.bU b i.o).1;have d6:w1.cell? (zq b.S 6)=bO (zi b.bP):=R.blk.cell 6 rfl;have d0:w1.cell? (zq b.S 0)=bO (.map<|bO b.mp):=R.blk.cell 0 rfl;have dw:=zl HG.o;clear dq de bd bz cg cx hv R dj HW HP HS HH HG;by_cases h9:b.bP=999
 ·have HR:Hid<|r.dG s=(bO 10,r1):=by
   show _=_;rw[M.o];unfold Sr.jR;rw[aA h9]
  rw[h9]at d6
  go_wp2_with fail
  go_ret
  exact⟨_,_,HR.o,rfl,T1.o⟩
 have H9:=zl h9;have d3:decide (b.bP=999)=bK:=by simpa using h9
 go_wp2_with fail
 refine(zrm b.mp b.L df b9.o _ (T1.o.at_.bU b i.o).1.map).mono ?_;rintro e w2 ⟨rfl,cf⟩;have T2:=zl<|T1.o.trans<|jt.nw T1.o.at_<|xb.of_below cf;have G2:=zl<|G1.o.but (S:=fun _=>False) (xb.of_below cf) fun _ x=>x.elim;obtain⟨x,Q⟩:∃x,Vf b.L=x:=⟨_,rfl⟩;have HX:=zl Q;have em:x.length<=50000000:=by
  have:=r_ b9.o (ks:=Vp b.L) fun k hk=>(b9.o.key hk).2;rw[o8]at this;rw[<-Q];show(List.flatMap (qO b.L)<|Vp b.L).length<=_;omega
 rw[Q];clear Q cf T1 G1 d0 d6 h9 d3;by_cases bx:16384<x.length
 ·have HR:Hid<|r.dG s=(bO 9,r1):=by
   show _=_;rw[M.o];unfold Sr.jR;rw[aB H9.o,aA<|.inl<|by rw[HX.o];exact bx]
  have dh:(16384:Int)<(x.length:Int):=by omega
  clear c7
  go_wp2_with fail
  go_quiet (fail)
  have T3:Hid<|jt B r w r1<|w2.drewN nq:=T2.o.trans<|jt.nw T2.o.at_ (xb.refl _ _).drewN'
  go_wp2_with fail
  go_ret
  exact⟨_,_,HR.o,rfl,T3.o⟩
 have cp:=zl bx;have dh:¬(16384:Int)<(x.length:Int):=by omega
 have ef:decide ((16384:Int)<(x.length:Int))=bK:=by simpa using dh
 have A2:=zl<|T2.o.at_.but (S:=fun _=>False) (xb.refl _ _).drew fun _ _=>id;have g:Hid<|∀w1,Nw w2 w1->w1.cell? (zq B 2)=bO (zo r1.D):=fun w1 hh=>(T2.o.at_.blk.but hh id).cell 2 rfl;have S0:=g.o w2<|xb.refl _ _;have dn:r1.roomFor x.length<=1000000:=by unfold Sr.roomFor;split<;>omega
 have cb:=zl<|tW B r1 x (by omega) w2.drew A2.o;have b5:=zl (Az r1.D r1.d w2.drew A2.o.disk o.o.files (by have:=o.o.room;omega)<|by have:=o.o.room;omega);obtain⟨rf,cj⟩:∃rf,r1.roomFor x.length=rf:=⟨_,rfl⟩;obtain⟨fr,ch⟩:∃fr,r1.d.room-J6 r1.d.L=fr:=⟨_,rfl⟩;have Y:=zl cj;have V:=zl ch;rw[cj]at cb dn;rw[ch]at b5;clear cj ch c7
 go_wp2_with fail
 go_region_held3 (fun w'=>w'.cell? (zq B 2)=bO (zo r1.D)) (first|exact S0|exact F)
  (first
   |(go_at_call 112;refine cb.o.mono ?_;rintro e w3 ⟨rfl,d8⟩;obtain rfl:=d8)
   |(go_at_call 97;refine b5.o.mono ?_;rintro e l ⟨rfl,di⟩;have N4:Hid<|Nw w2 l:=(xb.refl _ _).drew.trans<|xb.of_below di;have F:=g.o _ N4.o))
 have T4:=zl<|T2.o.trans<|jt.nw T2.o.at_ N4.o;have G4:=zl<|G2.o.but N4.o fun _ x=>x.elim;clear S0 F g cb b5 A2 N4 di T2 G2
 try clear hHeld
 by_cases dp:fr<(rf:Int)
 ·have HR:Hid<|r.dG s=(bO 9,r1):=by
   show _=_;rw[M.o];unfold Sr.jR;rw[aB H9.o,aA<|.inr<|by rw[HX.o,V.o,Y.o];exact dp]
  go_wp2_with fail
  go_ret
  exact⟨_,_,HR.o,rfl,T4.o⟩
 have c0:=zl dp;have eh:(rf:Int)<=fr:=by omega
 have g:Hid<|∀w1,Nw l w1->w1.cell? (zq B 3)=bO (zs r1.m)/\w1.cell? (zq B 4)=bO (zi r1.cnt)/\w1.cell? (zq B 5)=bO (zs r1.mark)/\w1.cell? (zq B 6)=bO (zi r1.op)/\w1.cell? (zq b.S 2)=bO (zi b.ep):=fun w1 hh=>by
  have R:=T4.o.at_.blk.but hh id;have k2:=(T4.o.at_.bU b i.o).1.blk.but hh id;exact⟨R.cell 3 rfl,R.cell 4 rfl,R.cell 5 rfl,R.cell 6 rfl,k2.cell 2 rfl⟩
 have N0:Hid<|Nw l l.drew:=(xb.refl _ _).drew;have NA:Hid<|Nw l<|l.drew.alloc<|.cells #[.string ⟨#[]⟩,.string ⟨#[]⟩] 120:=N0.o.trans<|xb.alloc _;have S0:=g.o l<|xb.refl _ _;have SA:=g.o _ NA.o;have TA:=zl<|(G4.o.but N0.o fun _ x=>x.elim).tab;have TB:=zl<|(G4.o.but NA.o fun _ x=>x.elim).tab;have XA:Hid<|xx (l.drew.alloc<|.cells #[.string ⟨#[]⟩,.string ⟨#[]⟩] 120) l.heap.size #[.string ⟨#[]⟩,.string ⟨#[]⟩] 120:=xx.new l.drew _ _
 go_wp2_with fail
 go_region_held3 (fun w'=>w'.cell? (zq B 3)=bO (zs r1.m)/\w'.cell? (zq B 4)=bO (zi r1.cnt)/\w'.cell? (zq B 5)=bO (zs r1.mark)/\w'.cell? (zq B 6)=bO (zi r1.op)/\w'.cell? (zq b.S 2)=bO (zi b.ep)) (first|exact S0|exact SA|exact F|exact SB|exact SC)
  (first
   |(go_at_call 103;refine(EO r1.m r1.mark (r1.cnt:Int) (r1.op:Int) b.ep o.o.m _ TA.o).mono ?_;rintro e J ⟨rfl,bb⟩;have N5:Hid<|Nw l J:=N0.o.trans<|xb.of_below bb;have F:=g.o _ N5.o;have NB:Hid<|Nw l<|J.alloc<|.cells #[.string ⟨#[]⟩,.string ⟨#[]⟩] 120:=N5.o.trans<|xb.alloc _;have SB:=g.o _ NB.o;have NC:Hid<|Nw l<|J.alloc<|.cells #[zs<|Xz r1.m b.ep,zs<|Jm r1.m b.ep] 120:=N5.o.trans<|xb.alloc _;have SC:=g.o _ NC.o;have X6:Hid<|xx (J.alloc<|.cells #[zs<|Xz r1.m b.ep,zs<|Jm r1.m b.ep] 120) J.heap.size #[zs<|Xz r1.m b.ep,zs<|Jm r1.m b.ep] 120:=xx.new J _ _;have bf:=N5.o.size)
   |(go_at_call 103;refine(EO r1.m r1.mark (r1.cnt:Int) (r1.op:Int) b.ep o.o.m _ TB.o).mono ?_;rintro e J ⟨rfl,bb⟩;have N5:Hid<|Nw l J:=NA.o.trans<|xb.of_below bb;have F:=g.o _ N5.o;have X5:=zl<|XA.o.below bb;have eb:=X5.o.cell 0 rfl;have ec:=X5.o.cell 1 rfl;have ed:=X5.o.bT 0;have ee:=X5.o.bT 1;have NC:Hid<|Nw l<|(J.setCell (zq l.heap.size 0)<|zs<|Xz r1.m b.ep).setCell (zq l.heap.size 1)<|zs<|Jm r1.m b.ep:=xb.fresh (xb.fresh N5.o (ze _)<|xb.set _ (zq l.heap.size 0) _) (ze _)<|xb.set _ (zq l.heap.size 1) _;have SC:=g.o _ NC.o;have X6:Hid<|xx ((J.setCell (zq l.heap.size 0)<|zs<|Xz r1.m b.ep).setCell (zq l.heap.size 1)<|zs<|Jm r1.m b.ep) l.heap.size #[zs<|Xz r1.m b.ep,zs<|Jm r1.m b.ep] 120:=(X5.o.set 0 _).set 1 _;have bf:=ze l.heap.size))
 all_goals (
  have T6:=T4.o.trans<|jt.nw T4.o.at_ NC.o;have G6:=G4.o.but NC.o fun _ x=>x.elim;have K6:=X6.o;have bi:Hid<|∀x,r1.own B x->x<l.heap.size:=fun x Q=>Sr.bX T4.o.at_ Q;have bj:=zl T6;have cs:=zl G6;have ct:=zl K6;clear T6 G6 K6 S0 SA F SC g N0 NA NC N5 TA TB XA X6 T4 G4 bb
  try clear NB
  try clear SB
  try clear X5
  try clear eb
  try clear ec
  try clear ed
  try clear ee
  try clear hHeld)
 have b6:Hid<|¬r1.own B J.heap.size:=fun x=>by have:=bi.o _ x;omega
 clear bi bf;generalize J.alloc (.cells #[zs<|Xz r1.m b.ep,zs<|Jm r1.m b.ep] 120)=w6 at*;generalize J.heap.size=kb at*;rotate_left;have b6:Hid<|¬r1.own B l.heap.size:=fun x=>by have:=bi.o _ x;omega
 clear bi bf;generalize(J.setCell (zq l.heap.size 0)<|zs<|Xz r1.m b.ep).setCell (zq l.heap.size 1) (zs<|Jm r1.m b.ep)=w6 at*;generalize l.heap.size=kb at*
 all_goals (
  go_wp2_with fail
  refine(xnk B r1 b x.length _ bj.o.at_ i.o).mono ?_;rintro e w7 ⟨rfl,bn⟩;have NV:UI r1 b x.length=(r1.FY b x.length).cells:=by
   have:=(o.o.bU b i.o).1;simp only[UI,Mf.cells,Sr.FY];rw[Int.toNat_of_nonneg b2,Int.toNat_of_nonneg this];rfl
  rw[NV];have T7:=zl<|bj.o.trans<|jt.nw bj.o.at_<|xb.of_below bn;have G7:=zl<|cs.o.but (S:=fun _=>False) (xb.of_below bn) fun _ x=>x.elim;have K7:=zl<|xx.below ct.o bn;obtain⟨f,ci⟩:∃f,r1.FY b x.length=f:=⟨_,rfl⟩;have X:=zl ci;rw[ci];clear ci bn NV bj cs ct;unfold Mf.cells
  go_wp2_with fail)
 all_goals (
  have N8:Hid<|Nw w7<|w7.alloc<|.cells f.cells 185:=xb.alloc _;have T:Hid<|xx (w7.alloc<|.cells f.cells 185) w7.heap.size f.cells 185:=xx.new _ _ _;have T8:=zl<|T7.o.trans<|jt.nw T7.o.at_ N8.o;have G8:=zl<|G7.o.but N8.o fun _ x=>x.elim;have K8:=zl<|K7.o.alloc<|.cells f.cells 185;have d7:kb≠w7.heap.size:=by have:=K7.o.lt;omega
  have b8:Hid<|¬r1.own B w7.heap.size:=fun x=>by have:=Sr.bX T7.o.at_ x;omega
  have cw:=zl T7.o.but.size;clear N8 T7 G7 K7;unfold Mf.cells at T T8 G8 K8;generalize w7.alloc (.cells _ 185)=w8 at*;generalize w7.heap.size=mb at*;obtain⟨C,bo⟩:∃C,Xz r1.m b.ep=C:=⟨_,rfl⟩;obtain⟨E,br⟩:∃E,Jm r1.m b.ep=E:=⟨_,rfl⟩;have du:=zl bo;have c3:=zl br;have dv:Hid<|C.length=16:=by show _=_;rw[<-bo];exact A9 _ _
  have dz:Hid<|E.length=32:=by show _=_;rw[<-br];exact F8 _ _
  rw[bo,br]at K8⊢;clear bo br;have g:Hid<|∀w1,Nw w8 w1->MC mb f f.root w1/\w1.cell? (zq kb 0)=bO (zs C)/\w1.cell? (zq kb 1)=bO (zs E):=fun w1 hh=>by
   have R:=T.o.but hh id;have k2:=K8.o.but hh id;exact⟨R.mc,k2.cell 0 rfl,k2.cell 1 rfl⟩
  have S0:=g.o w8<|xb.refl _ _;have N0:Hid<|Nw w8 w8.drew:=(xb.refl _ _).drew;obtain⟨dd,d1,d2⟩:=DU x;have U:Hid<|(∀y∈Yq x,y.length<=64)/\(Yq x).length<=256:=⟨dd,by omega⟩;clear dd d1 d2
  go_region_held3 (fun w'=>MC mb f f.root w'/\w'.cell? (zq kb 0)=bO (zs C)/\w'.cell? (zq kb 1)=bO (zs E)) (first|exact S0|exact F)
   (first
    |(go_at_call 115;refine(B_ x (by omega) _).mono ?_;rintro e w9 ⟨v9,rfl,be,dl⟩;have N9:Hid<|Nw w8 w9:=N0.o.trans dl;have F:=g.o _ N9.o;have dc:=zl<|Ul be)
    |(go_at_call 114;refine(Pb f (Yq x) v9 C E dv.o (fun y hy=>by have:=U.o.1 y hy;omega) (by have:=U.o.2;omega) _ dc.o).mono ?_;rintro e dt ⟨bs,rfl,H,bc⟩;have O:Hid<|Nw w8 dt:=N9.o.trans bc;have F:=g.o _ O.o;have c9:=zl H)))
 all_goals (
  have ek:=N9.o.size;have ei:=bc.size;have cc:=zl<|T8.o.trans<|jt.nw T8.o.at_ O.o;have b3:=zl<|G8.o.but O.o fun _ x=>x.elim;have bt:=zl<|T.o.but O.o id;have c5:=zl<|K8.o.but O.o id;have eg:=T.o.lt;have ej:=Sr.bX T8.o.at_<|.inr<|.inr ⟨b,i.o,.inl rfl⟩;have K:Hid<|(∀y∈J8 f C (Yq x),y.length<=64)/\(J8 f C<|Yq x).length<=256:=⟨Rb U.o.1,by rw[zZ];exact U.o.2⟩;have ca:Hid<|r1.parts b=J8 f C (Yq x):=by
   show _=_;unfold Sr.parts;rw[HX.o,X.o,du.o]
  have ba:Hid<|dt.ownsRow w9.heap.size 9 1 bs (J8 f C<|Yq x).length<|(J8 f C<|Yq x).map iU:=by
   show World.ownsRow _ _ _ _ _ _ _;rw[zZ];exact c9.o
  generalize J8 f C (Yq x)=ps at*;clear c9 S0 F g N0 N9 O dc be dl H bc T8 G8 T K8 U
  try clear hHeld
  go_wp2_with fail
  refine(Tp ps bs K.o.2 (fun y hy=>by have:=K.o.1 y hy;omega) _ b3.o.tab ba.o).mono ?_;rintro e en ⟨rfl,t⟩;have cd:=zl<|cc.o.trans<|jt.nw cc.o.at_<|xb.of_below t;have cm:=zl<|b3.o.but (S:=fun _=>False) (xb.of_below t) fun _ x=>x.elim;have G:=zl<|bt.o.below t;have c6:=zl<|c5.o.below t;have da:=zl<|yU ba.o (xb.of_below (S:=fun _=>False) t) fun _ _ x=>x;have b1:=Sd ps K.o.2;clear t cc b3 bt c5 ba
  go_wp2_with fail
  refine(KQ (st<|J7 ps) _).mono ?_;rintro e z ⟨rfl,ds⟩;obtain rfl:=ds;have q7:=G.o.cell 7 rfl;have p7:=G.o.bT 7;have cl:=(cd.o.at_.bU b i.o).1;have q6:z.cell? (zq b.S 6)=bO (zi b.bP):=cl.blk.cell 6 rfl;have p6:=cl.blk.bT 6;have d4:b.S≠mb:=fun e=>b8.o<|.inr<|.inr ⟨b,i.o,.inl e.symm⟩;have dg:¬mb=b.S:=fun e=>d4 e.symm;clear cl
  go_wp2_with fail)
 all_goals (
  have TA:=zl<|cd.o.fresh cw.o b8.o<|xb.set _ (zq mb 7)<|zs<|J7 ps;have ce:Hid<|jt B r w {r1 with sn:=bO {b with bP:=b.bP+1}}<|(z.setCell (zq mb 7)<|zs<|J7 ps).setCell (zq b.S 6)<|zi<|b.bP+1:=
   TA.o.trans (jt.lV (s:=b) (s':={b with bP:=b.bP+1}) TA.o.at_ i.o rfl rfl rfl rfl rfl rfl)
  have BB:Hid<|xb (fun y=>y=mb\/y=b.S) z<|(z.setCell (zq mb 7)<|zs<|J7 ps).setCell (zq b.S 6)<|zi<|b.bP+1:=
   ((xb.set z (zq mb 7) _).mono fun y hy=> .inl hy).trans ((xb.set _ (zq b.S 6) _).mono fun y hy=> .inr hy)
  have b4:=zl (cm.o.but BB.o (fun y hy=>by
   rcases hy with rfl|rfl;have:=dw.o.pos;have:=cw.o;omega;exact o.o.own _<|.inr<|.inr ⟨b,i.o,.inl rfl⟩))
  have bu:Hid<|xx ((z.setCell (zq mb 7)<|zs<|J7 ps).setCell (zq b.S 6)<|zi<|b.bP+1) mb _ 185:=(G.o.set 7 _).other (p:=zq b.S 6) dg _;have d5:kb≠b.S:=fun e=>b6.o<|.inr<|.inr ⟨b,i.o,.inl e⟩;have c8:Hid<|xx ((z.setCell (zq mb 7)<|zs<|J7 ps).setCell (zq b.S 6)<|zi<|b.bP+1) kb _ 120:=(c6.o.other (p:=zq mb 7) d7 _).other (p:=zq b.S 6) d5 _;have db:=zl (yU da.o BB.o fun q hq Q=>by rcases Q with rfl|rfl<;>omega);clear TA BB cd cm G c6 da q7 p7 q6 p6;generalize(z.setCell (zq mb 7)<|zs<|J7 ps).setCell (zq b.S 6) (zi<|b.bP+1)=w13 at*;have cu:Hid<|r1.mf b={f with root:=J7 ps}:=by
   show _=_;unfold Sr.mf;rw[ca.o,HX.o,X.o]
  have b7:Hid<|f.last.length=32:=by show _=_;rw[<-X.o];exact o.o.mark
  have bh:Hid<|(f.file:Int)=(Ye b.named:Int):=by show _=_;rw[<-X.o];rfl
  have cq:Hid<|(f.base:Int)=b.last:=by
   show _=_;rw[<-X.o];show((b.last.toNat:Nat):Int)=_;exact Int.toNat_of_nonneg (o.o.bU b i.o).1
  have dx:Hid<|fV B {r1 with sn:=bO {b with bP:=b.bP+1}}:=o.o.bP i.o _;have cy:Hid<|∀y,Sr.own B {r1 with sn:=bO {b with bP:=b.bP+1}} y->r1.own B y:=fun y hy=>(RK i.o).1 hy;obtain⟨lx,bp⟩:∃lx,Sr.lays {r1 with sn:=bO {b with bP:=b.bP+1}} {f with root:=J7 ps} ps.flatten (Mf.bS {f with root:=J7 ps} E)=lx:=⟨_,rfl⟩;have c2:Hid<|lx.1=bL->r.dG s=(bO 0,{r1 with d:=lx.2,sn:=bO {b with bP:=b.bP+1,base:=b.last,named:=(Ye b.named:Int)}}):=fun Q=>by
   rw[M.o];unfold Sr.jR;rw[HX.o,aB H9.o,aB<|by rw[V.o,Y.o];exact not_or.2 ⟨cp.o,by have:=c0.o;omega⟩,cu.o,ca.o,c3.o,bp,aA Q]
  have c1:Hid<|lx.1=bK->r.dG s=(bN,{r1 with d:=lx.2,sn:=bO {b with bP:=b.bP+1}}):=fun Q=>by
   rw[M.o];unfold Sr.jR;rw[HX.o,aB H9.o,aB<|by rw[V.o,Y.o];exact not_or.2 ⟨cp.o,by have:=c0.o;omega⟩,cu.o,ca.o,c3.o,bp,aB<|by rw[Q];simp]
  have cz:Hid<|ps.flatten.length<=16384:=by
   have h1:=zub K.o.1;have h2:=K.o.2;show _<=_;omega
  have CL:Hid<|∀W,Jq W B {r1 with sn:=bO {b with bP:=b.bP+1}}->iA cv tv W->bE prog 118 #[zo B,.agg #[zi f.ep,zi f.op,zi f.cnt,zi f.bP,zi f.base,zi f.file,zi f.len,zs<|J7 ps,zs f.last],zs ps.flatten,zs<|Mf.bS {f with root:=J7 ps} E] W fun e w'=>(e= .returned (.tuple #[])/\lx.1=bL/\jt B {r1 with sn:=bO {b with bP:=b.bP+1}} W {r1 with d:=lx.2,sn:=bO {b with bP:=b.bP+1}} w')\/(e=eF cv/\lx.1=bK/\jt B {r1 with sn:=bO {b with bP:=b.bP+1}} W {r1 with d:=lx.2,sn:=bO {b with bP:=b.bP+1}} w'):=fun W hA hG=>by
   have:=xri (sB B {r1 with sn:=bO {b with bP:=b.bP+1}} {f with root:=J7 ps} ps.flatten (Mf.bS {f with root:=J7 ps} E) W hA dx.o hG cr.o.1 (by have:=YR {f with root:=J7 ps} E b1 b7.o;omega) (by
    show(qu r1.d.L ((f.file:Nat):Int)).length+_<=_;rw[bh.o];have:=cr.o.2;have:=cz.o;omega) (by
    show f.file<=_;have:Ye b.named<=10002:=by unfold Ye;split<;>omega
    have:=bh.o;omega))
   rw[bp]at this;exact this
  have CS:Hid<|∀W,dF W->bE prog 120 #[.agg #[zi f.ep,zi f.op,zi f.cnt,zi f.bP,zi f.base,zi f.file,zi f.len,zs<|J7 ps,zs f.last],.agg #[zs C,zs E]] W fun e w'=>e= .returned (zs<|Mf.bS {f with root:=J7 ps} E)/\Below W.heap.size W w':=fun W hT=>
   sT {f with root:=J7 ps} C E (by have:=dz.o;omega) b1 b7.o W hT
  have g:Hid<|∀w1,xb (fun y=>Sr.own B {r1 with sn:=bO {b with bP:=b.bP+1}} y) w13 w1->MC mb f (J7 ps) w1/\w1.cell? (zq kb 0)=bO (zs C)/\w1.cell? (zq kb 1)=bO (zs E):=fun w1 hh=>by
   have R:=bu.o.but hh fun x=>b8.o<|cy.o _ x;have k2:=c8.o.but hh fun x=>b6.o<|cy.o _ x;exact⟨R.mc,k2.cell 0 rfl,k2.cell 1 rfl⟩
  have N0:Hid<|Nw w13 w13.drew:=(xb.refl _ _).drew;have O0:Hid<|w13.drew.ownsRow w9.heap.size 9 1 bs ps.length<|ps.map iU:=db.o;have S0:=g.o w13<|xb.refl _ _;generalize Mf.bS {f with root:=J7 ps} E=sld at*;clear bp
  go_region_held2 (fun w'=>MC mb f (J7 ps) w'/\w'.cell? (zq kb 0)=bO (zs C)/\w'.cell? (zq kb 1)=bO (zs E)) (first|exact S0|exact F)
   (first
    |(go_at_call 119;refine(Ba ps bs (by have:=K.o.2;omega) (by have:=cz.o;omega) _ O0.o).mono ?_;rintro e d9 ⟨rfl,bv⟩;have bk:Hid<|Nw w13 d9:=N0.o.trans<|xb.of_below bv;have F:=g.o _<|bk.o.mono fun _ x=>x.elim;have cn:=zl<|b4.o.but bk.o fun _ x=>x.elim)
    |(go_at_call 120;refine(CS.o _ cn.o.tab).mono ?_;rintro e ea ⟨rfl,bw⟩;have Z:Hid<|Nw w13 ea:=bk.o.trans<|xb.of_below bw;have F:=g.o _<|Z.o.mono fun _ x=>x.elim;have co:=zl<|b4.o.but Z.o fun _ x=>x.elim;have bl:=zl<|ce.o.trans<|jt.nw ce.o.at_ Z.o)
    |(go_at_call 118;refine(CL.o _ bl.o.at_ co.o).mono ?_;rintro e w16 (⟨rfl,I,n⟩|⟨rfl,I,n⟩);rotate_left;(exact⟨rfl,bN,_,c1.o I,rfl,bl.o.trans n⟩);have c4:=zl I;have bm:=zl<|bl.o.trans n;have F:=g.o _<|(Z.o.mono fun _ x=>x.elim).trans n.but)))
 all_goals (
  obtain⟨⟨-,-,-,-,q4,q5,-⟩,-⟩:=F;have bg:=(bm.o.at_.bU {b with bP:=b.bP+1} rfl).1;have q3:w16.cell? (zq b.S 3)=bO (zi b.base):=bg.blk.cell 3 rfl;have q6:w16.cell? (zq b.S 5)=bO (zi b.named):=bg.blk.cell 5 rfl;have p3:w16.frozen? (zq b.S 3)=bK:=bg.blk.bT 3;have p5:w16.frozen? (zq b.S 5)=bK:=bg.blk.bT 5;have TU:=jt.lV (j:=3) (v:=zi f.base) (s:={b with bP:=b.bP+1}) (s':={b with bP:=b.bP+1,base:=b.last}) bm.o.at_ rfl (by rw[cq.o];rfl) rfl rfl rfl rfl rfl;have TV:=jt.lV (j:=5) (v:=zi f.file) (s:={b with bP:=b.bP+1,base:=b.last}) (s':={b with bP:=b.bP+1,base:=b.last,named:=(Ye b.named:Int)}) TU.at_ rfl (by rw[bh.o];rfl) rfl rfl rfl rfl rfl;have TW:=(bm.o.trans TU).trans TV;have TX:Hid<|jt B r w {r1 with d:=lx.2,sn:=bO {b with bP:=b.bP+1,base:=b.last,named:=(Ye b.named:Int)}} ((w16.setCell (zq b.S 3)<|zi f.base).setCell (zq b.S 5)<|zi f.file).drew:=TW.trans<|jt.nw TW.at_ (xb.refl _ _).drew;have dy:=zl<|c2.o c4.o;clear bg TU TV TW S0 g CL CS c2 c1 cq bh b7 bm bl co cn bk Z bv bw n I ce b4 bu c8 db O0 N0
  try clear hHeld
  go_wp2_with fail
  go_region_with (fail)
  all_goals (
   go_wp2_with fail
   go_ret
   exact⟨_,_,dy.o,rfl,TX.o⟩))
end P
namespace P
open Go.RowKit
section
variable {F:Ym} {L L':KV} {xs:List Zl} {n:Nat} {num:Nat} {k:Int}
def Jp(m mark:Zl)(tc op:Int)(mp:Nat):Lk:=⟨m,tc,mark,op,mp,0,0,oV,[],0,0,0,0,bK,0⟩
def qQ(F:Ym):Nat->Nat->Nat
 |0,n=>n
 |f+1,n=>if n<9999/\qu F ((n+1:Nat):Int)≠[]then qQ F f (n+1)else n
def Jl(F:Ym)(n:Nat):Nat:=qQ F (9999-n) n
def Rn(h:n<9999)(a:qu F ((n+1:Nat):Int)≠[]):Jl F n=Jl F (n+1):=by
 unfold Jl;obtain⟨f,b⟩:∃f,9999-n=f+1:=⟨9999-n-1,by omega⟩;rw[b,qQ,aA ⟨h,a⟩,show 9999-(n+1)=f by omega]
def ZJ(h:¬(n<9999/\qu F ((n+1:Nat):Int)≠[])):Jl F n=n:=by
 unfold Jl;cases hf:9999-n with
 |zero=>rfl
 |succ f=>rw[qQ,aB h]
def Ut(F:Ym):∀(f n:Nat),n<=qQ F f n/\qQ F f n<=n+f
 |0,n=>⟨ze _,ze _⟩
 |f+1,n=>by
  have:=Ut F f<|n+1;unfold qQ;split<;>omega
def PB(F:Ym)(n:Nat):n<=Jl F n/\(Jl F n<=n\/Jl F n<=9999):=by
 have:=Ut F (9999-n) n;unfold Jl;omega
open Classical in
noncomputable def Wr(k:Lk)(F:Ym):Option<|Lk×KV:=
 if qu F 0=[]then bO (k,[])
 else if qJ k.m k.tc (qu F 0)then(Y6 (iL<|qu F 0) F<|Xz k.m (iL<|qu F 0).ep).map fun L=>(k.begun (iL<|qu F 0) k.mp,L)
 else bN
open Classical in
noncomputable def Yu(k:Lk)(F:Ym):Option<|Lk×KV:=
 match Wr k F with
 |none=>bN
 |some (k1,L1)=>match dJ (fun i=>qu F (i:Int)) (k1.base.toNat+1) {k1 with last:=(Jl F k1.base.toNat:Int)} L1 (Jl F k1.base.toNat-k1.base.toNat)with
  |some (k2,L2)=>if sS k2 then bO (k2,L2)else bN
  |none=>bN
def KE(tv:Zv)(X:Nat->Option (Lk×KV))(w:Zy)(e:Ending)(w':Zy):Prop:=
 Nw w w'/\∃mp,w.heap.size<=mp/\(match X mp with
  |some (k,L)=>e= .returned (.agg<|k.cells (Xz k.m k.ep)<|Jm k.m k.ep)/\k.mp=mp/\Xd w' mp L
  |none=>e=eF tv)
def Lk.set(k q:Lk):Lk:={k with ep:=q.ep,cnt:=q.cnt,tag:=q.tag,ahead:=q.ahead}
def cI{k q:Lk}(f:q.m=k.m)(L:KV)(r:Bool)(cnt:Nat)(a body tag:Zl):lN (k.set q) L r cnt a body tag=(lN q L r cnt a body tag).map fun p=>(k.set p.1,p.2):=by
 have b:(k.set q).m=q.m:=f.symm;by_cases e:4096<(q.tag++a++body).length;rw[d_ (k:=k.set q) rfl e,d_ rfl e];rfl;by_cases c:tag=V1 (Jm q.m q.ep) (q.tag++a++body);have d:tag=V1 (Jm (k.set q).m (k.set q).ep) (q.tag++a++body):=by rw[b];exact c
 cases r with
 |true=>
  cases h3:nZ (iK (Xz q.m q.ep) (a.take 8) body)with
  |none=>rw[D_ h3,D_ (k:=k.set q)<|by rw[b];exact h3];rfl
  |some D=>rw[zu2 rfl (by omega) c h3,zu2 (k:=k.set q) rfl (show(q.tag++a++body).length<=4096 by omega) d<|by rw[b];exact h3];rfl
 |false=>rw[TT rfl (by omega) c,TT (k:=k.set q) rfl (show(q.tag++a++body).length<=4096 by omega) d];rfl
 rw[D6 rfl c,D6 (k:=k.set q) rfl<|by rw[b];exact c];rfl
def Hs{k q:Lk}(f:q.m=k.m)(L:KV)(kind:Zl)(ep cnt:Nat)(a body tag:Zl):jJ (k.set q) L kind ep cnt a body tag=(jJ q L kind ep cnt a body tag).map fun p=>(k.set p.1,p.2):=by
 unfold jJ;show(if cnt≠q.cnt+1 then bN else _)=_;by_cases b:cnt≠q.cnt+1;rw[aA b,aA b];rfl;rw[aB b,aB b];by_cases c:kind=[82];rw[aA c,aA c];show(if ep=q.ep then _ else _)=_;by_cases d:ep=q.ep;rw[aA d,aA d];exact cI f ..;rw[aB d,aB d];rfl;rw[aB c,aB c];by_cases e:kind=[75];rw[aA e,aA e];show(if ep=q.ep+1/\ep<=5/\body=[]then _ else _)=_;by_cases c5:ep=q.ep+1/\ep<=5/\body=[];rw[aA c5,aA c5];exact cI (k:=k) (q:={q with ep:=ep}) f ..;rw[aB c5,aB c5];rfl;rw[aB e,aB e];rfl
def Eo{k k':Lk}{kind head body tag:Zl}{ep cnt:Nat}(h:jJ k L kind ep cnt head body tag=bO (k',L')):k'.m=k.m:=by
 unfold jJ at h;split at h;cases h;split at h;split at h;rw[DW h];cases h;split at h;split at h;rw[DW h];cases h;cases h
def Ef:∀(n:Nat) {k k':Lk} {L L':KV} {x r:Zl},x.length<=n->recs k L x=bO (k',L',r)->k'.m=k.m
 |n,k,k',L,L',x,r,hn,h=>by
  by_cases a:X7 x=bL;have b:=Wa a;cases hr:lY k L x with
  |none=>rw[JJ a hr]at h;cases h
  |some p=>
   obtain⟨d,c⟩:=p;rw[zX a hr]at h
   match n,hn with
   |0,hn=>omega
   |n+1,hn=>exact(Ef n (by rw[jb];omega) h).trans<|Eo hr
  rw[KH<|by simpa using a]at h;cases h;rfl
def cL:∀(n:Nat) {k q:Lk} {L:KV} {x:Zl},x.length<=n->q.m=k.m->recs (k.set q) L x=(recs q L x).map fun p=>(k.set p.1,p.2)
 |n,k,q,L,x,hn,hm=>by
  by_cases a:X7 x=bL;have c:=Wa a;have e:lY (k.set q) L x=(lY q L x).map fun p=>(k.set p.1,p.2):=Hs hm ..;cases hr:lY q L x with
  |none=>rw[hr]at e;rw[JJ a hr,JJ a e];rfl
  |some p=>
   obtain⟨f,d⟩:=p;rw[hr]at e;rw[zX a hr,zX a e]
   match n,hn with
   |0,hn=>omega
   |n+1,hn=>exact cL n (by rw[jb];omega)<|(Eo hr).trans hm
  have b:X7 x=bK:=by simpa using a
  rw[KH b,KH b];rfl
def oZ(k:Lk)(L:KV)(num:Nat)(x:Zl)(k':Lk)(L':KV):Prop:=∃y,x=nE num (k.cnt+1)++y/\y≠[]/\recs k L y=bO (k',L',[])
def zz6(n c:Nat):(nE n c).length=9:=by simp[nE,qt]
def oZ.eP{k k':Lk}{x:Zl}(h:oZ k L num x k' L'):eP k L num x=bO (k',L'):=by
 obtain⟨y,rfl,d,b⟩:=h;have a:=zz6 num<|k.cnt+1;have e:=qb.2 d;have c:(nE num (k.cnt+1)++y).take 9=83::(nb num 4++nb (k.cnt+1) 4):=Zd a;rw[zs0 (by simp only[zj];omega) c,Z6 a,b];simp only[zj,a,jn];rw[aB<|by omega];unfold Wq;rw[aB<|by omega]
def oZ.ne{k k':Lk}{x:Zl}(h:oZ k L num x k' L'):x≠[]:=by
 obtain⟨y,rfl,b,a⟩:=h;simp[nE]
def oZ.more{k k' k'':Lk}{L L' L'':KV}{x z:Zl}(h:oZ k L num x k' L')(c:recs k' L' z=bO (k'',L'',[])):oZ k L num (x++z) k'' L'':=by
 obtain⟨y,rfl,b,a⟩:=h;exact⟨y++z,by simp,by simp[b],(Ns _ z (ze _) a).trans c⟩
def oZ.new{k k':Lk}{z:Zl}(a:z≠[])(b:recs k L z=bO (k',L',[])):oZ k L num (nE num (k.cnt+1)++z) k' L':=⟨z,rfl,a,b⟩
def oZ.m{k k':Lk}{x:Zl}(h:oZ k L num x k' L'):k'.m=k.m:=by
 obtain⟨y,rfl,b,a⟩:=h;exact Ef _ (ze _) a
def oZ.set{k q q':Lk}{x:Zl}(a:q.m=k.m)(h:oZ q L num x q' L'):oZ (k.set q) L num x (k.set q') L':=by
 obtain⟨y,rfl,c,b⟩:=h;refine⟨y,rfl,c, ?_⟩;rw[cL _ (ze _) a,b];rfl
inductive jY:Nat->Lk->KV->List Zl->Lk->KV->Prop where
 |nil (n:Nat) (k:Lk) (L:KV):jY n k L [] k L
 |snoc {n:Nat} {k k' k'':Lk} {L L' L'':KV} {xs:List Zl} {x:Zl} (h:jY n k L xs k' L') (hx:oZ k' L' (n+xs.length) x k'' L''):jY n k L (xs++[x]) k'' L''
def jY.m{k k':Lk}(h:jY n k L xs k' L'):k'.m=k.m:=by
 induction h with
 |nil=>rfl
 |snoc h hx ih=>exact hx.m.trans ih
def jY.set{k q q':Lk}(h:jY n q L xs q' L')(a:q.m=k.m):jY n (k.set q) L xs (k.set q') L':=by
 induction h with
 |nil=>exact .nil ..
 |snoc h hx ih=>exact .snoc ih<|hx.set<|h.m.trans a
def jY.dJ{fs:Nat->Zl}{k k':Lk}(h:jY n k L xs k' L')(a:∀i (h:i<xs.length),fs (n+i)=xs[i]):dJ fs n k L xs.length=bO (k',L'):=by
 induction h with
 |nil=>rfl
 |snoc h hx ih=>
  rename_i xs x
  have b:=ih fun i c=>by
   rw[a i<|by simp;omega,XU c]
  rw[zj,jd,Rp b,a xs.length<|by simp];simpa using hx.eP
def jY.ne{k k':Lk}(h:jY n k L xs k' L'):∀x∈xs,x≠[]:=by
 induction h with
 |nil=>simp
 |snoc h hx ih=>
  intro x b;rcases Je.1 b with a|a
  exact ih x a;rw[jp.1 a];exact hx.ne
def jY.more{k k' k'':Lk}{L L' L'':KV}{x z:Zl}(h:jY n k L (xs++[x]) k' L')(a:recs k' L' z=bO (k'',L'',[])):jY n k L (xs++[x++z]) k'' L'':=by
 generalize hys:xs++[x]=ys at h;cases h with
 |nil=>simp at hys
 |snoc h hx=>
  obtain⟨rfl,e⟩:=List.append_inj' hys rfl;cases e;exact .snoc h<|hx.more a
def jY.new{k k' k'':Lk}{L L' L'':KV}{z:Zl}(h:jY n k L xs k' L')(a:z≠[])(b:recs k' L' z=bO (k'',L'',[])):jY n k L (xs++[nE (n+xs.length) (k'.cnt+1)++z]) k'' L'':= .snoc h (.new a b)
def Y0(k:Lk)(F:Ym):Lk:=if qu F 0=[]then k else k.begun (iL<|qu F 0) k.mp
structure wY(m:Zl)(F:Ym)(L0:KV)(xs:List Zl)(q:Lk)(L:KV):Prop where
 m32:m.length=32
 X_:qu F 0≠[]->qJ m (q.cnt:Int) (qu F 0)
 st0:(qu F 0=[]->L0=[])/\(qu F 0≠[]->Y6 (iL<|qu F 0) F (Xz m (iL<|qu F 0).ep)=bO L0)
 log:jY ((Y0 (Jp m [] 0 0 0) F).base.toNat+1) (Y0 (Jp m [] 0 0 0) F) L0 xs q L
 dY:∀i (h:i<xs.length),qu F (((Y0 (Jp m [] 0 0 0) F).base.toNat+1+i:Nat):Int)=xs[i]
 stop:qu F (((Y0 (Jp m [] 0 0 0) F).base.toNat+1+xs.length:Nat):Int)=[]
 low:(Y0 (Jp m [] 0 0 0) F).base.toNat+xs.length<=9999
 own:∀n,qu F n≠[]->n=0\/n=(Y0 (Jp m [] 0 0 0) F).dK\/((Y0 (Jp m [] 0 0 0) F).base<n/\n<=(Y0 (Jp m [] 0 0 0) F).base+xs.length)
def Us(k:Lk)(F:Ym)(hk:k.base=0):(Y0 k F).base=(Y0 (Jp k.m [] 0 0 0) F).base:=by
 unfold Y0;split;exact hk;rfl
def AR(m:Zl)(F:Ym):0<=(Y0 (Jp m [] 0 0 0) F).base:=by
 unfold Y0;split;exact Int.le_refl _;exact Int.natCast_nonneg _
def Ni:∀(n b:Nat),b+n<=9999->(∀i,i<n->qu F ((b+1+i:Nat):Int)≠[])->qu F ((b+1+n:Nat):Int)=[]->Jl F b=b+n
 |0,b,h,h1,h2=>ZJ fun a=>a.2 h2
 |n+1,b,h,h1,h2=>by
  rw[Rn (by omega)<|h1 0<|by omega,Ni n (b+1) (by omega) (fun i c=>by have:=h1 (i+1) (by omega);rwa[show b+1+1+i=b+1+(i+1) by omega])<|by rwa[show b+1+1+n=b+1+(n+1) by omega]];omega
def wY.start{m:Zl}{L0 L:KV}{q:Lk}(h:wY m F L0 xs q L)(mark:Zl)(op:Int)(mp:Nat){tc:Nat}(c:q.cnt<=tc):Wr (Jp m mark tc op mp) F=bO (Y0 (Jp m mark tc op mp) F,L0):=by
 unfold Wr Y0;by_cases a:qu F 0=[];rw[aA a,aA a,h.st0.1 a];rw[aB a,aB a];have b:=h.X_ a;rw[aA (show qJ (Jp m mark tc op mp).m (Jp m mark tc op mp).tc (qu F 0)from⟨b.len,b.head,b.ep,b.tag,Int.le_trans b.cnt<|Int.ofNat_le.2 c⟩)];have:=h.st0.2 a;rw[show(Jp m mark tc op mp).m=m from rfl,this];rfl
open Classical in
theorem look_at{m mark:Zl}{F:Ym}{L0 L:KV}{xs:List Zl}{q:Lk}(h:wY m F L0 xs q L){tc:Nat}(htc:q.cnt<=tc){op:Int}{mp:Nat}:
  Yu (Jp m mark tc op mp) F=if sS ({Y0 (Jp m mark tc op mp) F with last:=(Y0 (Jp m [] 0 0 0) F).base+xs.length}.set q)then bO ({Y0 (Jp m mark tc op mp) F with last:=(Y0 (Jp m [] 0 0 0) F).base+xs.length}.set q,L)else bN:=by
 have g:=h.start mark op mp htc;have c:(Y0 (Jp m mark tc op mp) F).base=(Y0 (Jp m [] 0 0 0) F).base:=Us (Jp m mark tc op mp) F rfl;have n:=AR m F;have b:Jl F (Y0 (Jp m mark tc op mp) F).base.toNat=(Y0 (Jp m [] 0 0 0) F).base.toNat+xs.length:=by
  rw[c];exact Ni _ _ h.low (fun i j=>by rw[h.dY i j];exact h.log.ne _<|Zn j) h.stop
 have f:∀l,({Y0 (Jp m mark tc op mp) F with last:=l}:Lk)=({Y0 (Jp m mark tc op mp) F with last:=l}:Lk).set (Y0 (Jp m [] 0 0 0) F):=fun l=>by
  unfold Y0;split<;>rfl
 have o:(Y0 (Jp m [] 0 0 0) F).m=m:=by unfold Y0;split<;>rfl
 have d:(Y0 (Jp m mark tc op mp) F).m=m:=by unfold Y0;split<;>rfl
 have a:=(h.log.set (k:={Y0 (Jp m mark tc op mp) F with last:=(((Y0 (Jp m [] 0 0 0) F).base.toNat+xs.length:Nat):Int)})<|o.trans d.symm).dJ (fs:=fun i=>qu F (i:Int)) h.dY;rw[<-f]at a;dsimp only at a;rw[c]at a;unfold Yu;rw[g];simp only;rw[b,c,Nat.add_sub_cancel_left,a];simp only;have e:(((Y0 (Jp m [] 0 0 0) F).base.toNat+xs.length:Nat):Int)=(Y0 (Jp m [] 0 0 0) F).base+xs.length:=by omega
 rw[e]
def PF{m mark:Zl}{L0 L:KV}{q:Lk}(h:wY m F L0 xs q L)(op:Int)(mp:Nat)(a:q.tag=mark):
  Yu (Jp m mark q.cnt op mp) F=bO ({Y0 (Jp m mark q.cnt op mp) F with last:=(Y0 (Jp m [] 0 0 0) F).base+xs.length}.set q,L):=by
 rw[look_at h<|ze _];refine aA<|.inl ⟨?_, ?_⟩;show(q.cnt:Int)=(Y0 (Jp m mark q.cnt op mp) F).tc;unfold Y0;split<;>rfl
 show q.tag=(Y0 (Jp m mark q.cnt op mp) F).mark;rw[a];unfold Y0;split<;>rfl
structure fM(F:Ym):Prop where
 nd:(F.map (·.1)).Nodup
 ne:∀p∈F,p.2.1≠[]
def fM.nil:fM []:=⟨List.nodup_nil,by simp⟩
def zrd{v:Zl×Int}{x:Int}:x∈(fF F k v).map (·.1)↔x=k\/x∈F.map (·.1):=by
 induction F with
 |nil=>simp[fF]
 |cons p F ih=>
  obtain⟨a,b⟩:=p;unfold fF;by_cases h:k=a;subst h;rw[aA rfl];simp;rw[aB h];simp only[xq,xf,ih];constructor;rintro(e|e|e);exact .inr<|.inl e;exact .inl e;exact .inr<|.inr e;rintro(e|e|e);exact .inr<|.inl e;exact .inl e;exact .inr<|.inr e
def zrc{k x:Int}(h:x∈(V6 F k).map (·.1)):x∈F.map (·.1):=by
 obtain⟨p,a,rfl⟩:=qp.1 h;exact qp.2 ⟨p,EM a,rfl⟩
def xnj(h:(F.map (·.1)).Nodup)(k:Int)(v:Zl×Int):((fF F k v).map (·.1)).Nodup:=by
 induction F with
 |nil=>simp[fF]
 |cons p F ih=>
  obtain⟨c,d⟩:=p;rw[xq,Zr]at h;unfold fF;by_cases e:k=c;subst e;rw[aA rfl,xq,Zr];exact h;rw[aB e,xq,Zr];refine⟨fun b=>?_,ih h.2⟩;rcases zrd.1 b with a|a
  exact e a.symm;exact h.1 a
def xni(h:(F.map (·.1)).Nodup)(k:Int):((V6 F k).map (·.1)).Nodup:=by
 induction F with
 |nil=>simp[V6]
 |cons p F ih=>
  obtain⟨b,c⟩:=p;rw[xq,Zr]at h;unfold V6;by_cases e:k=b;rw[aA e];exact h.2;rw[aB e,xq,Zr];exact⟨fun a=>h.1<|zrc a,ih h.2⟩
def zww(h:k∉F.map (·.1)):J9 F k=bN:=by
 induction F with
 |nil=>rfl
 |cons p F ih=>
  obtain⟨a,b⟩:=p;simp only[xq,xf,not_or]at h;unfold J9;rw[aB h.1,ih h.2]
def DH(k:Int)(v:Zl×Int):J9 (fF F k v) k=bO v:=by
 induction F with
 |nil=>simp[fF,J9]
 |cons p F ih=>
  obtain⟨a,b⟩:=p;unfold fF;by_cases e:k=a;rw[aA e];simp[J9];rw[aB e];simp only[J9];rw[aB e,ih]
def Ri(h:(F.map (·.1)).Nodup)(k:Int):J9 (V6 F k) k=bN:=by
 induction F with
 |nil=>rfl
 |cons p F ih=>
  obtain⟨a,b⟩:=p;rw[xq,Zr]at h;unfold V6;by_cases e:k=a;rw[aA e];subst e;exact zww h.1;rw[aB e];simp only[J9];rw[aB e,ih h.2]
def uS(h:fM F)(n:Int)(f:Zl×Int)(k:Int):qu (Yx F n f) k=if k=n then f.1 else qu F k:=by
 by_cases e:k=n;subst e;rw[aA rfl];unfold Yx;by_cases a:f.1=[];rw[aA a];unfold qu;rw[Ri h.nd];exact a.symm;rw[aB a];unfold qu;rw[DH];rfl;rw[aB e];unfold qu;rw[zt8 e]
def KW(h:fM F)(n k:Int):qu (V6 F n) k=if k=n then []else qu F k:=by
 by_cases e:k=n;subst e;rw[aA rfl];unfold qu;rw[Ri h.nd];rfl;rw[aB e];unfold qu;rw[Me e]
def fM.del(h:fM F)(n:Int):fM<|V6 F n:=⟨xni h.nd n,fun p a=>h.ne p<|EM a⟩
def fM.lay(h:fM F)(n:Int)(f:Zl×Int):fM<|Yx F n f:=by
 unfold Yx;by_cases a:f.1=[];rw[aA a];exact h.del n;rw[aB a];refine⟨xnj h.nd n f,fun p b=>?_⟩;rcases Uy b with rfl|b
 exact a;exact h.ne p b
def fM.mem(h:fM F):k∈F.map (·.1)↔qu F k≠[]:=by
 constructor;intro d;have c:=zlt d;obtain⟨v,a⟩:=Option.isSome_iff_exists.1 c;have:=h.ne _<|v_ a;unfold qu;rw[a];exact this;intro b;cases a:J9 F k with
 |none=>exfalso;apply b;unfold qu;rw[a];rfl
 |some v=>exact qp.2 ⟨_,v_ a,rfl⟩
def fM.nums(h:fM F):k∈Xs F↔qu F k≠[]:=LZ.trans h.mem
def zz7(k:Int)(v:Zl×Int):J6 (fF F k v)+((qu F k).length:Int)=J6 F+(v.1.length:Int):=by
 induction F with
 |nil=>simp[fF,J6,qu,J9]
 |cons p F ih=>
  obtain⟨a,b⟩:=p;unfold fF;by_cases e:k=a;rw[aA e];simp only[J6,xq,Vq,qu,J9,aA e,jv];omega;rw[aB e];simp only[J6,xq,Vq,qu,J9,aB e]at ih⊢;omega
def ZH(k:Int):J6 (V6 F k)+((qu F k).length:Int)=J6 F:=by
 induction F with
 |nil=>simp[V6,J6,qu,J9]
 |cons p F ih=>
  obtain⟨a,b⟩:=p;unfold V6;by_cases e:k=a;rw[aA e];simp only[J6,xq,Vq,qu,J9,aA e,jv];omega;rw[aB e];simp only[J6,xq,Vq,qu,J9,aB e]at ih⊢;omega
def Oq(k:Int)(f:Zl×Int):J6 (Yx F k f)+((qu F k).length:Int)=J6 F+(f.1.length:Int):=by
 unfold Yx;by_cases a:f.1=[];rw[aA a,ZH,a];simp;rw[aB a,zz7]
section
variable {m:List UInt8} {F F':Ym} {L0 L L':KV} {xs:List<|List UInt8} {q q':Lk} {z first:List UInt8} {p:Nat}
abbrev jT(m:Zl)(F:Ym):Nat:=(Y0 (Jp m [] 0 0 0) F).base.toNat
def OK(k:Lk)(h:qu F' 0=qu F 0):Y0 k F'=Y0 k F:=by unfold Y0;rw[h]
def P9(m:Zl)(F:Ym):(Y0 (Jp m [] 0 0 0) F).dK=0\/∃n:Nat,(Y0 (Jp m [] 0 0 0) F).dK=(n:Int)/\qu F 0≠[]/\n=(iL<|qu F 0).file/\0<(iL<|qu F 0).len:=by
 unfold Y0;by_cases h:qu F 0=[];rw[aA h];exact .inl rfl;rw[aB h];unfold Lk.begun;simp only;by_cases a:0<(iL<|qu F 0).len;rw[aA a];exact .inr ⟨_,rfl,h,rfl,a⟩;rw[aB a];exact .inl rfl
def rL{mf:Mf}{ck:Zl}{KL:KV}(h:Y6 mf F ck=bO KL)(a:0<mf.len):mf.file=10001\/mf.file=10002:=by
 unfold Y6 nN at h;rw[aA a]at h;split at h;split at h
 assumption
 cases h;cases h
def zyp{mf:Mf}{ck:Zl}(h:0<mf.len->(mf.file=10001\/mf.file=10002)->qu F' mf.file=qu F mf.file):Y6 mf F' ck=Y6 mf F ck:=by
 unfold Y6 nN;by_cases a:0<mf.len;rw[aA a,aA a];by_cases c:mf.len<=16384;rw[aA c,aA c];by_cases b:mf.file=10001\/mf.file=10002;rw[aA b,aA b,h a b];rw[aB b,aB b];rw[aB c,aB c];rw[aB a,aB a]
def wY.uO(h:wY m F L0 xs q L)(g:n<=10000)(c:n≠0):((n:Nat):Int)≠(Y0 (Jp m [] 0 0 0) F).dK:=by
 rcases P9 m F with e|⟨f,e,a,d,b⟩;rw[e];omega;rw[e];have:=rL (h.st0.2 a) b;omega
def wY.write(h:wY m F L0 xs q L)(E:recs q L z=bO (q',L',[]))(C:z≠[])(M:q.cnt<=q'.cnt)
  (D:(first=[]/\xs≠[]/\p=jT m F+xs.length)\/(first=nE (jT m F+xs.length+1) (q.cnt+1)/\p=jT m F+xs.length+1))(b:jT m F+xs.length+1<=9999)
  (f:∀k:Int,qu F' k=if k=(p:Int)then qu F p++(first++z)else qu F k):
  Y0 (Jp m [] 0 0 0) F'=Y0 (Jp m [] 0 0 0) F/\∃xs',wY m F' L0 xs' q' L'/\jT m F+xs'.length=p/\xs'≠[]:=by
 have G:=AR m F;have H:1<=p/\p<=9999:=by
  rcases D with⟨_,w,e⟩|⟨_,e⟩;have:=qb.2 w;omega;omega
 have j:qu F' 0=qu F 0:=by rw[f,aB<|by omega]
 have hk:Y0 (Jp m [] 0 0 0) F'=Y0 (Jp m [] 0 0 0) F:=OK _ j;have v:(qu F' 0=[]->L0=[])/\(qu F' 0≠[]->Y6 (iL<|qu F' 0) F' (Xz m (iL<|qu F' 0).ep)=bO L0):=by
  rw[j];refine⟨h.st0.1,fun x=>?_⟩;rw[zyp (F:=F) fun _ K=>by rw[f,aB<|by omega]];exact h.st0.2 x
 have g:qu F' 0≠[]->qJ m (q'.cnt:Int) (qu F' 0):=by
  rw[j];intro x;have:=h.X_ x;exact⟨this.len,this.head,this.ep,this.tag,by have:=this.cnt;omega⟩
 refine⟨hk, ?_⟩;rcases D with⟨rfl,w,e⟩|⟨rfl,e⟩
 obtain⟨s,y,rfl⟩:∃s y,xs=s++[y]:=⟨xs.dropLast,xs.getLast w,(List.dropLast_concat_getLast w).symm⟩;simp only[zj,jd]at e b;have J:qu F p=y:=by
  have:=h.dY s.length (by simp);rw[XT<|by omega]at this;simp only[V9,List.getElem_cons_zero]at this;rw[<-this,e]
  congr 1
  simp only[jT];omega
 refine⟨s++[y++z],⟨h.m32,g,v, ?_, ?_, ?_, ?_, ?_⟩,by simp;omega,by simp⟩;rw[hk];exact h.log.more E;intro i B;simp only[zj,jd]at B;rw[hk,f];by_cases d:i<s.length;have:=h.dY i (by simp;omega);rw[XU d]at this⊢;rw[aB<|by simp only[jT]at e;omega];exact this;have:i=s.length:=by omega
 subst this;rw[aA<|by simp only[jT]at e;omega,XT<|by omega,J];simp;rw[hk,f,aB<|by simp only[jT]at e;simp only[zj,jd];omega];have:=h.stop;simpa using this;rw[hk];simp only[zj,jd];simp only[jT]at b;omega;intro n o;rw[hk];rw[f]at o;by_cases r:n=(p:Int);refine .inr<|.inr ?_;simp only[zj,jd];simp only[jT]at e;omega;rw[aB r]at o;simpa using h.own n o;have t:qu F p=[]:=by
  have:=h.stop;rw[<-this,e]
  congr 1
  simp only[jT];omega
 refine⟨xs++[nE (jT m F+1+xs.length) (q.cnt+1)++z],⟨h.m32,g,v, ?_, ?_, ?_, ?_, ?_⟩,by simp;omega,by simp⟩;rw[hk];exact h.log.new C E;intro i B;simp only[zj,jd]at B;rw[hk,f];by_cases d:i<xs.length;have:=h.dY i d;rw[XU d];rw[aB<|by simp only[jT]at e;omega];exact this;have:i=xs.length:=by omega
 subst this;rw[aA<|by simp only[jT]at e;omega,XT<|by omega,t];simp only[V9,List.getElem_cons_zero,jk]
 congr 2
 omega;rw[hk,f];simp only[zj,jd];rw[aB<|by simp only[jT]at e;omega];cases I:qu F (((Y0 (Jp m [] 0 0 0) F).base.toNat+1+(xs.length+1):Nat):Int)with
 |nil=>rfl
 |cons a l=>
  exfalso;rcases h.own _ (by rw[I];simp)with c|c|c
  omega;exact h.uO (by simp only[jT]at b;omega) (by omega) c;simp only[jT]at b;omega
 rw[hk];simp only[zj,jd];simp only[jT]at b;omega;intro n o;rw[hk];rw[f]at o;simp only[zj,jd];by_cases r:n=(p:Int);refine .inr<|.inr ?_;simp only[jT]at e;omega;rw[aB r]at o;rcases h.own n o with c|c|c
 exact .inl c;exact .inr<|.inl c;exact .inr<|.inr ⟨c.1,by omega⟩
end
end
end P
namespace P
open A.Tryq Go.RowKit
attribute [local go_sem] xe zv yN
def wM(s:Zl)(n:Nat):Zl:=(s++aM (n-s.length) 0).take n
def xoo(s:Zl)(n:Nat):(wM s n).length=n:=by simp[wM];omega
def Dr(s:Zl)(n:Nat)(t:n<=100)(i:Int)(l:i=(n:Int))(w:Zy):bE prog 27 #[zs s,zi i] w fun e w'=>e= .returned (zs<|wM s n)/\Below w.heap.size w w':=by
 subst l;go_enter func27.1,Tryz.ntmps27
 go_wp2
 go_loopw [0] (fun v wr=>∃k:Nat,(k=0\/s.length+k<=n)/\v=zs (s++aM k 0)/\Below w.heap.size w wr) (fun v _=>match v with| .string b=>n-b.size|_=>0)
 case atStart=>exact⟨0,Or.inl rfl,by simp,zr _ _⟩
 case round=>
  obtain⟨k,hk,rfl,g⟩:=hrel;have r:(s++aM k 0).length=s.length+k:=by simp
  have f:Hid<|s++aM (k+1) 0=(s++aM k 0)++[0]:=by
   show _=_;rw[Zq];congr 1;rw[<-List.replicate_succ']
  have d:Hid<|¬s.length+k<n->(s++aM k 0).take n=wM s n:=fun h=>by
   unfold wM;by_cases q:s.length<=n;have:k=n-s.length:=by omega
   rw[this];have m:k=0:=by omega
   have o:n-s.length=0:=by omega
   rw[m,o]
  by_cases c:s.length+k<n
  ·have x:((s.length:Nat):Int)+(k:Int)<(n:Int):=by omega
   generalize s++aM k 0=X at*;have p:((X.length:Nat):Int)<(n:Int):=by omega
   go_wp2
   go_roundw
   case rel=>exact⟨k+1,Or.inr<|by omega,by rw[f.o];rfl,g⟩
   case measure=>(show n-(st<|X++[0]).size<n-(st X).size;rw[xe,xe,zj];simp;omega)
  have a:=d.o c;have j:=zl a;clear a d f;generalize s++aM k 0=X at*;have p:¬((X.length:Nat):Int)<(n:Int):=by omega
  have y:(n:Int)<=((X.length:Nat):Int):=by omega
  have z:(0:Int)<=(n:Int):=by omega
  go_wp2
  go_ret
  exact⟨by rw[<-j.o];rfl,g⟩
def Sr.new(room nW lim:Int)(m:Zl)(D M:Nat):Sr:=⟨nW,lim,D,⟨room,M,[],bN⟩,m,0,oV,0,bN⟩
def xpw(a d b:Int)(m:Zl)(K:0<=a)(L:a<=100000)(O:1<=d)(Q:d<=100000)(R:0<=b)(T:b<=999)(U:m.length=32)(w:Zy):
  bE prog 31 #[zi a,zi d,zi b,zs m] w fun e w'=>∃B D M,e= .returned (.tuple #[zo B,zi 0])/\w.heap.size<=B/\w.heap.size<=D/\w.heap.size<=M/\Below w.heap.size w w'/\Jq w' B (Sr.new a d b m D M):=by
 have V:¬a<0:=by omega
 have W:¬100000<a:=by omega
 have X:¬d<1:=by omega
 have Y:¬100000<d:=by omega
 have Z:¬b<0:=by omega
 have i6:¬999<b:=by omega
 have I:(m.length:Int)=32:=by omega
 go_enter func31.1,Tryz.ntmps31
 go_wp2_with fail
 refine(xma a _).mono ?_;rintro e w1 ⟨rfl,n,k,l⟩;have q:=zl k;have v:=zl l;have p:=zl n;clear k l n
 go_wp2_with fail
 have C:Hid<|xx (w1.alloc<|.cells #[zi d,zi b,zo<|w.heap.size+1,.string ⟨#[]⟩,zi 0,.string ⟨#[]⟩,zi 0,.pointer bN] 81) w1.heap.size #[zi d,zi b,zo<|w.heap.size+1,.string ⟨#[]⟩,zi 0,.string ⟨#[]⟩,zi 0,.pointer bN] 81:=xx.new _ _ _;have y:=zl<|v.o.but (S:=fun _=>False) (xb.alloc<|.cells #[zi d,zi b,zo<|w.heap.size+1,.string ⟨#[]⟩,zi 0,.string ⟨#[]⟩,zi 0,.pointer bN] 81) fun _ _=>id;have r:=zl<|q.o.alloc (by have:=p.o;omega)<|.cells #[zi d,zi b,zo<|w.heap.size+1,.string ⟨#[]⟩,zi 0,.string ⟨#[]⟩,zi 0,.pointer bN] 81;generalize w1.alloc (.cells #[zi d,zi b,zo<|w.heap.size+1,.string ⟨#[]⟩,zi 0,.string ⟨#[]⟩,zi 0,.pointer bN] 81)=w2 at*;refine(aE _).mono ?_;rintro e o ⟨rfl,i⟩;have g:=zl<|C.o.below i;have z:=zl<|y.o.but (S:=fun _=>False) (xb.of_below i) fun _ _=>id;have t:=zl<|Yg r.o i;have x3:=g.o.cell 3 rfl;have x4:=g.o.cell 4 rfl;have x5:=g.o.cell 5 rfl;have x6:=g.o.cell 6 rfl;have y3:=g.o.bT 3;have y4:=g.o.bT 4;have y5:=g.o.bT 5;have y6:=g.o.bT 6;have f:w.heap.size<=w1.heap.size:=by have:=p.o;omega
 have E:=(((g.o.set 3<|zs m).set 4<|zi 0).set 5<|zs oV).set 6<|zi 0;have j:w1.heap.size≠w.heap.size+1/\w1.heap.size≠w.heap.size:=by have:=p.o;omega
 have F:Hid<|∃B D M,Ending.returned (.tuple #[zo w1.heap.size,zi 0])= .returned (.tuple #[zo B,zi 0])/\w.heap.size<=B/\w.heap.size<=D/\w.heap.size<=M/\Below w.heap.size w ((((o.setCell (zq w1.heap.size 3)<|zs m).setCell (zq w1.heap.size 4)<|zi 0).setCell (zq w1.heap.size 5)<|zs oV).setCell (zq w1.heap.size 6)<|zi 0)/\Jq ((((o.setCell (zq w1.heap.size 3)<|zs m).setCell (zq w1.heap.size 4)<|zi 0).setCell (zq w1.heap.size 5)<|zs oV).setCell (zq w1.heap.size 6)<|zi 0) B (Sr.new a d b m D M):=by
  refine⟨w1.heap.size,w.heap.size+1,w.heap.size,rfl,f,by omega,ze _, ?_,E, ?_,fun s e=>by cases e⟩;exact(((t.o.setCell f _).setCell f _).setCell f _).setCell f _;have G:xb (·=w1.heap.size) o<|(((o.setCell (zq w1.heap.size 3)<|zs m).setCell (zq w1.heap.size 4)<|zi 0).setCell (zq w1.heap.size 5)<|zs oV).setCell (zq w1.heap.size 6)<|zi 0:=(((xb.set o (zq w1.heap.size 3) _).trans<|xb.set _ (zq w1.heap.size 4) _).trans<|xb.set _ (zq w1.heap.size 5) _).trans<|xb.set _ (zq w1.heap.size 6) _;refine z.o.but G fun x J e=>?_;have e:=e;rcases J with h|h|⟨c,H,_⟩
  exact j.1<|e.symm.trans h;exact j.2<|e.symm.trans h;cases H
 clear E j f i C y r g z t v q p
 go_wp2_with fail
 go_ret2
 exact F.o
end P
namespace P
open A.Tryq Go.RowKit
attribute [local go_sem] xe zv
section
variable {l:KV}
def iM(l:KV):Ze:=l.flatMap fun p=>[.string<|st p.1,.string<|st p.2]
def xL(w:Zy)(g:Nat)(l:KV):Prop:=∃cur:Za,w.heap[g]?=bO (.cells cur 43 (0,0))/\∀i (h:i<l.length),cur[2*i]?=bO (.string<|st l[i].1)/\cur[2*i+1]?=bO (.string<|st l[i].2)
def qW(w:Zy)(v:Zv)(l:KV):Prop:=∃p g cap,v= .slice p l.length cap/\l.length<=cap/\(l≠[]->p=bO ⟨g,0,bN⟩/\xL w g l)
def xL.cell{w:Zy}{g:Nat}(h:xL w g l)(i:Nat)(d:i<l.length):w.cell? (zq g<|i*2)=bO (.string<|st l[i].1)/\w.cell? (zq g<|i*2+1)=bO (.string<|st l[i].2):=by
 obtain⟨a,b,c⟩:=h;rw[Nat.mul_comm];simp only[World.cell?,b];simpa using c i d
def xL.but{S:ZP}{w w':Zy}{g:Nat}(h:xL w g l)(d:xb S w w')(e:¬S g):xL w' g l:=by
 obtain⟨a,b,c⟩:=h;exact⟨a,(d.block g (za.1 b).1 e).trans b,c⟩
def qW.nil(w:Zy):qW w (.slice bN 0 0) []:=⟨bN,0,0,rfl,ze _,fun h=>absurd rfl h⟩
def qW.but{S:ZP}{w w':Zy}{v:Zv}(h:qW w v l)(f:xb S w w')(j:∀g cur,w.heap[g]?=bO (.cells cur 43 (0,0))->¬S g):qW w' v l:=by
 obtain⟨p,g,a,d,e,b⟩:=h;exact⟨p,g,a,d,e,fun c=>⟨(b c).1,(b c).2.but f<|by obtain⟨cur,i,_⟩:=(b c).2;exact j g cur i⟩⟩
def N_:∀(l:KV) (i:Nat) (h:i<l.length),(iM l)[2*i]?=bO (.string<|st l[i].1)/\(iM l)[2*i+1]?=bO (.string<|st l[i].2)
 |p::l,0,_=>⟨rfl,rfl⟩
 |p::l,i+1,h=>by
  have:=N_ l i (by simpa using h);have e:iM (p::l)=zs p.1::zs p.2::iM l:=rfl;rw[e,show 2*(i+1)=2*i+1+1 by omega,show 2*i+1+1+1=(2*i+1)+1+1 by omega];simp only[Xb,List.getElem_cons_succ];exact this
def Uk{w:Zy}{B:Nat}{v:Zv}(h:w.ownsRow B 43 2 v l.length<|iM l):qW w v l:=by
 rcases h.2 with⟨f,k⟩|⟨g,c,a,q,s,m,o,r,t,p⟩;obtain rfl:=xa k;rw[f];exact qW.nil w;refine⟨_,g,c,q,o,fun _=>⟨rfl,a,m,fun i d=>?_⟩⟩;have b:∀j x,j<l.length*2->(iM l)[j]?=bO x->a[j]?=bO x:=fun j x n e=>by
  rw[<-p,Jf,aA n]at e;simpa using e
 exact⟨b _ _ (by omega) (N_ l i d).1,b _ _ (by omega) (N_ l i d).2⟩
structure gZ where
 kv:Zv
 sv:Zv
 kept:KV
 seen:KV
 pend:Nat
 ep:Nat
 recs:Nat
def gZ.cells(k:gZ):Za:=#[k.kv,k.sv,.int .i64 (k.pend:Int),.int .i64 (k.ep:Int),.int .i64 (k.recs:Int)]
structure W6(w:Zy)(b:Nat)(k:gZ):Prop where
 blk:xx w b k.cells 31
 kept:qW w k.kv k.kept
 seen:qW w k.sv k.seen
def xx.dR{w:Zy}{b:Nat}{cs:Za}{t:Zt}(h:xx w b cs t)(d:t≠43)(g:Nat)(a:Za)(c:w.heap[g]?=bO (.cells a 43 (0,0))):¬g=b:=fun e=>by
 subst e;unfold xx at h;rw[h]at c;cases c;exact d rfl
def kL(k v:Zl)(s:Bool×KV)(q:Zl×Zl):Bool×KV:=
 if s.1=bK/\k<=q.1 then(bL,if q.1=k then s.2++[(k,v)]else s.2++[(k,v)]++[q])else(s.1,if q.1=k then s.2 else s.2++[q])
def lH(l:KV)(k v:Zl)(gone:Bool):Bool×KV:=l.foldl (kL k v) (gone,[])
def Vc(l:KV)(k v:Zl)(gone:Bool):KV:=if(lH l k v gone).1=bK then(lH l k v gone).2++[(k,v)]else(lH l k v gone).2
def rS(l:KV)(k v:Zl)(a:Bool)(j:Nat)(h:j<l.length):lH (l.take<|j+1) k v a=kL k v (lH (l.take j) k v a) l[j]:=by
 unfold lH;rw[xy h,IJ];rfl
def OR(k v:Zl)(s:Bool×KV)(q:Zl×Zl):(kL k v s q).2.length<=s.2.length+2:=by
 unfold kL;split;split<;>simp
 split<;>simp
def OS(l:KV)(k v:Zl)(a:Bool):(lH l k v a).2.length<=2*l.length:=by
 unfold lH;have:∀(l:KV) (s:Bool×KV),(l.foldl (kL k v) s).2.length<=s.2.length+2*l.length:=by
  intro l;induction l with
  |nil=>intro s;simp
  |cons q l ih=>
   intro s;have b:=ih<|kL k v s q;have c:=OR k v s q;simp only[J4,zh];omega
 have:=this l (a,[]);simpa using this
def P_:prog.underlying 29=bO (.slice 43):=(cK 29).trans Tryz.underlying29
def xq8:∃i,prog.info? 43=bO i/\i.zero=bO (.agg #[.string ⟨#[]⟩,.string ⟨#[]⟩])/\i.size=2/\i.bytes=32:=by
 have h:(prog.info? 43).map (fun i=>(i.zero,i.size,i.bytes))=bO (bO<|.agg #[.string ⟨#[]⟩,.string ⟨#[]⟩],2,32):=by kernel_rfl
 cases hq:prog.info? 43 with
 |none=>rw[hq]at h;simp at h
 |some i=>
  rw[hq]at h;simp only[js,zp,qg]at h;exact⟨i,rfl,h.1,h.2.1,h.2.2⟩
def Cc(a b:Zl):(Op.bytesLess (st a).toList (st b).toList||(st a).toList==(st b).toList)=decide (a<=b):=by
 rw[xo,xo,bytesLess_eq];by_cases h:a<b;simp[h,List.le_of_lt h];by_cases c:a=b;subst c;simp;have d:¬a<=b:=fun d=>h<|Std.lt_of_le_of_ne d c;simp[h,c,d]
def Cb(l:KV)(lv:Zv)(b c:Zl)(a:Bool)(hl:l.length<=100000)(w:Zy)(h:qW w lv l):
  bE prog 17 #[lv,.agg #[.string<|st b,.string<|st c],.bool a] w fun e w'=>∃v,e= .returned v/\w'.ownsRow w.heap.size 43 2 v (Vc l b c a).length (iM<|Vc l b c a)/\Nw w w':=by
 obtain⟨bk,hi,bh,bi,bj⟩:=xq8;obtain⟨p,g,bu,rfl,bs,ba⟩:=h;have HR:Hid<|l≠[]->p=bO ⟨g,0,bN⟩/\xL w g l:=ba;have N0:Hid<|Nw w<|w.alloc<|.cells #[.string<|st b,.string<|st c] 43:=xb.alloc _;have X0:Hid<|xx (w.alloc<|.cells #[.string<|st b,.string<|st c] 43) w.heap.size #[.string<|st b,.string<|st c] 43:=xx.new _ _ _;have O0:Hid<|(w.alloc<|.cells #[.string<|st b,.string<|st c] 43).ownsRow (w.heap.size+1) 43 2 (.slice bN 0 0) 0 []:=Vl _ _ _ _;have S:Hid<|Vc l b c a=if(lH l b c a).1=bK then(lH l b c a).2++[(b,c)]else(lH l b c a).2:=rfl;clear ba;go_enter func17.1,Tryz.ntmps17
 go_wp2_with fail
 generalize w.alloc (.cells #[.string<|st b,.string<|st c] 43)=w1 at*
 go_loopw [7,8,9] (fun v d i wr=>∃j:Nat,j<=l.length/\i= .int .i64 j/\d= .bool (lH (l.take j) b c a).1/\wr.ownsRow (w.heap.size+1) 43 2 v (lH (l.take j) b c a).2.length (iM (lH (l.take j) b c a).2)/\Nw w wr/\xx wr w.heap.size #[.string<|st b,.string<|st c] 43) (fun _ _ i _=>(l.length-intOf i).toNat)
 case atStart=>exact⟨0,by omega,rfl,rfl,O0.o,N0.o,X0.o⟩
 case round=>
  obtain⟨j,hj,rfl,rfl,f,V,T⟩:=hrel;obtain⟨a4,y,rfl,k⟩:=Jh f;have E:=OS (l.take j) b c a;rw[xt]at E;by_cases U:j<l.length
  ·have i1:(j:Int)<(l.length:Nat):=by omega
   have i0:(0:Int)<=(j:Int):=by omega
   obtain⟨rfl,hr⟩:=HR.o (by intro e;rw[e]at U;cases U);have HQ:Hid<|∀w',Nw w w'->w'.cell? ⟨g,j*2,bN⟩=bO (.string<|st l[j].1)/\w'.cell? ⟨g,j*2+1,bN⟩=bO (.string<|st l[j].2):=fun w' hh=>(hr.but hh id).cell j U;have HT:Hid<|lH (l.take<|j+1) b c a=kL b c (lH (l.take j) b c a) l[j]:=rS l b c a j U;obtain⟨o,bf⟩:∃o,l[j].1=o:=⟨_,rfl⟩;obtain⟨G,bg⟩:∃G,l[j].2=G:=⟨_,rfl⟩;have bp:l[j]=(o,G):=by rw[<-bf,<-bg]
   rw[bf,bg]at HQ;rw[bp]at HT;clear bf bg bp hr;obtain⟨⟨dn,out⟩,D⟩:∃s,lH (l.take j) b c a=s:=⟨_,rfl⟩;rw[D]at HT f E;rw[D]at k;rw[D];simp only at f E k HT⊢;have R:Hid<|Nw w wr:=V;have J:Hid<|xx wr w.heap.size #[.string<|st b,.string<|st c] 43:=T;have L:Hid<|wr.ownsRow (w.heap.size+1) 43 2 (.slice a4 out.length y) out.length<|iM out:=f;clear D f V T;obtain⟨n,hn⟩:∃n,out.length=n:=⟨_,rfl⟩;have K:Hid<|out.length=n:=hn;rw[hn]at L E k⊢;clear hn;have br:n<=400000:=by omega
   by_cases F:dn=bK/\b<=o
   focus
    obtain⟨rfl,bn⟩:=F;have H1:Hid<|kL b c (bK,out) (o,G)=(bL,if o=b then out++[(b,c)]else out++[(b,c)]++[(o,G)]):=by show _=_;unfold kL;rw[aA ⟨rfl,bn⟩]
    have C:(Op.bytesLess (st b).toList (st o).toList||(st b).toList==(st o).toList)=bL:=by rw[Cc];simpa using bn
    have X:=J.o.cell (v:= .string _) 0 rfl;have Y:=J.o.cell (v:= .string _) 1 rfl;have r:=HQ.o _ R.o
    go_wp2_with fail
    go_quiet (fail)
    have N2:Hid<|Nw w<|wr.drewN nq:=R.o.trans (xb.refl _ _).drewN';have O2:Hid<|World.ownsRow (wr.drewN nq) (w.heap.size+1) 43 2 _ _ _:=L.o;have X2:Hid<|xx (wr.drewN nq) w.heap.size #[.string<|st b,.string<|st c] 43:=J.o;generalize wr.drewN nq=w2 at*;clear X Y r R J L C;have X:=X2.o.cell (v:= .string _) 0 rfl;have Y:=X2.o.cell (v:= .string _) 1 rfl
    go_wp2_with (refine wpList_append_lies _ rfl _ _ 29 rfl (w.heap.size+1) 43 bk _ 2 32 P_ hi bh bi bj rfl (by decide) (.slice a4 n y) n (iM out) rfl ?own _ 1 1 [.string<|st b,.string<|st c] rfl rfl ?nw ?o1 (by decide) ?m1 ?m2 ?m3 (w2.heap.size+1) ?m4 ?_)
    case own=>exact O2.o.alloc _
    case m1=>unfold maxLen;omega
    case m2=>omega
    case m3=>have:=N2.o.size;have:=X2.o.lt;simp;omega
    try case m4=>simp
    case o1=>first|exact⟨rfl,rfl⟩|(intro z m;simp at m;rcases m with rfl|rfl<;>rfl)
    try case nw=>
     intro j z m;cases j with
     |zero=>simp at m;subst m;simp[go_sem,Addr.add]
     |succ j=>cases j with
      |zero=>simp at m;subst m;simp[go_sem,Addr.add]
      |succ j=>simp at m
    intro g3 q H t B M bo;have I:Below (w.heap.size+1) (w2.alloc<|.cells #[.string<|st b,.string<|st c] 43) H:=(zr _ _).grown B (by have:=X2.o.lt;simp;omega)<|Vs O2.o;have N3:Hid<|Nw w H:=(N2.o.trans<|xb.alloc _).dH (I.mono<|by omega);have X3:Hid<|xx H w.heap.size #[.string<|st b,.string<|st c] 43:=(I.block _<|by omega).trans<|X2.o.alloc _;have O3:Hid<|H.ownsRow (w.heap.size+1) 43 2 (.slice (bO ⟨g3,0,bN⟩) (n+1) q) (n+1)<|iM<|out++[(b,c)]:=by
     show World.ownsRow _ _ _ _ _ _ _;rw[show iM (out++[(b,c)])=iM out++[.string<|st b,.string<|st c]from by simp[iM]];simpa using t
    have bd:Hid<|(out++[(b,c)]).length=n+1:=by show _=_;rw[zj,K.o];rfl
    clear t B M I O2 X Y N2 X2;generalize out++[(b,c)]=W at*;generalize bO (⟨g3,0,bN⟩:Addr)=a5 at*;have bq:n+1<=400001:=by omega
    generalize n+1=n5 at*
   rotate_left
   focus
    have H1:Hid<|kL b c (dn,out) (o,G)=(dn,if o=b then out else out++[(o,G)]):=by show _=_;unfold kL;rw[aB F]
    have C:dn=bK->(Op.bytesLess (st b).toList (st o).toList||(st b).toList==(st o).toList)=bK:=fun e=>by rw[Cc];simpa[e]using F
    obtain⟨W,rfl⟩:∃x,x=out:=⟨_,rfl⟩;obtain⟨n5,rfl⟩:∃x,x=n:=⟨_,rfl⟩;obtain⟨a5,rfl⟩:∃x,x=a4:=⟨_,rfl⟩;obtain⟨q,rfl⟩:∃x,x=y:=⟨_,rfl⟩;have bd:=zl K.o;have bq:n5<=400001:=by omega
    clear F;cases dn
    all_goals
     try replace C:=C rfl
     have X:=J.o.cell (v:= .string _) 0 rfl;have Y:=J.o.cell (v:= .string _) 1 rfl;have r:=HQ.o _ R.o
     go_wp2_with fail
     go_quiet (fail)
     have N3:Hid<|Nw w<|wr.drewN nq:=R.o.trans (xb.refl _ _).drewN';have O3:Hid<|World.ownsRow (wr.drewN nq) (w.heap.size+1) 43 2 _ _ _:=L.o;have X3:Hid<|xx (wr.drewN nq) w.heap.size #[.string<|st b,.string<|st c] 43:=J.o;generalize wr.drewN nq=H at*;clear X Y r R J L C
   all_goals
    by_cases Q:o=b
    all_goals
     have be:((st o).toList==(st b).toList)=decide (o=b):=by rw[xo,xo];by_cases h:o=b<;>simp[h]
     have HS:=zl H1.o
     first|rw[decide_eq_true Q]at be|rw[decide_eq_false Q]at be
     first|rw[aA Q]at HS|rw[aB Q]at HS
     have X:=X3.o.cell (v:= .string _) 0 rfl;have Y:=X3.o.cell (v:= .string _) 1 rfl;have r:=HQ.o _ N3.o;clear H1
     go_wp2_with fail
     go_quiet (fail)
     have N5:Hid<|Nw w<|H.drewN nq:=N3.o.trans (xb.refl _ _).drewN';have O5:Hid<|World.ownsRow (H.drewN nq) (w.heap.size+1) 43 2 _ _ _:=O3.o;have X5:Hid<|xx (H.drewN nq) w.heap.size #[.string<|st b,.string<|st c] 43:=X3.o;generalize H.drewN nq=w5 at*;clear X Y r be Q N3 O3 X3
    focus
     have OE:Hid<|w5.ownsRow (w.heap.size+1) 43 2 (.slice a5 n5 q) W.length<|iM W:=by
      show World.ownsRow _ _ _ _ _ _ _;rw[bd.o];exact O5.o
     go_wp2_with fail
    rotate_left
    focus
     have r:=HQ.o _ N5.o
     go_wp2_with (refine wpList_append_lies _ rfl _ _ 29 rfl (w.heap.size+1) 43 bk _ 2 32 P_ hi bh bi bj rfl (by decide) (.slice a5 n5 q) n5 (iM W) rfl ?own _ 1 1 [.string<|st o,.string<|st G] rfl rfl ?nw ?o1 (by decide) ?m1 ?m2 ?m3 (w5.heap.size+1) ?m4 ?_)
     case own=>exact O5.o.alloc _
     case m1=>unfold maxLen;omega
     case m2=>omega
     case m3=>have:=N5.o.size;have:=X5.o.lt;simp;omega
     try case m4=>simp
     case o1=>first|exact⟨rfl,rfl⟩|(intro z m;simp at m;rcases m with rfl|rfl<;>rfl)
     try case nw=>
      intro j z m;cases j with
      |zero=>simp at m;subst m;simp[go_sem,Addr.add]
      |succ j=>cases j with
       |zero=>simp at m;subst m;simp[go_sem,Addr.add]
       |succ j=>simp at m
     intro g6 bl w6 O Z bm bt;have bb:Below (w.heap.size+1) (w5.alloc<|.cells #[.string<|st o,.string<|st G] 43) w6:=(zr _ _).grown Z (by have:=X5.o.lt;simp;omega)<|Vs O5.o;replace N5:Hid<|Nw w w6:=(N5.o.trans<|xb.alloc _).dH (bb.mono<|by omega);replace X5:Hid<|xx w6 w.heap.size #[.string<|st b,.string<|st c] 43:=(bb.block _<|by omega).trans<|X5.o.alloc _;have OE:Hid<|w6.ownsRow (w.heap.size+1) 43 2 (.slice (bO ⟨g6,0,bN⟩) (n5+1) bl) (W++[(o,G)]).length<|iM<|W++[(o,G)]:=by
      show World.ownsRow _ _ _ _ _ _ _;rw[show(W++[(o,G)]).length=n5+1 from by rw[zj,bd.o];rfl,show iM (W++[(o,G)])=iM W++[.string<|st o,.string<|st G]from by simp[iM]];simpa using O
     clear O Z bm bb O5 r
     go_wp2_with fail
    all_goals
     go_roundw
     case rel=>exact⟨j+1,by omega,by go_num,by rw[HT.o,HS.o],by rw[HT.o,HS.o];exact OE.o,N5.o,X5.o⟩
     case measure=>simp[intOf];omega
  obtain rfl:j=l.length:=by omega
  have i1:¬(l.length:Int)<(l.length:Nat):=by omega
  rw[Yw]at*;have R:Hid<|Nw w wr:=V;have J:Hid<|xx wr w.heap.size #[.string<|st b,.string<|st c] 43:=T;obtain⟨⟨dn,out⟩,D⟩:∃s,lH l b c a=s:=⟨_,rfl⟩;rw[D]at f E k S;rw[D];simp only at f E k S⊢;have L:Hid<|wr.ownsRow (w.heap.size+1) 43 2 (.slice a4 out.length y) out.length<|iM out:=f;clear D f V T;obtain⟨n,hn⟩:∃n,out.length=n:=⟨_,rfl⟩;have K:Hid<|out.length=n:=hn;rw[hn]at L E k⊢;clear hn;have br:n<=400000:=by omega
  cases dn with
  |true=>
   have bc:Hid<|Vc l b c a=out:=by show _=_;rw[S.o,aB<|by simp]
   have OE:Hid<|wr.ownsRow w.heap.size 43 2 (.slice a4 n y) (Vc l b c a).length<|iM<|Vc l b c a:=by
    show World.ownsRow _ _ _ _ _ _ _;rw[bc.o,K.o];exact EG L.o<|by omega
   go_wp2_with fail
   go_ret
   exact⟨_,rfl,OE.o,R.o⟩
  |false=>
   have bc:Hid<|Vc l b c a=out++[(b,c)]:=by show _=_;rw[S.o,aA rfl]
   have X:wr.cell? ⟨w.heap.size,0,bN⟩=bO (.string<|st b):=J.o.cell 0 rfl;have Y:wr.cell? ⟨w.heap.size,1,bN⟩=bO (.string<|st c):=J.o.cell 1 rfl
   go_wp2_with (refine wpList_append_lies _ rfl _ _ 29 rfl (w.heap.size+1) 43 bk _ 2 32 P_ hi bh bi bj rfl (by decide) (.slice a4 n y) n (iM out) rfl ?own _ 1 1 [.string<|st b,.string<|st c] rfl rfl ?nw ?o1 (by decide) ?m1 ?m2 ?m3 (wr.heap.size+1) ?m4 ?_)
   case own=>exact L.o.alloc _
   case m1=>unfold maxLen;omega
   case m2=>omega
   case m3=>have:=R.o.size;have:=J.o.lt;simp;omega
   try case m4=>simp
   case o1=>first|exact⟨rfl,rfl⟩|(intro z m;simp at m;rcases m with rfl|rfl<;>rfl)
   try case nw=>
    intro j z m;cases j with
    |zero=>simp at m;subst m;simp[go_sem,Addr.add]
    |succ j=>cases j with
     |zero=>simp at m;subst m;simp[go_sem,Addr.add]
     |succ j=>simp at m
   intro g3 q H t B M bo;have I:Below (w.heap.size+1) (wr.alloc<|.cells #[.string<|st b,.string<|st c] 43) H:=(zr _ _).grown B (by have:=J.o.lt;simp;omega)<|Vs L.o;have N3:Hid<|Nw w H:=(R.o.trans<|xb.alloc _).dH (I.mono<|by omega);have O3:Hid<|H.ownsRow (w.heap.size+1) 43 2 (.slice (bO ⟨g3,0,bN⟩) (n+1) q) (n+1)<|iM out++[.string<|st b,.string<|st c]:=by show World.ownsRow _ _ _ _ _ _ _;simpa using t
   clear t B M I L;clear X Y;have OE:Hid<|H.ownsRow w.heap.size 43 2 (.slice (bO ⟨g3,0,bN⟩) (n+1) q) (Vc l b c a).length<|iM<|Vc l b c a:=by
    show World.ownsRow _ _ _ _ _ _ _;rw[bc.o,show(out++[(b,c)]).length=n+1 from by rw[zj,K.o];rfl,show iM (out++[(b,c)])=iM out++[.string<|st b,.string<|st c]from by simp[iM]];exact EG O3.o<|by omega
   go_wp2_with fail
   go_ret
   exact⟨_,rfl,OE.o,N3.o⟩
end
end P
namespace P
open Go.RowKit
section
variable {L:KV}
def iF(L L':KV):Prop:=Nd L/\Nd L'/\∀x,Zh L x=Zh L' x
def iF.rfl'(h:Nd L):iF L L:=⟨h,h,fun _=>rfl⟩
def iF.symm{L L':KV}(h:iF L L'):iF L' L:=⟨h.2.1,h.1,fun x=>(h.2.2 x).symm⟩
def iF.trans{L L' L'':KV}(h:iF L L')(k:iF L' L''):iF L L'':=⟨h.1,k.2.1,fun x=>(h.2.2 x).trans<|k.2.2 x⟩
def iF.app1{L L':KV}(h:iF L L')(c:dM):iF (app1 L c)<|app1 L' c:=⟨h.1.app1 c,h.2.1.app1 c,fun x=>by rw[QL h.1,QL h.2.1,h.2.2]⟩
def iF.app:∀(D:List dM) {L L':KV},iF L L'->iF (cO L D) (cO L' D)
 |[],_,_,h=>h
 |c::D,_,_,h=>iF.app D<|h.app1 c
def sD(l:KV):Prop:=l.Pairwise fun p q=>p.1<q.1
def fD(L:KV):KV:=(Vp L).map fun k=>(k,(Zh L k).getD [])
def YF{a b:Zl}(h:¬b<=a):a<b:=by
 rcases List.le_total a b with c|c;exact jr fun d=>h<|List.not_lt.1 d;exact absurd c h
def Nj{a b:Zl}(h:a<=b)(c:a≠b):a<b:=YF fun d=>c<|List.le_antisymm h d
def zxn{a b c:Zl}(h:a<b)(k:b<=c):a<c:=YF fun d=>by
 have:b<=a:=List.le_trans k d;have e:=List.le_antisymm this<|List.le_of_lt h;subst e;exact W9 _ h
def QJ(L:KV):(Vp L).Perm (L.map (·.1)):=Xw _ _
def cV(h:Nd L):(Vp L).Pairwise (·<·):=by
 have g:∀a b c:Zl,lT a b=bL->lT b c=bL->lT a c=bL:=fun a b c d e=>by simp only[lT,X9]at*;exact List.le_trans d e
 have f:∀a b:Zl,(lT a b||lT b a)=bL:=fun a b=>by simp only[lT,Yk,X9];exact List.le_total a b
 have d:(Vp L).Pairwise fun a b=>lT a b=bL:=PR g f _;have e:(Vp L).Pairwise fun a b=>a≠b:=(QJ L).nodup_iff.2 h;exact(d.and e).imp fun⟨a,b⟩=>Nj (by simpa[lT]using a) b
def KN(L:KV):(fD L).map (·.1)=Vp L:=by unfold fD;rw[uP];simp[PS]
def BF(h:Nd L):sD<|fD L:=by
 unfold sD fD;rw[List.pairwise_map];exact cV h
def Td(f:Zl->Zl)(x:Zl):∀ks:List Zl,Zh (ks.map fun k=>(k,f k)) x=if x∈ks then bO (f x)else bN
 |[]=>by simp[Zh]
 |k::ks=>by
  simp only[xq,Zh,xf];by_cases h:x=k;subst h;simp;rw[aB h,Td f x ks];simp[h]
def YI{x:Zl}(h:x∈L.map (·.1)):∃v,Zh L x=bO v:=by
 induction L with
 |nil=>cases h
 |cons p L ih=>
  obtain⟨k,v⟩:=p;unfold Zh;by_cases e:x=k;exact⟨v,aA e⟩;rw[aB e];exact ih<|by simpa[e]using h
def yH(L:KV)(x:Zl):Zh (fD L) x=Zh L x:=by
 unfold fD;rw[Td];by_cases h:x∈Vp L;rw[aA h];obtain⟨v,b⟩:=YI<|JH.1 h;rw[b];rfl;rw[aB h,QC fun a=>h<|JH.2 a]
def sD.nd{l:KV}(h:sD l):Nd l:=by
 unfold Nd;unfold sD at h;rw[List.nodup_iff_pairwise_ne,List.pairwise_map];exact h.imp fun a e=>by rw[e]at a;exact W9 _ a
def cX(h:Nd L):iF (fD L) L:=⟨(BF h).nd,h,yH L⟩
def sD.absent{p:Zl×Zl}{l:KV}(h:sD (p::l)){x:Zl}(hx:x<=p.1):Zh l x=bN:=by
 refine QC fun b=>?_;obtain⟨q,c,rfl⟩:=qp.1 b;have a:p.1<q.1:=(Yd.1 h).1 q c;exact W9 _<|zxn a hx
def RQ:∀{l l':KV},sD l->sD l'->(∀x,Zh l x=Zh l' x)->l=l'
 |[],[],_,_,_=>rfl
 |[],p::l',_,_,h=>by have:=h p.1;simp[Zh]at this
 |p::l,[],_,_,h=>by have:=h p.1;simp[Zh]at this
 |p::l,p'::l',h1,h2,h=>by
  have hk:p.1=p'.1:=by
   rcases List.le_total p.1 p'.1 with e|e;refine jr fun b=>?_;have a:=h p.1;simp only[Zh,if_true]at a;rw[aB b,h2.absent e]at a;cases a;refine jr fun b=>?_;have a:=h p'.1;simp only[Zh,if_true]at a;rw[aB fun e=>b e.symm,h1.absent e]at a;cases a
  have d:p.2=p'.2:=by
   have a:=h p.1;simp only[Zh,if_true]at a;rw[aA hk]at a;exact jf a
  have c:p=p':=Prod.ext hk d;subst c
  congr 1
  refine RQ (Yd.1 h1).2 (Yd.1 h2).2 fun x=>?_;by_cases e:x=p.1;subst e;rw[h1.absent<|List.le_refl _,h2.absent<|List.le_refl _];have a:=h x;simp only[Zh]at a;rwa[aB e,aB e]at a
def VK{L L':KV}(h:iF L L'):fD L=fD L':=RQ (BF h.1) (BF h.2.1) fun x=>by rw[yH,yH,h.2.2]
def qP(k v:Zl):KV->KV
 |[]=>[(k,v)]
 |q::l=>if k<=q.1 then(k,v)::(q::l).filter (fun p=>decide (p.1≠k))else q::qP k v l
def ZW(k v:Zl):∀(l acc:KV),l.foldl (kL k v) (bL,acc)=(bL,acc++l.filter (fun p=>decide (p.1≠k)))
 |[],acc=>by simp
 |q::l,acc=>by
  rw[J4];have:kL k v (bL,acc) q=(bL,if q.1=k then acc else acc++[q]):=by simp[kL]
  rw[this,ZW];by_cases h:q.1=k;simp[h];simp[h]
def Ov(k v:Zl):∀(l acc:KV),(if(l.foldl (kL k v) (bK,acc)).1=bK then(l.foldl (kL k v) (bK,acc)).2++[(k,v)]else(l.foldl (kL k v) (bK,acc)).2)=acc++qP k v l
 |[],acc=>by simp[qP]
 |q::l,acc=>by
  rw[J4];unfold qP;by_cases h:k<=q.1;have:kL k v (bK,acc) q=(bL,if q.1=k then acc++[(k,v)]else acc++[(k,v)]++[q]):=by simp[kL,h]
  rw[this,ZW,aA h,aB<|by simp];by_cases e:q.1=k;simp[e];simp[e];have a:q.1≠k:=fun e=>h (by rw[e];exact List.le_refl _);have:kL k v (bK,acc) q=(bK,acc++[q]):=by simp[kL,h,a]
  rw[this,Ov k v l,aB h];simp
def PA(l:KV)(k v:Zl):Vc l k v bK=qP k v l:=by
 unfold Vc lH;rw[Ov];simp
def sA(l:KV)(k v:Zl):Vc l k v bL=l.filter (fun p=>decide (p.1≠k)):=by
 unfold Vc lH;rw[ZW,aB<|by simp];simp
def QD(k x:Zl):∀l:KV,Zh (l.filter fun p=>decide (p.1≠k)) x=if x=k then bN else Zh l x
 |[]=>by simp[Zh]
 |q::l=>by
  obtain⟨a,b⟩:=q;by_cases h:a=k;subst h;rw[List.filter_cons_of_neg<|by simp,QD a x l];by_cases e:x=a;simp[e];simp[e,Zh];rw[List.filter_cons_of_pos<|by simpa using h];simp only[Zh];rw[QD k x l];by_cases e:x=a;subst e;simp[h];simp[e]
def Qr(k v x:Zl):∀l:KV,Zh (qP k v l) x=if x=k then bO v else Zh l x
 |[]=>by simp[qP,Zh]
 |q::l=>by
  obtain⟨a,c⟩:=q;unfold qP;by_cases h:k<=a;rw[aA h];show(if x=k then bO v else Zh (List.filter (fun p=>decide (p.1≠k)) ((a,c)::l)) x)=_;rw[QD];by_cases e:x=k;simp[e];simp[e];rw[aB h];have b:a≠k:=fun e=>h (by rw[e];exact List.le_refl _);simp only[Zh];rw[Qr k v x l];by_cases e:x=a;subst e;simp[b];simp[e]
def Uz{k v:Zl}{p:Zl×Zl}:∀{l:KV},p∈qP k v l->p=(k,v)\/p∈l
 |[],h=>by simpa[qP]using h
 |q::l,h=>by
  unfold qP at h;by_cases e:k<=q.1;rw[aA e]at h;rcases xf.1 h with h|h
  exact .inl h;exact .inr<|(IC.1 h).1;rw[aB e]at h;rcases xf.1 h with h|h
  exact .inr (by simp[h]);rcases Uz h with h|h
  exact .inl h;exact .inr<|xj _ h
def cW{k v:Zl}:∀{l:KV},sD l->sD (qP k v l)
 |[],_=>by simp[qP,sD]
 |q::l,h=>by
  have c:=Yd.1 h;unfold qP;by_cases e:k<=q.1;rw[aA e];refine Yd.2 ⟨fun p d=>?_,h.filter _⟩;obtain⟨f,a⟩:=IC.1 d;have a:p.1≠k:=by simpa using a
  refine Nj ?_ fun e=>a e.symm;rcases xf.1 f with rfl|b
  exact e;exact List.le_trans e<|List.le_of_lt<|c.1 p b;rw[aB e];refine Yd.2 ⟨fun p d=>?_,cW c.2⟩;rcases Uz d with rfl|b
  exact YF e;exact c.1 p b
def xoi(h:Nd L)(k v:Zl):fD (dA L k v)=Vc (fD L) k v bK:=by
 rw[PA];refine RQ (BF<|h.dA k v) (cW<|BF h) fun x=>?_;rw[yH,Qq,Qr,yH]
def xoh(h:Nd L)(k v:Zl):fD (dO L k)=Vc (fD L) k v bL:=by
 rw[sA];refine RQ (BF<|h.dO k) ((BF h).filter _) fun x=>?_;rw[yH,Qp h,QD,yH]
def Ti{k v:Zl}:∀{L:KV},k∉L.map (·.1)->dA L k v=L++[(k,v)]
 |[],_=>rfl
 |p::L,h=>by
  obtain⟨a,b⟩:=p;simp only[xq,xf,not_or]at h;unfold dA;rw[aB h.1,Ti h.2];rfl
def xrr{k:Zl}(h:k≠[]):[]<k:=by
 cases k with
 |nil=>exact absurd rfl h
 |cons a l=>exact List.nil_lt_cons a l
def Hc(k v:Zl)(r:Zl):lX k v++r≠[]:=by simp[lX,nb]
def Qx(g:Zl->Zl):∀(ks:List Zl) (ab:Zl) (acc:KV),(∀k∈ks,k≠[]/\k.length<=16/\(g k).length<=32)->ks.Pairwise (·<·)->(∀k∈ks,ab<k)->(∀k∈ks,k∉acc.map (·.1))->
  xM (ks.flatMap fun k=>lX k<|g k) ab acc=bO (acc++ks.map fun k=>(k,g k))
 |[],ab,acc,_,_,_,_=>by simp[cY]
 |k::ks,ab,acc,hok,hp,hab,hacc=>by
  obtain⟨d,e,f⟩:=hok k (by simp);have c:=Yd.1 hp;rw[PT,Qy<|Hc _ _ _,Nn d e f];simp only;rw[aA<|hab k<|by simp,Ti<|hacc k<|by simp,Qx g ks k (acc++[(k,g k)]) (fun x b=>hok x<|by simp[b]) c.2 c.1 fun x b a=>?_];simp;rw[Jd,Je]at a;rcases a with a|a
  exact hacc x (by simp[b]) a;have:x=k:=by simpa using a
  subst this;exact W9 _<|c.1 x b
def L9(h:jM L)(f:Nd L){k:Zl}(hk:k∈Vp L):k≠[]/\k.length<=16/\((Zh L k).getD []).length<=32:=by
 have c:=JH.1 hk;obtain⟨v,a⟩:=YI c;rw[a];have:∀{L:KV} {x v:Zl},Zh L x=bO v->(x,v)∈L:=by
  intro L;induction L with
  |nil=>intro x v h;cases h
  |cons p L ih=>
   intro x v h;obtain⟨d,g⟩:=p;unfold Zh at h;by_cases e:x=d;rw[aA e]at h;cases h;subst e;simp;rw[aB e]at h;exact xj _<|ih h
 have b:=h _<|this a;exact b
def zrl(a:Nd L)(ho:jM L):rH (Vf L)=bO (fD L):=by
 have h:=Qx (fun k=>(Zh L k).getD []) _ [] [] (fun k hk=>L9 ho a hk) (cV a) (fun k hk=>xrr (L9 ho a hk).1) (by simp);rw[jk]at h;exact h
def NP:List Nat->Prop
 |[]=>True
 |[n]=>0<n/\n<=64
 |n::m::ns=>n=64/\NP (m::ns)
def Br:∀(ps:List Zl),NP (ps.map List.length)->Yq ps.flatten=ps
 |[],_=>rfl
 |[p],h=>by
  have h:0<p.length/\p.length<=64:=h;have a:p≠[]:=qb.1 h.1;simp only[Wu,List.flatten_nil,Xq];rw[DY a,qj h.2,XV h.2];rfl
 |p::q::ps,h=>by
  have h:p.length=64/\NP ((q::ps).map List.length):=h;have a:p++(q::ps).flatten≠[]:=by
   intro e;have:=congrArg List.length e;simp only[zj,jn]at this;omega
  rw[Wu,DY a,Zd h.1,Z6 h.1,Br (q::ps) h.2]
def Oj:∀(n:Nat) (x:Zl),x.length<=n->NP ((Yq x).map List.length)
 |n,x,hn=>by
  by_cases b:x=[];subst b;rw[RD];trivial;have c:=qb.2 b;rw[DY b];by_cases hd:x.drop 64=[];rw[hd,RD];have a:=congrArg List.length hd;rw[jb,jn]at a;show 0<(x.take 64).length/\(x.take 64).length<=64;rw[xt];omega;have a:=qb.2 hd;rw[jb]at a
  match n,hn with
  |0,hn=>omega
  |n+1,hn=>
   have d:=Oj n (x.drop 64) (by rw[jb];omega);rw[DY hd]at d⊢;refine⟨?_,d⟩;rw[xt];omega
def Ps(m:Mf)(a:Zl)(xs:List Zl):(J8 m a xs).map List.length=xs.map List.length:=by
 apply Jt;intro i;simp only[J8,List.getElem?_map,List.getElem?_mapIdx,Option.map_map]
 congr 1
 funext x;exact yJ _ _ _
def LI(m:Mf)(a x:Zl):Yq (J8 m a<|Yq x).flatten=J8 m a (Yq x):=Br _<|by rw[Ps];exact Oj _ x<|ze _
def zE{m m':Mf}(a:Zl)(b:∀i,m'.fH i=m.fH i)(xs:List Zl):J8 m' a (J8 m a xs)=xs:=by
 apply Jt;intro i;simp only[J8,List.getElem?_mapIdx,Option.map_map];cases h:xs[i]?with
 |none=>rfl
 |some x=>
  simp only[js,Function.comp_apply,b];rw[Ra]
def DO:∀{xs ys:List Zl},xs.map List.length=ys.map List.length->xs.flatten.length=ys.flatten.length:=by
 intro xs ys h;rw[List.length_flatten,List.length_flatten,h]
def Lq(m:Mf)(a x:Zl):(J8 m a<|Yq x).flatten.length=x.length:=by
 rw[DO<|Ps m a<|Yq x,(DU x).2.2]
structure Mf.ok(m:Mf):Prop where
 ep:m.ep<=5
 op:m.op<65536
 cnt:m.cnt<4294967296
 bP:m.bP<65536
 base:m.base<4294967296
 file:m.file<65536
 len:m.len<4294967296
 root:m.root.length=32
 last:m.last.length=32
section
variable {m:Mf} (h:m.ok) (tk:List UInt8)
def Y_:oW (m.bS tk)=nb m.ep 1++(nb m.op 2++(nb m.cnt 4++(nb m.bP 2++(nb m.base 4++(nb m.file 2++(nb m.len 4++(m.root++(m.last++V1 tk m.text)))))))):=by
 simp[oW,Mf.bS,Mf.text]
def Z_:sM (m.bS tk)=nb m.op 2++(nb m.cnt 4++(nb m.bP 2++(nb m.base 4++(nb m.file 2++(nb m.len 4++(m.root++(m.last++V1 tk m.text))))))):=by
 rw[sM,Y_];exact Z6<|qt _ _
def Aa:rP (m.bS tk)=nb m.cnt 4++(nb m.bP 2++(nb m.base 4++(nb m.file 2++(nb m.len 4++(m.root++(m.last++V1 tk m.text)))))):=by
 rw[rP,Z_];exact Z6<|qt _ _
def Ab:sN (m.bS tk)=nb m.bP 2++(nb m.base 4++(nb m.file 2++(nb m.len 4++(m.root++(m.last++V1 tk m.text))))):=by
 rw[sN,Aa];exact Z6<|qt _ _
def Ad:rQ (m.bS tk)=nb m.base 4++(nb m.file 2++(nb m.len 4++(m.root++(m.last++V1 tk m.text)))):=by
 rw[rQ,Ab];exact Z6<|qt _ _
def Ae:sO (m.bS tk)=nb m.file 2++(nb m.len 4++(m.root++(m.last++V1 tk m.text))):=by
 rw[sO,Ad];exact Z6<|qt _ _
def Ag:rM (m.bS tk)=nb m.len 4++(m.root++(m.last++V1 tk m.text)):=by
 rw[rM,Ae];exact Z6<|qt _ _
def Ah:sP (m.bS tk)=m.root++(m.last++V1 tk m.text):=by
 rw[sP,Ag];exact Z6<|qt _ _
def Ai:rO (m.bS tk)=m.last++V1 tk m.text:=by
 rw[rO,Ah];exact Z6 h.root
def gR:vJ (m.bS tk)=V1 tk m.text:=by
 rw[vJ,Ai h];exact Z6 h.last
def Nk:iL (m.bS tk)=m:=by
 have a:(oW<|m.bS tk).take 1=nb m.ep 1:=by rw[Y_];exact Zd<|qt _ _
 have b:(sM<|m.bS tk).take 2=nb m.op 2:=by rw[Z_];exact Zd<|qt _ _
 have c:(rP<|m.bS tk).take 4=nb m.cnt 4:=by rw[Aa];exact Zd<|qt _ _
 have d:(sN<|m.bS tk).take 2=nb m.bP 2:=by rw[Ab];exact Zd<|qt _ _
 have e:(rQ<|m.bS tk).take 4=nb m.base 4:=by rw[Ad];exact Zd<|qt _ _
 have f:(sO<|m.bS tk).take 2=nb m.file 2:=by rw[Ae];exact Zd<|qt _ _
 have g:(rM<|m.bS tk).take 4=nb m.len 4:=by rw[Ag];exact Zd<|qt _ _
 have e8:(sP<|m.bS tk).take 32=m.root:=by rw[Ah];exact Zd h.root
 have i:(rO<|m.bS tk).take 32=m.last:=by rw[Ai h];exact Zd h.last
 obtain⟨j,k,l,n,o,p,q,r,s⟩:=h;unfold iL;rw[a,b,c,d,e,f,g,e8,i,wQ<|by omega,wQ<|by omega,wQ<|by omega,wQ<|by omega,wQ<|by omega,wQ<|by omega,wQ<|by omega]
def Lz:m.text.length=84:=by simp[Mf.text,qt,h.root,h.last]
def zxs{ma:Zl}{tc:Int}(a:(m.cnt:Int)<=tc):qJ ma tc<|m.bS<|Jm ma m.ep:=by
 have e:=Nk h<|Jm ma m.ep;refine⟨YR m _ h.root h.last, ?_,by rw[e];exact h.ep, ?_,by rw[e];exact a⟩;simp[Mf.bS,Mf.text];rw[gR h,e]
 congr 1
 exact(Zd<|Lz h).symm
end
end
end P
namespace P
open A.Tryq Go.RowKit
attribute [local go_sem] xe zv
end P
end Go.Proofs.YtjnbhiamaabbgaaGreatDoor
