import Derived.Test.YtjnbhiamaabbgabGreatDoorM5
import Derived.Stop.Asserts
import Derived.Lib.LaidTab
import Derived.Test.YtjnbhiamaabbgabGreatDoorCards
import Derived.Test.YtjnbhiamaabbgabGreatDoorTie
import Derived.Conc.LeavingOf
import Derived.OpenShut
import Derived.Deep.DeepHandedRow
import Derived.Stop.LaidTwo
set_option linter.all false
set_option maxRecDepth 100000
set_option maxHeartbeats 8000000
namespace Go.Proofs.YtjnbhiamaabbgabGreatDoor
open Bool renaming false->bK,true->bL
open Go renaming Calls->bE,execOp->bG,results->aN,undef->bJ
open Go.Frame renaming enter->bF
open Go.Proofs.Tryz renaming prog->bM
open Option renaming none->bN,some->bO
open _root_.Array renaming replicate->aW
namespace A
open Go Go.Conc
section
variable [pn:Pn]
section
variable {P:Program} {F:Array Func} {w:Zy} {a:Act} {Q:Exit->Act->Zy->Prop} {fn:FuncId} {ops:Array Oper} {i:Nat} {op:Oper} {rest:List Nat} {N:Act->Zy->Prop}
def oX.not(K:J0 P F)(m:¬Mc P fn)(ho:ops[i]?=bO op)(hw:Region.wanted op (yielded ops a.tmps)=bK)(h:N (a.put op.dst bJ) w):oX P fn ops Q i N a w:=fun c hk b k d f e g j l=>by
 refine RX.ctl K (g':=Z0 (b.at (a.put op.dst bJ) (.inRegion ops c::k)) d) (by show¬Mc P b.fn;rw[e];exact m) (fun v=>?_) rfl rfl rfl<|hk _ _ h b k d f e g j l;simp[stepG,Z0,Frame.at,stepG.exec,hw,Frame.finish,ho,Act.put];cases op.dst<;>exact⟨rfl,rfl⟩
end
end
end A
namespace P
open A.Tryq Go.RowKit
section
variable {F:Ym} {t:Int}
structure FI(F:Ym):Prop where
 gd:fM F
 each:jX F
 fl:∀n,(Vu F n).2=((qu F n).length:Int)
def j7{k n:Int}{f:Zl×Int}(h:k≠n):Vu (Yx F n f) k=Vu F k:=by unfold Vu;rw[zt8 h]
def FO(g:fM F){n:Int}{f:Zl×Int}(c:f.1=[]->f.2=0):Vu (Yx F n f) n=f:=by
 unfold Vu Yx;split
 rename_i h
 rw[Ri g.nd];obtain⟨a,b⟩:=f;simp only at h c;rw[h,c h];rfl;rw[DH];rfl
def vdv(g:fM F)(n k:Int):Vu (V6 F n) k=if k=n then([],0)else Vu F k:=by
 unfold Vu;split
 rename_i h;subst h;rw[Ri g.nd];rfl
 rename_i h;rw[Me h]
def FI.lay(h:FI F){n:Int}{x:Zl}(a:i64 n)(hx:x.length<=1000000):FI<|Yx F n (x,(x.length:Int)):=by
 refine⟨h.gd.lay _ _,h.each.lay a ⟨by simp,by simp,hx⟩,fun k=>?_⟩;by_cases e:k=n;subst e;rw[FO h.gd<|by intro e;simp only at e;simp[e],uS h.gd,aA rfl];rw[j7 e,h.fl,uS h.gd,aB e]
def FI.del(h:FI F)(n:Int):FI<|V6 F n:=by
 refine⟨h.gd.del n,fun p a=>h.each p<|EM a,fun k=>?_⟩;rw[vdv h.gd,KW h.gd];split;rfl;exact h.fl k
def vdi(f:0<=t):∀(ns:List Int) (F:Ym),ns.Nodup->(∀n∈ns,i64 n)->fM F->jX F->fM (ns.foldl (lose1 t) F)/\jX (ns.foldl (lose1 t) F)/\
  ∀k,(k∉ns->Vu (ns.foldl (lose1 t) F) k=Vu F k)/\(k∈ns->qu (ns.foldl (lose1 t) F) k=(qu F k).take (xB t<|Vu F k).toNat/\(Vu (ns.foldl (lose1 t) F) k).2=((qu (ns.foldl (lose1 t) F) k).length:Int))
 |[],F,_,_,g,e=>⟨g,e,fun k=>⟨fun _=>rfl,fun h=>by cases h⟩⟩
 |n::ns,F,hn,hi,g,e=>by
  have d:=Zr.1 hn;have q:fM<|lose1 t F n:=g.lay _ _;obtain⟨i,j,l⟩:=vdi f ns (lose1 t F n) d.2 (fun x v=>hi x<|by simp[v]) q (e.lose1 f<|hi n<|by simp);refine⟨i,j,fun k=>?_⟩;have b:∀{k},k≠n->Vu (lose1 t F n) k=Vu F k:=fun h=>j7 h;obtain⟨a,m⟩:=l k;refine⟨fun h=>?_,fun h=>?_⟩;have r:k≠n:=fun e=>h (by simp[e]);exact(a fun x=>h<|by simp[x]).trans<|b r;by_cases hk:k=n;subst hk;have a:=a d.1;have hd:Vu (lose1 t F k) k=((qu F k).take (xB t<|Vu F k).toNat,(((qu F k).take (xB t<|Vu F k).toNat).length:Int)):=FO g (by intro e;simp only at e;rw[e];rfl);have c:qu ((k::ns).foldl (lose1 t) F) k=(qu F k).take (xB t<|Vu F k).toNat:=by
   show(Vu (ns.foldl (lose1 t)<|lose1 t F k) k).1=_;rw[a,hd]
  refine⟨c,?_⟩;rw[c];show(Vu (ns.foldl (lose1 t)<|lose1 t F k) k).2=_;rw[a,hd];have s:k∈ns:=by rcases xf.1 h with h|h;exact absurd h hk;exact h
  obtain⟨o,p⟩:=m s;refine⟨?_,p⟩;show qu (ns.foldl (lose1 t)<|lose1 t F n) k=_;rw[o,b hk,show qu (lose1 t F n) k=qu F k from congrArg Prod.fst<|b hk]
def vcl(g:fM F):(Xs F).Nodup:=((Xw _ _).nodup_iff).2 g.nd
def vdf(v:0<=t)(g:fM F)(e:jX F):FI (NU t F)/\∀k,qu (NU t F) k=(qu F k).take (xB t<|Vu F k).toNat:=by
 have q:∀n∈Xs F,i64 n:=fun n r=>by
  have:n∈F.map (·.1):=((Xw _ _).mem_iff).1 r;obtain⟨p,s,rfl⟩:=qp.1 this;exact(e p s).1
 obtain⟨f,i,b⟩:=vdi v (Xs F) F (vcl g) q g e;have a:∀k,qu (NU t F) k=(qu F k).take (xB t<|Vu F k).toNat/\(Vu (NU t F) k).2=((qu (NU t F) k).length:Int):=fun k=>by
  by_cases h:k∈Xs F;exact(b k).2 h;have j:=(b k).1 h;have c:qu F k=[]:=jr fun x=>h<|g.nums.2 x;have l:k∉F.map (·.1):=fun x=>g.mem.1 x c;have m:Vu F k=([],0):=by unfold Vu;rw[zww l];rfl
  have d:Vu (NU t F) k=([],0):=j.trans m;have o:qu (NU t F) k=[]:=congrArg Prod.fst d;rw[o,c,d];exact⟨by simp,rfl⟩
 exact⟨⟨f,i,fun k=>(a k).2⟩,fun k=>(a k).1⟩
def FI.lost(c:0<=t)(h:FI F):FI (NU t F)/\∀k,qu (NU t F) k=qu F k:=by
 obtain⟨a,b⟩:=vdf c h.gd h.each;refine⟨a,fun k=>?_⟩;rw[b k,show xB t (Vu F k)=((qu F k).length:Int)from ?_];simp;unfold xB;have:=h.fl k;have e:(Vu F k).1=qu F k:=rfl;rw[e];omega
def FI.dD(i:0<=t)(h:FI F){p:Int}(d:i64 p){x:Zl}(hx:(qu F p).length+x.length<=1000000):∃j:Nat,(j:Int)<=t/\FI (NU t<|Yx F p (qu F p++x,(Vu F p).2))/\∀k,qu (NU t<|Yx F p (qu F p++x,(Vu F p).2)) k=if k=p then qu F p++x.take j else qu F k:=by
 have g:=h.gd.lay p (qu F p++x,(Vu F p).2);have c:=h.fl p;have e:=h.each.lay (f:=(qu F p++x,(Vu F p).2)) d ⟨by rw[c];simp,by rw[c];simp only[zj];omega,by simp only[zj];omega⟩;obtain⟨a,b⟩:=vdf i g e;refine⟨(min t x.length).toNat,by omega,a,fun k=>?_⟩;rw[b k,uS h.gd];by_cases hk:k=p;subst hk;rw[aA rfl,aA rfl,FO h.gd (by
  intro e;simp only[List.append_eq_nil_iff]at e;rw[c,e.1];rfl)]
 unfold xB;simp only;rw[c,zj,show(((qu F k).length:Int)+min t (((qu F k).length+x.length:Nat)-((qu F k).length:Int))).toNat=(qu F k).length+(min t x.length).toNat by omega,List.take_length_add_append];rw[aB hk,aB hk,j7 hk];have:=h.fl k;have e:(Vu F k).1=qu F k:=rfl;rw[show xB t (Vu F k)=((qu F k).length:Int) by unfold xB;rw[e];omega];simp
def vee{a b:List Int}(h:a.Perm b):a.sum=b.sum:=by
 induction h with
 |nil=>rfl
 |cons x _ ih=>rw[Vq,Vq,ih]
 |swap x y l=>simp only[Vq];omega
 |trans _ _ h1 h2=>exact h1.trans h2
def vbt(g:fM F):J6 F=((F.map (·.1)).map fun n=>((qu F n).length:Int)).sum:=by
 unfold J6;rw[uP]
 congr 1
 refine List.map_congr_left fun p a=>?_;have:J9 F p.1=bO p.2:=by
  have h:=g.nd;clear g;induction F with
  |nil=>cases a
  |cons q F ih=>
   obtain⟨k,v⟩:=q;have b:=Zr.1 h;unfold J9;rcases xf.1 a with rfl|a
   rw[aA rfl];rw[aB fun e=>b.1<|by rw[<-e];exact qp.2 ⟨p,a,rfl⟩];exact ih a b.2
 show _=((qu F p.1).length:Int);unfold qu;rw[this];rfl
def Vc{F G:Ym}(f:fM F)(g:fM G)(e:∀n,qu G n=qu F n):J6 G=J6 F:=by
 rw[vbt f,vbt g,show(fun n=>((qu G n).length:Int))=fun n=>((qu F n).length:Int)from funext fun n=>by rw[e]];exact vee<|((List.perm_ext_iff_of_nodup g.nd f.nd).2 fun n=>by rw[f.mem,g.mem,e]).map _
def vce{m mark plain:Zl}{c:Z8}{ep op cnt j:Nat}(g:plain.length<65536)(i:j<(Y5 m mark [c] ep op cnt plain).length):X7 ((Y5 m mark [c] ep op cnt plain).take j)=bK:=by
 have k:=QT m mark [c] ep op cnt plain rfl;have e:(Y5 m mark [c] ep op cnt plain)=Wv [c] ep op cnt plain.length++(qE m [c] ep op cnt plain++(nH m mark [c] ep op cnt plain++[])):=by
  have:=@ZU m mark c ep op cnt plain [];rwa[Xq]at this
 have d:eT (Y5 m mark [c] ep op cnt plain)=plain.length:=by rw[e];exact n_ g
 have a:((Y5 m mark [c] ep op cnt plain).take j).length=j:=by rw[xt];omega
 unfold X7;rw[a];refine decide_eq_false fun⟨b,h⟩=>?_;have f:eT ((Y5 m mark [c] ep op cnt plain).take j)=plain.length:=by
  rw[<-D3,List.take_take,Vg b,D3,d]
 omega
def vcr{k q:Lk}{L L':KV}{a:Nat}{x y:Zl}(h:oZ k L a x q L')(f:q.last=(a:Int))(hy:y≠[])(g:X7 y=bK):eP k L a (x++y)=bO ({q with dD:=bL,whole:=(x.length:Int)},L'):=by
 obtain⟨b,rfl,d,e⟩:=h;have c:=zz6 a<|k.cnt+1;have j:=qb.2 d;have l:=qb.2 hy;have i:(nE a (k.cnt+1)++b++y).take 9=83::(nb a 4++nb (k.cnt+1) 4):=by rw[Zq];exact Zd c
 have hd:(nE a (k.cnt+1)++b++y).drop 9=b++y:=by rw[Zq];exact Z6 c
 unfold eP;rw[aA<|by simp only[zj];omega,aB<|by simpa using i,hd,Ns _ y (ze _) e,KH g];simp only[zj,c];rw[aB<|by omega,show 9+b.length+y.length-y.length=9+b.length by omega];unfold Wq;rw[aA<|by omega,aA f.symm]
def vdx{k:Lk}{L:KV}{a j:Nat}{z:Zl}(g:k.last=(a:Int))(m:j<9+z.length)(f:0<j)(h:∀i,i<z.length->X7 (z.take i)=bK):eP k L a ((nE a (k.cnt+1)++z).take j)=bO ({k with dD:=bL,whole:=0},L):=by
 have d:=zz6 a<|k.cnt+1;have b:((nE a (k.cnt+1)++z).take j).length=j:=by rw[xt,zj,d];omega
 have e:Wq k L a j 0=bO ({k with dD:=bL,whole:=0},L):=by
  unfold Wq;rw[aA f,aA g.symm];rfl
 unfold eP;rw[b];by_cases c:9<=j;have l:((nE a (k.cnt+1)++z).take j).take 9=83::(nb a 4++nb (k.cnt+1) 4):=by rw[List.take_take,Vg c];exact Zd d
 have hd:((nE a (k.cnt+1)++z).take j).drop 9=z.take (j-9):=by rw[List.drop_take,Z6 d]
 rw[aA c,aB<|by simpa using l,hd,KH<|h _<|by omega];simp only[xt];rw[aA<|by omega];exact e;rw[aB c];exact e
section
variable {m mark:Zl} {F G:Ym} {L0 L:KV} {xs:List<|Zl} {q:Lk} {tc:Nat} {op:Int} {mp:Nat}
def NL(k:Lk)(F:Ym):(Y0 k F).m=k.m/\(Y0 k F).tc=k.tc/\(Y0 k F).mark=k.mark:=by unfold Y0;split<;>exact⟨rfl,rfl,rfl⟩
def wY.begin(h:wY m F L0 xs q L)(d:qu G 0=qu F 0)(c:qu G (Y0 (Jp m [] 0 0 0) F).dK=qu F (Y0 (Jp m [] 0 0 0) F).dK)(a:qu F 0≠[]->qJ m tc (qu F 0)):
  Wr (Jp m mark tc op mp) G=bO (Y0 (Jp m mark tc op mp) F,L0):=by
 unfold Wr Y0;rw[d];by_cases e:qu F 0=[];rw[aA e,aA e,h.st0.1 e];rw[aB e,aB e,aA (show qJ (Jp m mark tc op mp).m (Jp m mark tc op mp).tc (qu F 0)from a e)];have b:Y6 (iL<|qu F 0) G (Xz m (iL<|qu F 0).ep)=Y6 (iL<|qu F 0) F (Xz m (iL<|qu F 0).ep):=zyp fun f _=>by
  have:(Y0 (Jp m [] 0 0 0) F).dK=((iL<|qu F 0).file:Int):=by unfold Y0;rw[aB e];exact aA f
  rw[this]at c;exact c
 rw[show(Jp m mark tc op mp).m=m from rfl,b,h.st0.2 e];rfl
def wY.look(h:wY m F L0 xs q L)(e:qu G 0=qu F 0)(o:qu G (Y0 (Jp m [] 0 0 0) F).dK=qu F (Y0 (Jp m [] 0 0 0) F).dK)(b:qu F 0≠[]->qJ m tc (qu F 0)){N:Nat}(j:jT m F+N<=9999)(f:∀i,i<N->qu G ((jT m F+1+i:Nat):Int)≠[])(g:qu G ((jT m F+1+N:Nat):Int)=[]){c:Lk}{d:KV}
  (a:dJ (fun i=>qu G (i:Int)) (jT m F+1) {Y0 (Jp m mark tc op mp) F with last:=((jT m F+N:Nat):Int)} L0 N=bO (c,d))(l:sS c):Yu (Jp m mark tc op mp) G=bO (c,d):=by
 have k:(Y0 (Jp m mark tc op mp) F).base=(jT m F:Int):=by
  rw[Us (Jp m mark tc op mp) F rfl];have:=AR m F;show(Y0 (Jp m [] 0 0 0) F).base=(((Y0 (Jp m [] 0 0 0) F).base.toNat:Nat):Int);omega
 have n:Jl G (jT m F)=jT m F+N:=Ni _ _ j f g;refine sL (h.begin e o b) k ?_ l;rw[n,Nat.add_sub_cancel_left];exact a
def vex(l:Int):({Y0 (Jp m mark tc op mp) F with last:=l}:Lk)=({Y0 (Jp m mark tc op mp) F with last:=l}:Lk).set (Y0 (Jp m [] 0 0 0) F):=by
 unfold Y0;split<;>rfl
def wY.logs{b:List Zl}{k':Lk}{L':KV}(h:jY (jT m F+1) (Y0 (Jp m [] 0 0 0) F) L0 b k' L')(l:Int)(c:∀i (h:i<b.length),qu G ((jT m F+1+i:Nat):Int)=b[i]):
  dJ (fun i=>qu G (i:Int)) (jT m F+1) {Y0 (Jp m mark tc op mp) F with last:=l} L0 b.length=bO (({Y0 (Jp m mark tc op mp) F with last:=l}:Lk).set k',L'):=by
 have a:=(h.set (k:={Y0 (Jp m mark tc op mp) F with last:=l})<|(NL _ _).1.trans (NL (Jp m mark tc op mp) F).1.symm).dJ (fs:=fun i=>qu G (i:Int)) c;rwa[<-vex]at a
def vdc{k:Lk}(hk:k.tc=(tc:Int)/\k.mark=mark)(c:(q.cnt=tc/\q.tag=mark)\/(q.cnt=tc+1/\q.ahead=mark)):sS<|k.set q:=by
 rcases c with⟨a,b⟩|⟨a,b⟩;exact .inl ⟨by show(q.cnt:Int)=k.tc;rw[hk.1,a],by show q.tag=k.mark;rw[hk.2,b]⟩;exact .inr ⟨by show(q.cnt:Int)=k.tc+1;rw[hk.1,a];rfl,by show q.ahead=k.mark;rw[hk.2,b]⟩
def wY.vdy(h:wY m F L0 xs q L)(d:qu G 0=qu F 0)(j:qu G (Y0 (Jp m [] 0 0 0) F).dK=qu F (Y0 (Jp m [] 0 0 0) F).dK)(c:qu F 0≠[]->qJ m tc (qu F 0))
  (e:∀i,i<xs.length->qu G ((jT m F+1+i:Nat):Int)=qu F ((jT m F+1+i:Nat):Int))(f:qu G ((jT m F+1+xs.length:Nat):Int)=[])(g:(q.cnt=tc/\q.tag=mark)\/(q.cnt=tc+1/\q.ahead=mark)):
  Yu (Jp m mark tc op mp) G=bO ({Y0 (Jp m mark tc op mp) F with last:=((jT m F+xs.length:Nat):Int)}.set q,L):=by
 have a:∀i (h:i<xs.length),qu G ((jT m F+1+i:Nat):Int)=xs[i]:=fun i b=>(e i b).trans<|h.dY i b;exact h.look d j c h.low (fun i b=>by rw[a i b];exact h.log.ne _<|Zn b) f (wY.logs h.log _ a)<|vdc ⟨(NL _ _).2.1,(NL _ _).2.2⟩ g
def wY.vdt{x y:Zl}(h:wY m F L0 (xs++[x]) q L)(j:qu G 0=qu F 0)(r:qu G (Y0 (Jp m [] 0 0 0) F).dK=qu F (Y0 (Jp m [] 0 0 0) F).dK)(d:qu F 0≠[]->qJ m tc (qu F 0))
  (l:∀i,i<xs.length->qu G ((jT m F+1+i:Nat):Int)=qu F ((jT m F+1+i:Nat):Int))(hx:qu G ((jT m F+1+xs.length:Nat):Int)=x++y)(n:qu G ((jT m F+1+(xs.length+1):Nat):Int)=[])(hy:y≠[])(p:X7 y=bK)(o:q.cnt=tc/\q.tag=mark):
  Yu (Jp m mark tc op mp) G=bO ({{Y0 (Jp m mark tc op mp) F with last:=((jT m F+(xs.length+1):Nat):Int)}.set q with dD:=bL,whole:=(x.length:Int)},L):=by
 have b:∀i (h:i<xs.length),qu G ((jT m F+1+i:Nat):Int)=xs[i]:=fun i f=>by
  rw[l i f,h.dY i<|by simp;omega,XU f]
 have c:=h.low;have a:=h.log;generalize hys:xs++[x]=ys at a;cases a with
 |nil=>simp at hys
 |snoc hl hx'=>
  obtain⟨rfl,e⟩:=List.append_inj' hys rfl;cases e;refine h.look j r d (N:=xs.length+1) (by simpa using c) (fun i f=>?_) n ?_ ?_;by_cases g:i<xs.length;rw[b i g];exact h.log.ne _ (by simp);rw[show i=xs.length by omega,hx];simp[hy];rw[Rp<|wY.logs hl _ b,hx];exact vcr (hx'.set (k:={Y0 (Jp m mark tc op mp) F with last:=((jT m F+(xs.length+1):Nat):Int)})<|(hl.m.trans (NL _ _).1).trans (NL (Jp m mark tc op mp) F).1.symm) (by show((jT m F+(xs.length+1):Nat):Int)=_;omega) hy p;exact vdc (k:={Y0 (Jp m mark tc op mp) F with last:=((jT m F+(xs.length+1):Nat):Int),dD:=bL,whole:=(x.length:Int)}) ⟨(NL _ _).2.1,(NL _ _).2.2⟩<|.inl o
def wY.veo{z:Zl}{j:Nat}(h:wY m F L0 xs q L)(l:qu G 0=qu F 0)(t:qu G (Y0 (Jp m [] 0 0 0) F).dK=qu F (Y0 (Jp m [] 0 0 0) F).dK)(d:qu F 0≠[]->qJ m tc (qu F 0))
  (n:∀i,i<xs.length->qu G ((jT m F+1+i:Nat):Int)=qu F ((jT m F+1+i:Nat):Int))(hx:qu G ((jT m F+1+xs.length:Nat):Int)=(nE (jT m F+1+xs.length) (q.cnt+1)++z).take j)(o:qu G ((jT m F+1+(xs.length+1):Nat):Int)=[])(r:j<9+z.length)(g:0<j)(s:∀i,i<z.length->X7 (z.take i)=bK)(c:jT m F+(xs.length+1)<=9999)(p:q.cnt=tc/\q.tag=mark):
  Yu (Jp m mark tc op mp) G=bO ({{Y0 (Jp m mark tc op mp) F with last:=((jT m F+(xs.length+1):Nat):Int)}.set q with dD:=bL,whole:=0},L):=by
 have a:∀i (h:i<xs.length),qu G ((jT m F+1+i:Nat):Int)=xs[i]:=fun i f=>(n i f).trans<|h.dY i f;refine h.look l t d (N:=xs.length+1) c (fun i f=>?_) o ?_ ?_;by_cases b:i<xs.length;rw[a i b];exact h.log.ne _<|Zn b;rw[show i=xs.length by omega,hx];intro e;have:=congrArg List.length e;rw[xt,zj,zz6,jn]at this;omega;rw[Rp<|wY.logs h.log _ a,hx];exact vdx (k:={Y0 (Jp m mark tc op mp) F with last:=((jT m F+(xs.length+1):Nat):Int)}.set q) (by show((jT m F+(xs.length+1):Nat):Int)=((jT m F+1+xs.length:Nat):Int);omega) r g s;exact vdc (k:={Y0 (Jp m mark tc op mp) F with last:=((jT m F+(xs.length+1):Nat):Int),dD:=bL,whole:=0}) ⟨(NL _ _).2.1,(NL _ _).2.2⟩<|.inl p
end
def H0{k:Lk}:∀(ns:List Int) (d:Dk),d.nx=bN->FI d.L->∃F',jA k ns d=(bL,{d with L:=F'})/\FI F'/\∀n,qu F' n=if n∈ns/\pJ k n=bK then []else qu d.L n
 |[],d,_,hg=>⟨d.L,rfl,hg,fun n=>by simp⟩
 |n::ns,d,hx,hg=>by
  cases h:pJ k n with
  |true=>
   obtain⟨F',a,b,c⟩:=H0 ns d hx hg;refine⟨F',by unfold jA;rw[aA h];exact a,b,fun j=>?_⟩;rw[c j];by_cases e:j=n;subst e;simp[h];simp[e]
  |false=>
   obtain⟨F',a,b,c⟩:=H0 ns {d with L:=V6 d.L n} hx<|hg.del n;refine⟨F',?_,b,fun j=>?_⟩;unfold jA;rw[aB<|by rw[h];simp,zY hx,aB<|by simp,Eg hx];exact a;rw[c j];simp only;rw[KW hg.gd];by_cases e:j=n;subst e;simp[h];simp[e]
def NW{k:Lk}{d:Dk}(hx:d.nx=bN)(f:FI d.L)(g:∀n,pJ k n=bL->qu d.L n=qu F n)(h:∀n,qu F n≠[]->pJ k n=bL):∃F',qC k d=(bL,k,{d with L:=F'})/\FI F'/\∀n,qu F' n=qu F n:=by
 obtain⟨F',a,b,c⟩:=H0 (k:=k) (Xs d.L) d hx f;refine⟨F',by unfold qC;rw[a],b,fun n=>?_⟩;rw[c n];cases e:pJ k n with
 |true=>rw[aB<|by simp];exact g n e
 |false=>
  have i:qu F n=[]:=jr fun x=>by rw[h n x]at e;cases e
  rw[i];split;rfl
  rename_i hn
  exact jr fun x=>hn ⟨f.gd.nums.2 x,rfl⟩
def wY.same{m:Zl}{F G:Ym}{c L:KV}{xs:List Zl}{q:Lk}(h:wY m F c xs q L)(e:∀n,qu G n=qu F n):wY m G c xs q L:=by
 have hk:Y0 (Jp m [] 0 0 0) G=Y0 (Jp m [] 0 0 0) F:=OK _<|e 0;have g:∀a b,Y6 a G b=Y6 a F b:=fun a b=>zyp fun _ _=>e _;refine⟨h.m32,by rw[e];exact h.X_,by rw[e];simp only[g];exact h.st0,by rw[hk];exact h.log,by rw[hk];exact fun i d=>(e _).trans<|h.dY i d,by rw[hk];exact(e _).trans h.stop,by rw[hk];exact h.low,by rw[hk];exact fun n f=>h.own n<|by rw[<-e];exact f⟩
def Sr.off(r:Sr):Sr:={r with d:={r.d with nx:=bN}}
def Arm(x:Option<|Nat×Int×Int):Prop:=∀c,x=bO c->0<=c.2.1/\c.2.1<=1000/\0<=c.2.2/\c.2.2<=1000
structure j6(r:Sr)(s:Jo):Prop where
 inv:Wy r.off s
 gs:FI r.d.L
 nx:Arm r.d.nx
def Arm.step{d:Dk}(h:Arm d.nx):(d.stops=bK/\Arm d.tick.nx/\(d.nx=bN->d.tick.nx=bN))\/(d.stops=bL/\d.nx≠bN/\∃t,0<=t/\d.lost={d with nx:=bN,L:=NU t d.L}/\∀c,d.nx=bO c->t=c.2.2):=by
 obtain⟨j,M,L,nx⟩:=d;cases nx with
 |none=>exact .inl ⟨rfl,(fun c f=>by cases f),fun _=>rfl⟩
 |some c=>
  obtain⟨b,a,t⟩:=c;obtain⟨k,l,g,m⟩:=h _ rfl;simp only at k l g m;by_cases i:a<=0;exact .inr ⟨by simp[Dk.stops,i],by simp,t,g,rfl,fun c f=>by cases f;rfl⟩;refine .inl ⟨by simp[Dk.stops,i],fun c f=>?_,fun e=>by cases e⟩;have f:bO (b,a-1,t)=bO c:=f;cases f;simp only;omega
structure OV(r r0:Sr)(s0:Jo)(mp:Nat)(k:Lk)(L:KV):Prop where
 look:Yu (Jp r.m r.mark r.cnt ((r.op+1:Nat):Int) mp) r.d.L=bO (k,L)
 mend:(Xi k r.d).1=bL
 dD:k.dD=bL->0<=k.whole/\k.whole<=((qu r.d.L k.last).length:Nat)
 rC:0<=k.last/\k.last<=10000
 cnt:k.cnt=r0.cnt
 inv:∀S,r.op<999->j6 (Wp r k S L) (V4 S (Xi k r.d).2.1 L)
 M:(Xi k r.d).2.2.M=r.d.M
 nx:(Xi k r.d).2.2.nx=bN
 same:iF L s0.L
 ep:(Xi k r.d).2.1.ep=s0.ep
def F2(r r0:Sr)(s0:Jo):Prop:=∀mp,∃k L,OV r r0 s0 mp k L
structure vec(r r0:Sr):Prop where
 m:r.m=r0.m
 lim:r.lim=r0.lim
 room:r.d.room=r0.d.room
 nx:r.d.nx=bN
section
variable {r r0:Sr} {s0:Jo} {L0 L Lq:KV} {xs:List<|Zl} {q k k':Lk} {F':Ym} {mp:Nat}
def Rw(I:Wy r0 s0)(D:MP r0 s0 L0 xs q Lq)(h:vec r r0)(hk:Yu (Jp r.m r.mark r.cnt ((r.op+1:Nat):Int) mp) r.d.L=bO (k,L))(b:Xi k r.d=(bL,k',{r.d with L:=F'}))(gs:FI F')(o:∀n,qu F' n=qu r0.d.L n)
  (x:k.dD=bL->0<=k.whole/\k.whole<=((qu r.d.L k.last).length:Nat))(y:0<=k.last/\k.last<=10000)(s:k.cnt=r0.cnt)(z:k.tag=r0.mark)(t:k'.base=s0.base)(v:k'.last=s0.last)(w:k'.named=s0.named)(l:k'.ep=s0.ep)(i:iF L s0.L):OV r r0 s0 mp k L:=by
 have hd:(Xi k r.d).2.2={r.d with L:=F'}:=by rw[b]
 have g:(Xi k r.d).2.1=k':=by rw[b]
 refine⟨hk,by rw[b],x,y,s,fun S C=>⟨?_,by show FI (Xi k r.d).2.2.L;rw[hd];exact gs,by show Arm (Xi k r.d).2.2.nx;rw[hd];show Arm r.d.nx;rw[h.nx];exact fun c B=>by cases B⟩,by rw[hd],by rw[hd];exact h.nx,i,by rw[g];exact l⟩;rw[g];have e:(Wp r k S L).off.d.L=F':=by show(Xi k r.d).2.2.L=F';rw[hd]
 have j:(Wp r k S L).off.m=r0.m:=h.m;have f:(Wp r k S L).off.cnt=r0.cnt:=s;have p:(Wp r k S L).off.mark=r0.mark:=z;have a:Y0 (Jp r0.m [] 0 0 0) F'=Y0 (Jp r0.m [] 0 0 0) r0.d.L:=OK _<|o 0;refine⟨⟨L0,xs,q,Lq,?_⟩,by rw[p];exact I.mark,by rw[e];exact gs.gd,by rw[e];exact gs.each,rfl,?_,?_,?_,?_,by rw[f];exact I.cnt,by simp[V4],by simp[V4],i.sK I.sK,?_,?_,?_,?_,by simp[V4]⟩;refine⟨by rw[j,e];exact D.ok.same o,by rw[f];exact D.cnt,by rw[p];exact D.tag,?_,D.same.trans i.symm,?_,?_,?_⟩;show q.ep=k'.ep;rw[l];exact D.ep;show k'.base=(Y0 (Jp (Wp r k S L).off.m [] 0 0 0) (Wp r k S L).off.d.L).base;rw[j,e,a,t];exact D.base;show k'.last=k'.base+xs.length;rw[v,t];exact D.last;show k'.named=(Y0 (Jp (Wp r k S L).off.m [] 0 0 0) (Wp r k S L).off.d.L).named;rw[j,e,a,w];exact D.named;show(Xi k r.d).2.2.room=100000;rw[hd];show r.d.room=_;rw[h.room];exact I.room;show r.lim=999;rw[h.lim];exact I.lim;rw[e,f,Vc I.gd gs.gd o];exact I.fus;rw[f];show k'.last<=_;rw[v];exact I.rC;rw[f];show L.length<=_;rw[i.len];exact I.len;show k'.ep<=5;rw[l];exact I.ep;show r.op+1<=999;omega;show k'.named=0\/k'.named=10001\/k'.named=10002;rw[w];exact I.named
def vcc(I:Wy r0 s0)(D:MP r0 s0 L0 xs q Lq):((jT r0.m r0.d.L:Nat):Int)=s0.base:=by
 have a:=D.base;have b:=I.base0;show(((Y0 (Jp r0.m [] 0 0 0) r0.d.L).base.toNat:Nat):Int)=_;rw[<-a];omega
def FK(I:Wy r0 s0)(D:MP r0 s0 L0 xs q Lq)(f:vec r r0)(gs:FI r.d.L)(l:∀n,n=0\/n=(Y0 (Jp r0.m [] 0 0 0) r0.d.L).dK\/(s0.base<n/\n<=s0.last)->qu r.d.L n=qu r0.d.L n)(p:qu r.d.L (s0.last+1)=[])
  (h:qu r0.d.L 0≠[]->qJ r0.m r.cnt (qu r0.d.L 0))(C:(q.cnt=r.cnt/\q.tag=r.mark)\/(q.cnt=r.cnt+1/\q.ahead=r.mark)):F2 r r0 s0:=fun mp=>by
 have z:=vcc I D;have E:=D.last;have B:=I.base0;have t:=D.ok.low;have v:=I.rC;have s:=I.cnt;have g:=D.ok.vdy (G:=r.d.L) (mark:=r.mark) (tc:=r.cnt) (op:=((r.op+1:Nat):Int)) (mp:=mp) (l 0<|.inl rfl) (l _<|.inr<|.inl rfl) h (fun i J=>l _<|.inr<|.inr<|by omega) (by rw[<-p];congr 1;omega) C;rw[<-f.m]at g;obtain⟨k,hk⟩:∃k,k=({Y0 (Jp r.m r.mark r.cnt ((r.op+1:Nat):Int) mp) r0.d.L with last:=((jT r.m r0.d.L+xs.length:Nat):Int)}:Lk).set q:=⟨_,rfl⟩;rw[<-hk]at g;rw[<-f.m]at z;have kb:k.base=s0.base:=by rw[hk,D.base,<-f.m];exact Us (Jp r.m r.mark r.cnt ((r.op+1:Nat):Int) mp) r0.d.L rfl
 have kl:k.last=s0.last:=by rw[hk];show((jT r.m r0.d.L+xs.length:Nat):Int)=_;omega
 have H:k.named=s0.named:=by rw[hk,D.named,<-f.m];show(Y0 _ _).named=_;unfold Y0;split<;>rfl
 have w:k.dK=(Y0 (Jp r0.m [] 0 0 0) r0.d.L).dK:=by rw[hk,<-f.m];show(Y0 _ _).dK=_;unfold Y0;split<;>rfl
 have x:k.dD=bK:=by rw[hk];show(Y0 _ _).dD=_;unfold Y0;split<;>rfl
 obtain⟨y,a,b,c⟩:=NW (k:=k) (F:=r0.d.L) f.nx gs (fun n j=>l n (by
   unfold pJ at j;rw[w,kb,kl]at j;simpa using j)) (fun n j=>by
   unfold pJ;rw[w,kb,kl];have:=D.ok.own n j;rw[<-D.base]at this;rw[D.last];simpa using this)
 have o:Xi k r.d=(bL,k,{r.d with L:=y}):=by
  unfold Xi;rw[x,aB<|by simp,aB<|by simp];exact a
 exact⟨k,Lq,Rw I D f g o b c (fun e=>by rw[x]at e;cases e) (by rw[kl];omega) (by rw[hk];exact D.cnt) (by rw[hk];exact D.tag) kb kl H (by rw[hk];exact D.ep) D.same⟩
def vdb{y:Zl}(I:Wy r0 s0)(D:MP r0 s0 L0 xs q Lq)(f:vec r r0)(gs:FI r.d.L)(t:xs≠[])(z:∀n,qu r.d.L n=if n=s0.last then qu r0.d.L s0.last++y else qu r0.d.L n)(hy:y≠[])(W:X7 y=bK)(N:r.cnt=r0.cnt)(E:r.mark=r0.mark):F2 r r0 s0:=fun mp=>by
 have M:=vcc I D;have B:=D.last;have V:=I.base0;have p:=D.ok.low;have Q:=I.rC;have O:=I.cnt;obtain⟨j,x,rfl⟩:∃j x,xs=j++[x]:=⟨xs.dropLast,xs.getLast t,(List.dropLast_concat_getLast t).symm⟩;simp only[zj,jd]at B p;have v:qu r0.d.L s0.last=x:=by
  have:=D.ok.dY j.length (by simp);rw[XT<|by omega]at this;simp only[V9,List.getElem_cons_zero]at this;rw[<-this]
  congr 1
  have U:(((Y0 (Jp r0.m [] 0 0 0) r0.d.L).base.toNat:Nat):Int)=s0.base:=M;omega
 have J:x≠[]:=D.ok.log.ne x (by simp);have ne:∀{n},n≠s0.last->qu r.d.L n=qu r0.d.L n:=fun h=>by rw[z,aB h]
 have H:(Y0 (Jp r0.m [] 0 0 0) r0.d.L).dK≠s0.last:=fun e=>D.ok.uO (n:=s0.last.toNat) (by omega) (by omega) (by rw[e];omega);have g:=D.ok.vdt (G:=r.d.L) (mark:=r.mark) (tc:=r.cnt) (op:=((r.op+1:Nat):Int)) (mp:=mp) (y:=y) (ne<|by omega) (ne H) (fun h=>by rw[N,<-D.cnt];exact D.ok.X_ h) (fun i hi=>ne<|by omega) (by
   rw[show((jT r0.m r0.d.L+1+j.length:Nat):Int)=s0.last by omega,z,aA rfl,v]) (by
   rw[ne<|by omega];have:=D.ok.stop;simpa using this) hy W ⟨by rw[N];exact D.cnt,by rw[E];exact D.tag⟩
 rw[<-f.m]at g;obtain⟨k,hk⟩:∃k:Lk,k={({Y0 (Jp r.m r.mark r.cnt ((r.op+1:Nat):Int) mp) r0.d.L with last:=((jT r.m r0.d.L+(j.length+1):Nat):Int)}:Lk).set q with dD:=bL,whole:=(x.length:Int)}:=⟨_,rfl⟩;rw[<-hk]at g;rw[<-f.m]at M;have kb:k.base=s0.base:=by rw[hk,D.base,<-f.m];exact Us (Jp r.m r.mark r.cnt ((r.op+1:Nat):Int) mp) r0.d.L rfl
 have kl:k.last=s0.last:=by rw[hk];show((jT r.m r0.d.L+(j.length+1):Nat):Int)=_;omega
 have Y:k.named=s0.named:=by rw[hk,D.named,<-f.m];show(Y0 _ _).named=_;unfold Y0;split<;>rfl
 have Z:k.dK=(Y0 (Jp r0.m [] 0 0 0) r0.d.L).dK:=by rw[hk,<-f.m];show(Y0 _ _).dK=_;unfold Y0;split<;>rfl
 have kt:k.dD=bL:=by rw[hk]
 have K:k.whole=(x.length:Int):=by rw[hk]
 have X:=qb.2 J;have o:qu r.d.L s0.last=x++y:=by rw[z,aA rfl,v]
 have s:=I.jD s0.last;rw[v]at s;have l:r.d.cut k.last k.whole.toNat={r.d with L:=Yx r.d.L s0.last (x,(x.length:Int))}:=by
  unfold Dk.cut;rw[JN f.nx,kl,K,o,Wt,Zd rfl]
 have w:FI<|Yx r.d.L s0.last (x,(x.length:Int)):=gs.lay (by unfold i64;omega) (by omega);have T:∀n,qu (Yx r.d.L s0.last (x,(x.length:Int))) n=qu r0.d.L n:=fun n=>by
  rw[uS gs.gd];split
  rename_i h;rw[h,v]
  rename_i h;exact ne h
 obtain⟨S,a,b,c⟩:=NW (k:=k) (d:={r.d with L:=Yx r.d.L s0.last (x,(x.length:Int))}) (F:=r0.d.L) f.nx w (fun n R=>T n) (fun n R=>by
   unfold pJ;rw[Z,kb,kl];have:=D.ok.own n R;rw[<-D.base]at this;rw[D.last];simpa using this)
 have C:Xi k r.d=(bL,k,{r.d with L:=S}):=by
  unfold Xi;rw[aA ⟨kt,by rw[K];omega⟩,zY f.nx,aB<|by simp,l];exact a
 exact⟨k,Lq,Rw I D f g C b c (fun _=>by rw[K,kl,o,zj];omega) (by rw[kl];omega) (by rw[hk];exact D.cnt) (by rw[hk];exact D.tag) kb kl Y (by rw[hk];exact D.ep) D.same⟩
def vdm{z:Zl}{j:Nat}(I:Wy r0 s0)(D:MP r0 s0 L0 xs q Lq)(f:vec r r0)(gs:FI r.d.L)(B:∀n,qu r.d.L n=if n=s0.last+1 then(nE (s0.last.toNat+1) (r0.cnt+1)++z).take j else qu r0.d.L n)(t:0<j)(R:j<9+z.length)(T:∀i,i<z.length->X7 (z.take i)=bK)(C:r.cnt=r0.cnt)(w:r.mark=r0.mark):F2 r r0 s0:=fun mp=>by
 have O:=vcc I D;have S:=D.last;have Q:=I.base0;have H:=D.ok.low;have J:=I.rC;have E:=I.cnt;have p:∀{n},n≠s0.last+1->qu r.d.L n=qu r0.d.L n:=fun h=>by rw[B,aB h]
 have y:(Y0 (Jp r0.m [] 0 0 0) r0.d.L).dK≠s0.last+1:=fun e=>D.ok.uO (n:=(s0.last+1).toNat) (by omega) (by omega) (by rw[e];omega);have own:∀n,qu r0.d.L n≠[]->n=0\/n=(Y0 (Jp r0.m [] 0 0 0) r0.d.L).dK\/(s0.base<n/\n<=s0.last):=fun n s=>by
  have:=D.ok.own n s;rw[<-D.base]at this;rw[D.last];exact this
 have g:∀n:Int,s0.last<n->n<=9999->qu r0.d.L n=[]:=fun n X Y=>jr fun x=>by
  rcases own n x with e|e|e;omega;exact D.ok.uO (n:=n.toNat) (by omega) (by omega) (by rw[<-e];omega);omega
 have l:=D.ok.veo (G:=r.d.L) (mark:=r.mark) (tc:=r.cnt) (op:=((r.op+1:Nat):Int)) (mp:=mp) (z:=z) (j:=j) (p<|by omega) (p y) (fun h=>by rw[C,<-D.cnt];exact D.ok.X_ h) (fun i Z=>p<|by omega) (by
   rw[show((jT r0.m r0.d.L+1+xs.length:Nat):Int)=s0.last+1 by omega,B,aA rfl,show jT r0.m r0.d.L+1+xs.length=s0.last.toNat+1 by omega,D.cnt]) (by
   rw[p<|by omega];exact g _ (by omega)<|by omega) R t T (by omega) ⟨by rw[C];exact D.cnt,by rw[w];exact D.tag⟩
 rw[<-f.m]at l;obtain⟨k,hk⟩:∃k:Lk,k={({Y0 (Jp r.m r.mark r.cnt ((r.op+1:Nat):Int) mp) r0.d.L with last:=((jT r.m r0.d.L+(xs.length+1):Nat):Int)}:Lk).set q with dD:=bL,whole:=0}:=⟨_,rfl⟩;rw[<-hk]at l;rw[<-f.m]at O;have kb:k.base=s0.base:=by rw[hk,D.base,<-f.m];exact Us (Jp r.m r.mark r.cnt ((r.op+1:Nat):Int) mp) r0.d.L rfl
 have kl:k.last=s0.last+1:=by rw[hk];show((jT r.m r0.d.L+(xs.length+1):Nat):Int)=_;omega
 have U:k.named=s0.named:=by rw[hk,D.named,<-f.m];show(Y0 _ _).named=_;unfold Y0;split<;>rfl
 have V:k.dK=(Y0 (Jp r0.m [] 0 0 0) r0.d.L).dK:=by rw[hk,<-f.m];show(Y0 _ _).dK=_;unfold Y0;split<;>rfl
 have W:k.dD=bL:=by rw[hk]
 have K:k.whole=0:=by rw[hk]
 have o:r.d.rem k.last={r.d with L:=V6 r.d.L<|s0.last+1}:=by rw[Eg f.nx,kl]
 have N:∀n,qu (V6 r.d.L<|s0.last+1) n=qu r0.d.L n:=fun n=>by
  rw[KW gs.gd];split
  rename_i h;rw[h];exact(g _ (by omega)<|by omega).symm
  rename_i h;exact p h
 obtain⟨M,a,b,c⟩:=NW (k:={k with last:=k.last-1}) (d:={r.d with L:=V6 r.d.L<|s0.last+1}) (F:=r0.d.L) f.nx (gs.del _) (fun n s=>N n) (fun n s=>by
   unfold pJ;show(decide (n=0)||(decide (n=k.dK)||(decide (k.base<n)&&decide (n<=k.last-1))))=bL;rw[V,kb,kl];have:=own n s;simp only[Yk,xl,X9];omega)
 have v:Xi k r.d=(bL,{k with last:=k.last-1},{r.d with L:=M}):=by
  unfold Xi;rw[aB<|by rw[K];simp,aA W,zY f.nx,aB<|by simp,o];exact a
 exact⟨k,Lq,Rw I D f l v b c (fun _=>by rw[K];omega) (by rw[kl];omega) (by rw[hk];exact D.cnt) (by rw[hk];exact D.tag) kb (by show k.last-1=_;rw[kl];omega) U (by show k.ep=_;rw[hk];exact D.ep) D.same⟩
end
end
section
open A
def Wy.tV{r:Sr}{s:Jo}(I:Wy r s)(x:Option Jo):Wy {r with sn:=x} s:=by
 obtain⟨a,b,q,L,D⟩:=I.dsk;exact⟨⟨a,b,q,L,⟨D.ok,D.cnt,D.tag,D.ep,D.same,D.base,D.last,D.named⟩⟩,I.mark,I.gd,I.each,I.nx,I.room,I.lim,I.fus,I.rC,I.cnt,I.P,I.P20,I.sK,I.len,I.ep,I.op,I.named,I.sh0⟩
def Wy.fP{B:Nat}{r:Sr}{x:Nat}(hx:r.shut.own B x):r.own B x:=by
 rcases hx with e|e|⟨t,a,_⟩;exact .inl e;exact .inr<|.inl e;cases a
variable [pn:A.Pn]
def Vz{Q:Exit->Act->Zy->Prop}(h:kT Q){id:Nat}:kT (fun e a' w'=>match e with
  | .exit j=>if j=id then Q .normal a' w' else Q (.exit j) a' w'
  |e=>Q e a' w'):=by
 intro e a w t d;cases e with
 |exit j=>
  dsimp only;split;exact h _ _ _ _ _;exact h _ _ _ _ _
 |normal=>exact h _ _ _ _ _
 |goto l=>exact h _ _ _ _ _
 |ret=>exact h _ _ _ _ _
 |panic ch=>exact h _ _ _ _ _
 |outgrown=>exact h _ _ _ _ _
end
section
variable {plain:Zl} {xs:List Zl} {ep op cnt:Nat} {s':Jo} {c:Z8} {m mark:Zl} {k:Lk} {F:Ym} {H:List Zl}
structure P7(r r':Sr):Prop where
 keep:tF r r'
 lim:r'.lim=r.lim
 room:r'.d.room=r.d.room
 nx:r'.d.nx=bN
 gs:FI r'.d.L
 len:∀n,(qu r'.d.L n).length<=100000
 few:r'.d.L.length<=1000
def P7.trans{r1 a b:Sr}(k:tF r1 a)(c:a.lim=r1.lim)(e:a.d.room=r1.d.room)(h:P7 a b):P7 r1 b:=⟨k.trans h.keep,h.lim.trans c,h.room.trans e,h.nx,h.gs,h.len,h.few⟩
def ver{F F':Ym}(g:fM F)(g':fM F'){p q:Int}(h:∀n,qu F' n≠[]->qu F n≠[]\/n=p\/n=q):F'.length<=F.length+2:=by
 have a:(F'.map (·.1)).length<=(p::q::F.map (·.1)).length:=Ru g'.nd fun n b=>by
  rcases h n (g'.mem.1 b)with e|e|e;exact xj _<|xj _<|g.mem.2 e;simp[e];simp[e]
 simpa using a
section
variable {r:Sr} {s:Jo} {c:UInt8} {ep:Nat} {plain:Zl}
def FL:(r.wrote s [c] ep plain).off=r.off.wrote s [c] ep plain:=by
 obtain⟨g,e,D,⟨b,M,L,f⟩,m,d,a,h,i⟩:=r;cases f<;>rfl
def vdz(C:j6 r s)(a:plain.length<=1020):FI (r.wrote s [c] ep plain).d.L:=by
 have e:(r.wrote s [c] ep plain).d.L=(r.off.wrote s [c] ep plain).d.L:=by rw[<-FL];rfl
 rw[e];refine⟨It C.inv,AN C.inv a,fun k=>?_⟩;rw[k7 C.inv,ER C.inv];simp only;by_cases hk:k=((r.off.place s).1:Int);rw[aA hk,hk,FO (C.inv.gd.lay _ _)<|by intro e;simp only at e;rw[e];rfl];simp only;rw[uS C.inv.gd,aA rfl];rw[aB hk,j7 hk,j7 hk];exact C.gs.fl k
def FE(C:j6 r s)(S:plain.length<=1020):
  (r.writes s [c] ep plain=(bO 0,r.wrote s [c] ep plain)/\Arm (r.wrote s [c] ep plain).d.nx)\/
  (∃(F':Ym) (j:Nat),(∀c,r.d.nx=bO c->(j:Int)<=c.2.2)/\r.writes s [c] ep plain=(bN,{r with d:={r.d with nx:=bN,L:=F'}})/\FI F'/\∀n,qu F' n=if n=((r.place s).1:Int)then qu r.d.L (r.place s).1++((r.place s).2++Y5 r.m r.mark [c] ep r.op r.cnt plain).take j else qu r.d.L n):=by
 have I:=C.inv;have l:=I.cnt;have K:=I.lim;have v:=I.fus;have N:=I.room;have U:=b_ r s;have O:=Un I;have w:=I.jD (r.place s).1;have y:=Ta (c:=c) (ep:=ep) I S;have e:¬(r.cnt:Int)=r.lim:=by
  have:r.lim=999:=K;have:r.cnt<=40:=l;omega
 have f:¬r.d.room-J6 r.d.L<((r.place s).2.length:Int)+10+plain.length+32:=by
  have:r.d.room=100000:=N;have v:J6 r.d.L<=16500+1071*(r.cnt:Int):=v;have:r.cnt<=40:=l;omega
 have R:i64 ((r.place s).1:Int):=by
  have:(r.place s).1<=r.cnt+1:=O.2.1;have:r.cnt<=40:=l;unfold i64;omega
 rcases C.nx.step with⟨a,z,_⟩|⟨a,_,t,p,B,_⟩;have Q:Arm (r.d.app (r.place s).1<|(r.place s).2++Y5 r.m r.mark [c] ep r.op r.cnt plain).nx:=z;rcases Q.step with⟨b,E,_⟩|⟨b,_,t,p,F,G⟩;refine .inl ⟨?_,E⟩;unfold Sr.writes;rw[aB e,aB f,a,aB<|by simp,b,aB<|by simp];refine .inr ?_;obtain⟨j,q,i,k⟩:=C.gs.dD p R (x:=(r.place s).2++Y5 r.m r.mark [c] ep r.op r.cnt plain) (by
  have w:(qu r.d.L (r.place s).1).length<=60000:=w;have y:((r.place s).2++Y5 r.m r.mark [c] ep r.op r.cnt plain).length<=1071:=y;omega)
 refine⟨_,j,fun g o=>?_,?_,i,k⟩;have H:(r.d.app (r.place s).1<|(r.place s).2++Y5 r.m r.mark [c] ep r.op r.cnt plain).nx=bO (g.1,g.2.1-1,g.2.2):=by
  show r.d.tick.nx=_;unfold Dk.tick;rw[o]
 have J:=G _ H;rw[J]at q;exact q;unfold Sr.writes;rw[aB e,aB f,a,aB<|by simp,b,aA rfl,F];simp only[qg,true_and]
 congr 1
 show({r.d.tick with nx:=bN,L:=_}:Dk)=_;obtain⟨T,lim,D,⟨room,M,L,nx⟩,m,cnt,mark,op,V⟩:=r;cases nx<;>rfl
 refine .inr ?_;obtain⟨i,k⟩:=C.gs.lost p;refine⟨_,0,fun c o=>(C.nx c o).2.2.1,?_,i,fun n=>?_⟩;unfold Sr.writes;rw[aB e,aB f,a,aA rfl,B];rw[k];split
 rename_i h;rw[h];simp
 rfl
def MP.stop{a L:KV}{q:Lk}(D:MP r s a xs q L)(I:Wy r s):qu r.d.L (s.last+1)=[]:=by
 have h:=D.ok.stop;rw[<-h]
 congr 1
 have b:(((Y0 (Jp r.m [] 0 0 0) r.d.L).base.toNat:Nat):Int)=s.base:=vcc I D;have:=D.last;omega
def Reads(r:Sr)(s:Jo)(c:Z8)(ep:Nat)(plain:Zl)(s':Jo):Prop:=∀L0 xs q L,MP r s L0 xs q L->∃q' L',recs q L (Y5 r.m r.mark [c] ep r.op r.cnt plain)=bO (q',L',[])/\q'.cnt=r.cnt+1/\q'.tag=nH r.m r.mark [c] ep r.op r.cnt plain/\q'.ahead=r.mark/\q'.ep=s'.ep/\iF L' s'.L
def vcu{r':Sr}{j:Nat}(I:Wy r s)(hp:plain.length<=1020)(H:r.cnt<=39)(X:Reads r s c ep plain s')
  (U:s'.base=s.base)(V:s'.last=((r.place s).1:Int))(W:s'.named=s.named)(Z:s'.P=[])(N:jM s'.L)(o:s'.L.length<=20*(r.cnt+1))(J:s'.ep<=5)(O:s'.bP=s.bP)
  (hk:vec r' r)(g:r'.cnt=r.cnt)(y:r'.mark=r.mark)(gs:FI r'.d.L)(b:∀n,qu r'.d.L n=if n=((r.place s).1:Int)then qu r.d.L (r.place s).1++((r.place s).2++Y5 r.m r.mark [c] ep r.op r.cnt plain).take j else qu r.d.L n):
  F2 r' r s\/F2 r' {r.wrote s [c] ep plain with sn:=bO s'} s':=by
 obtain⟨z,Q,q,L,D⟩:=I.dsk;have ba:=I.base0;have M:=D.last;have f:plain.length<65536:=by omega
 have l:(∀n,qu r'.d.L n=qu r.d.L n)->F2 r' r s:=fun e=>by
  refine FK I D hk gs (fun n _=>e n) ?_ (fun h=>by rw[g,<-D.cnt];exact D.ok.X_ h)<|.inl ⟨by rw[g];exact D.cnt,by rw[y];exact D.tag⟩;rw[e];exact D.stop I
 by_cases k:j<((r.place s).2++Y5 r.m r.mark [c] ep r.op r.cnt plain).length;left;by_cases K:j=0;subst K;refine l fun n=>?_;rw[b];split
 rename_i h;rw[h];simp
 rfl;by_cases t:s.base<s.last/\((qu r.d.L s.last).length:Int)<r.nW;have e:r.place s=(s.last.toNat,[]):=by unfold Sr.place;rw[aA t]
 have a:((r.place s).1:Int)=s.last:=by rw[e];simp only;omega
 have v:(r.place s).2=[]:=by rw[e]
 rw[v,jk]at k;have G:∀n,qu r'.d.L n=if n=s.last then qu r.d.L s.last++(Y5 r.m r.mark [c] ep r.op r.cnt plain).take j else qu r.d.L n:=fun n=>by
  rw[b n,v,jk];by_cases h:n=s.last;rw[aA h,aA<|h.trans a.symm,a];rw[aB h,aB fun x=>h<|x.trans a]
 refine vdb I D hk gs (fun e=>by subst e;simp at M;omega) G (fun e=>?_) (vce f k) g y;have:=congrArg List.length e;rw[xt,jn]at this;omega;have e:r.place s=(s.last.toNat+1,nE (s.last.toNat+1)<|r.cnt+1):=by unfold Sr.place;rw[aB t]
 rw[e]at b k;simp only at b k;have a:((s.last.toNat+1:Nat):Int)=s.last+1:=by omega
 have p:=D.stop I;rw[a,p]at b;simp only[jk]at b;rw[zj,zz6]at k;exact vdm I D hk gs b (by omega) k (fun i hi=>vce f hi) g y;right;rw[qj<|by omega]at b;obtain⟨q',L',B,w,C,T,E,F⟩:=X z Q q L D;obtain⟨bb,R⟩:=k_ (s':=s') I D B w C E F U V W;have S:Wy {r.wrote s [c] ep plain with sn:=bO s'} s':=Sz (q':=q') (L':=L') I hp H (fun z Q q L D=>by
  obtain⟨q',L',B,w,C,T,E,F⟩:=X z Q q L D;exact⟨q',L',B,w,C,E,F⟩) U V W Z N o J O
 have e:∀n,qu r'.d.L n=qu (r.wrote s [c] ep plain).d.L n:=fun n=>by rw[b,k7 I]
 have Y:qu (r.wrote s [c] ep plain).d.L 0=qu r.d.L 0:=by
  rw[k7 I,aB];have:=Un I;omega
 refine FK S R ⟨hk.m,hk.lim,?_,hk.nx⟩ gs (fun n _=>e n) ?_ (fun h=>?_)<|.inr ⟨by rw[w,g],by rw[T,y]⟩;rw[hk.room];show _=(r.wrote s [c] ep plain).d.room;rw[ER I];rw[e];exact R.stop S;have h:qu (r.wrote s [c] ep plain).d.L 0≠[]:=h;show qJ r.m r'.cnt<|qu (r.wrote s [c] ep plain).d.L 0;rw[Y]at h⊢;rw[g,<-D.cnt];exact D.ok.X_ h
end
section
variable {r r1:Sr} {s:Jo}
def vcj(I:Wy r s)(d:s.P≠[]):Reads r s 82 s.ep (Xt s.P)<|r.ses1 s:=fun i j q L D=>by
 have b:r.ses1 s=({s with last:=(r.place s).1}:Jo).synced:=by unfold Sr.ses1;rw[aB d]
 have f:(Xt s.P).length<=1020:=by have:=IQ I.P;have:=I.P20;omega
 have e:1<=s.P.length:=qb.2 d;have g:=D.ok.qm;have h:=tR (k:=q) (L:=L) (op:=r.op) I.P e I.P20 (by rw[D.tag];exact I.mark);have a:=Sb (k:=q) (L:=L) (c:=82) (ep:=q.ep) (op:=r.op) (plain:=Xt s.P) (by omega) (by rw[D.ep];have:=I.ep;omega) (by rw[D.cnt];have:=I.cnt;omega) h;rw[g,D.tag,D.ep,D.cnt]at a;exact⟨_,_,a,rfl,rfl,rfl,by rw[b];rfl,by rw[b];exact iF.app s.P D.same⟩
def vci(I:Wy r s)(i:s.ep≠5)(b:s'.ep=s.ep+1)(d:s'.L=s.L):Reads r s 75 (s.ep+1) [] s':=fun h j q L D=>by
 have f:=D.ok.qm;have e:=I.ep;have g:=tS (k:=q) (L:=L) (op:=r.op) (by rw[D.ep];omega) (by rw[D.tag];exact I.mark);have a:=Sb (k:=q) (L:=L) (c:=75) (ep:=q.ep+1) (op:=r.op) (plain:=[]) (by simp) (by rw[D.ep];omega) (by rw[D.cnt];have:=I.cnt;omega) g;rw[f,D.tag,D.ep,D.cnt]at a;exact⟨_,_,a,rfl,rfl,rfl,b.symm,by rw[d];exact D.same⟩
def j6.write(C:j6 r s){ep:Nat}(o:plain.length<=1020)(f:r.cnt<=39)(E:Reads r.off s c ep plain s')
  (y:s'.base=s.base)(B:s'.last=((r.place s).1:Int))(b:s'.named=s.named)(w:s'.P=[])(l:jM s'.L)(a:s'.L.length<=20*(r.cnt+1))(g:s'.ep<=5)(t:s'.bP=s.bP):
  (r.writes s [c] ep plain=(bO 0,r.wrote s [c] ep plain)/\j6 {r.wrote s [c] ep plain with sn:=bO s'} s'/\tF r {r.wrote s [c] ep plain with sn:=bO s'}/\(r.wrote s [c] ep plain).d.room=r.d.room)\/
  (∃r',r.writes s [c] ep plain=(bN,r')/\P7 r r'/\r'.cnt=r.cnt/\r'.mark=r.mark/\(F2 r' r.off s\/F2 r' {r.off.wrote s [c] ep plain with sn:=bO s'} s')/\(∀c,r.d.nx=bO c->c.2.2=0->F2 r' r.off s)):=by
 rcases FE (c:=c) (ep:=ep) (plain:=plain) C o with⟨h1,h2⟩|⟨F',j,h0,h1,h2,h3⟩;refine .inl ⟨h1,⟨?_,vdz C o,h2⟩,⟨rfl,rfl,rfl,?_,rfl⟩,?_⟩;show Wy {(r.wrote s [c] ep plain).off with sn:=bO s'} s';rw[FL];exact Sz (q':=Jp [] [] 0 0 0) (L':=[]) C.inv o f (fun v F q L D=>by
  obtain⟨q',L',G,H,I,S,J,K⟩:=E v F q L D;exact⟨q',L',G,H,I,J,K⟩) y B b w l a g t
 have:(r.wrote s [c] ep plain).off.d.M=r.off.d.M:=by rw[FL,ER C.inv]
 exact this;have:(r.wrote s [c] ep plain).off.d.room=r.off.d.room:=by rw[FL,ER C.inv]
 exact this;have k:∀n,(qu F' n).length<=100000:=fun n=>by
  have Q:(qu r.d.L n).length<=60000:=C.inv.jD n;have R:(qu r.d.L (r.place s).1).length<=60000:=C.inv.jD (r.place s).1;have T:((r.place s).2++Y5 r.m r.mark [c] ep r.op r.cnt plain).length<=1071:=(Ta (c:=c) (ep:=ep) C.inv o:);rw[h3 n];split;rw[zj,xt];omega;omega
 have i:F'.length<=1000:=by
  have Q:F'.length<=r.d.L.length+2:=ver (p:=((r.place s).1:Int)) (q:=0) C.gs.gd h2.gd fun n b=>by
   rw[h3 n]at b;split at b
   rename_i e;exact .inr<|.inl e
   exact .inl b
  have R:r.d.L.length<=r.cnt+2:=C.inv.few;omega
 refine .inr ⟨_,h1,⟨⟨rfl,rfl,rfl,rfl,rfl⟩,rfl,rfl,rfl,h2,k,i⟩,rfl,rfl,?_,fun c N z=>?_⟩;rotate_left;have O:j=0:=by have:=h0 c N;omega
 subst O;obtain⟨v,F,q,L,D⟩:=C.inv.dsk;have e:∀n,qu F' n=qu r.d.L n:=fun n=>by
  rw[h3 n];split
  rename_i x;rw[x];simp
  rfl
 exact FK (r:={r with d:={r.d with nx:=bN,L:=F'}}) C.inv D ⟨rfl,rfl,rfl,rfl⟩ h2 (fun n _=>e n) (by show qu F' _=_;rw[e];exact D.stop C.inv) (fun h=>by have:=D.ok.X_ h;rw[D.cnt]at this;exact this)<|.inl ⟨D.cnt,D.tag⟩;exact vcu (r:=r.off) (r':={r with d:={r.d with nx:=bN,L:=F'}}) (j:=j) C.inv o f E y B b w l a g t ⟨rfl,rfl,rfl,rfl⟩ rfl rfl h2 h3
def j6.vgi(C:j6 r s):r.mark.length=32:=C.inv.mark
end
def Wy.same{r:Sr}{s:Jo}{G:Ym}(I:Wy r s)(g:FI G)(e:∀n,qu G n=qu r.d.L n):Wy {r with d:={r.d with L:=G}} s:=by
 obtain⟨a,b,q,L,D⟩:=I.dsk;have hk:Y0 (Jp r.m [] 0 0 0) G=Y0 (Jp r.m [] 0 0 0) r.d.L:=OK _<|e 0;exact⟨⟨a,b,q,L,⟨D.ok.same e,D.cnt,D.tag,D.ep,D.same,by show s.base=(Y0 (Jp r.m [] 0 0 0) G).base;rw[hk];exact D.base,D.last,by show s.named=(Y0 (Jp r.m [] 0 0 0) G).named;rw[hk];exact D.named⟩⟩,I.mark,g.gd,g.each,I.nx,I.room,I.lim,by show J6 G<=_;rw[Vc I.gd g.gd e];exact I.fus,I.rC,I.cnt,I.P,I.P20,I.sK,I.len,I.ep,I.op,I.named,I.sh0⟩
def V2{m:Mf}:∀(ns:List Int) (d:Dk),Arm d.nx->FI d.L->∃F' x,FI F'/\Arm x/\((lK m ns d=(bL,{d with L:=F',nx:=x})/\(d.nx=bN->x=bN)/\∀n,qu F' n=if n∈ns/\n≠0/\n≠(m.file:Int)then []else qu d.L n)\/
  (lK m ns d=(bK,{d with L:=F',nx:=x})/\x=bN/\d.nx≠bN/\∀n,(n=0\/n=(m.file:Int)->qu F' n=qu d.L n)/\(qu F' n=[]\/qu F' n=qu d.L n)))
 |[],d,a,g=>⟨d.L,d.nx,g,a,.inl ⟨rfl,id,fun n=>by simp⟩⟩
 |n::ns,d,a,g=>by
  by_cases h:n=0\/n=(m.file:Int);obtain⟨F',x,q,l,s⟩:=V2 (m:=m) ns d a g;refine⟨F',x,q,l,?_⟩;unfold lK;rw[aA h];refine s.imp_left fun⟨b,f,i⟩=>⟨b,f,fun k=>?_⟩;rw[i k];by_cases e:k=n;subst e;rw[aB fun x=>h.elim x.2.1 x.2.2,aB fun x=>h.elim x.2.1 x.2.2];simp[e];rcases a.step with⟨o,p,j⟩|⟨o,p,t,I,j,_⟩
  obtain⟨F',x,q,l,s⟩:=V2 (m:=m) ns (d.rem n) p<|g.del n;have w:∀G y,({d.rem n with L:=G,nx:=y}:Dk)={d with L:=G,nx:=y}:=fun G y=>by
   obtain⟨B,M,L,nx⟩:=d;cases nx<;>rfl
  refine⟨F',x,q,l,?_⟩;unfold lK;rw[aB h,o,aB<|by simp];rcases s with⟨b,f,i⟩|⟨b,f,i,F⟩
  refine .inl ⟨b.trans<|by rw[w],fun e=>f<|j e,fun k=>?_⟩;rw[i k];show(if _ then _ else qu (V6 d.L n) k)=_;rw[KW g.gd];by_cases e:k=n;subst e;have D:(if k∈k::ns/\k≠0/\k≠(m.file:Int)then []else qu d.L k)=[]:=aA ⟨by simp,fun e=>h<|.inl e,fun e=>h<|.inr e⟩;rw[D,aA rfl];split<;>rfl
  simp[e];refine .inr ⟨b.trans<|by rw[w],f,fun e=>i<|j e,fun k=>?_⟩;have r:=F k;have C:qu (d.rem n).L k=if k=n then []else qu d.L k:=KW g.gd n k
  rw[C]at r;refine⟨fun hk=>?_,?_⟩;rw[r.1 hk,aB fun e=>h<|by rw[<-e];exact hk];rcases r.2 with e|e
  exact .inl e;by_cases v:k=n;rw[aA v]at e;exact .inl e;rw[aB v]at e;exact .inr e;obtain⟨E,z⟩:=g.lost I;refine⟨_,bN,E,(fun c H=>by cases H),.inr ⟨?_,rfl,p,fun k=>⟨fun _=>z k,.inr<|z k⟩⟩⟩;unfold lK;rw[aB h,o,aA rfl,j]
def vca(m:Mf)(pt sl:Zl)(d:Dk)(y:Bool×Dk):Prop:=∃F' x,FI F'/\Arm x/\((y=(bL,{d with L:=F',nx:=x})/\(d.nx=bN->x=bN)/\∀n,qu F' n=if n=0 then sl else if n=(m.file:Int)then pt else [])\/
  (y=(bK,{d with L:=F',nx:=bN})/\d.nx≠bN/\(((∀n,n≠(m.file:Int)->qu F' n=qu d.L n)/\(qu F' m.file).length<=pt.length)\/(qu F' 0=sl/\qu F' m.file=pt/\∀n,n≠0->n≠(m.file:Int)->qu F' n=[]\/qu F' n=qu d.L n))))
def vbr{m:Mf}{sl:Zl}{d:Dk}(a:Arm d.nx)(g:FI d.L)(s:sl.length<=1000000)(H:(m.file:Int)≠0):vca m (qu d.L m.file) sl d<|qB m sl d:=by
 rcases a.step with⟨k,l,j⟩|⟨k,l,t,J,j,_⟩;have i:FI (d.mG 0 sl).L:=g.lay (by unfold i64;omega) s;have h:∀n,qu (d.mG 0 sl).L n=if n=0 then sl else qu d.L n:=fun n=>uS g.gd 0 _ n
 obtain⟨B,x,D,C,I⟩:=V2 (m:=m) (Xs (d.mG 0 sl).L) (d.mG 0 sl) l i;have w:∀G y,({d.mG 0 sl with L:=G,nx:=y}:Dk)={d with L:=G,nx:=y}:=fun G y=>by
  obtain⟨z,M,L,nx⟩:=d;cases nx<;>rfl
 refine⟨B,x,D,C,?_⟩;unfold qB;rw[k,aB<|by simp];rcases I with⟨o,p,q⟩|⟨o,p,q,r⟩
 refine .inl ⟨o.trans<|by rw[w],fun e=>p<|j e,fun n=>?_⟩;rw[q n,h n];by_cases b:n=0;rw[aB fun x=>x.2.1 b,aA b,aA b];rw[aB b,aB b];by_cases f:n=(m.file:Int);rw[aB fun x=>x.2.2 f,aA f,f];rw[aB f];by_cases v:qu d.L n=[];rw[v];split<;>rfl
 rw[aA ⟨i.gd.nums.2<|by rw[h,aB b];exact v,b,f⟩];subst p;refine .inr ⟨o.trans<|by rw[w],fun e=>q<|j e,.inr ⟨?_,?_,fun n b f=>?_⟩⟩;rw[(r 0).1<|.inl rfl,h,aA rfl];rw[(r m.file).1<|.inr rfl,h,aB H];have:=(r n).2;rw[h,aB b]at this;exact this;obtain⟨E,i⟩:=g.lost J;refine⟨_,bN,E,(fun c F=>by cases F),.inr ⟨?_,l,.inl ⟨fun n _=>i n,by rw[i];exact ze _⟩⟩⟩;unfold qB;rw[k,aA rfl,j]
def U5{r:Sr}{m:Mf}{pt sl:Zl}(a:Arm r.d.nx)(g:FI r.d.L)(v:sl.length<=1000000)(s:pt.length<=1000000)(hf:m.file=10001\/m.file=10002)(i:qu r.d.L m.file=[]):vca m pt sl r.d<|r.lays m pt sl:=by
 have p:(m.file:Int)≠0:=by omega
 have U:i64 (m.file:Int):=by unfold i64;omega
 unfold Sr.lays;by_cases V:pt=[];rw[aA V,V,<-i];exact vbr a g v p;rw[aB V];rcases a.step with⟨F,H,o⟩|⟨F,H,t,W,o,_⟩
 have A2:Arm (r.d.app m.file pt).nx:=H;rw[F,aB<|by simp];rcases A2.step with⟨I,J,B⟩|⟨I,J,t,W,B,_⟩
 rw[I,aB<|by simp];have C:=g.gd.lay m.file (qu r.d.L m.file++pt,(Vu r.d.L m.file).2);have Z:qu (r.d.app m.file pt).L m.file=pt:=by
  show qu (Yx r.d.L m.file _) m.file=_;rw[uS g.gd,aA rfl,i];rfl
 have f:FI ((r.d.app m.file pt).mR m.file).L:=by
  have q:=g.fl m.file;rw[i]at q;have e:((r.d.app m.file pt).mR m.file).L=Yx (Yx r.d.L m.file (qu r.d.L m.file++pt,(Vu r.d.L m.file).2)) m.file (pt,(pt.length:Int)):=by
   show Yx (r.d.app m.file pt).L m.file (qu (r.d.app m.file pt).L m.file,((qu (r.d.app m.file pt).L m.file).length:Int))=_;rw[Z];rfl
  rw[e];refine⟨C.lay _ _,(g.each.lay U ?_).lay U ⟨by simp,by simp,s⟩,fun k=>?_⟩;rw[q,i];simp only[jk,jn];omega;rw[uS C];by_cases b:k=(m.file:Int);rw[aA b,b,FO C<|by intro e;simp only at e;rw[e];rfl];rw[aB b,j7 b,j7 b,uS g.gd,aB b];exact g.fl k
 have N:∀n,qu ((r.d.app m.file pt).mR m.file).L n=if n=(m.file:Int)then pt else qu r.d.L n:=fun n=>by
  show qu (Yx (Yx r.d.L m.file _) m.file _) n=_;rw[uS C];by_cases b:n=(m.file:Int);rw[aA b,aA b];exact Z;rw[aB b,aB b,uS g.gd,aB b]
 have er:∀G y,({(r.d.app m.file pt).mR m.file with L:=G,nx:=y}:Dk)={r.d with L:=G,nx:=y}:=fun G y=>by
  obtain⟨Y,X,D,⟨z,M,L,nx⟩,mm,K,w,op,sn⟩:=r;cases nx<;>rfl
 obtain⟨F',x,g',a',hh⟩:=vbr (m:=m) (sl:=sl) (d:=(r.d.app m.file pt).mR m.file) J f v p;rw[N m.file,aA rfl]at hh;have nn:((r.d.app m.file pt).mR m.file).nx≠bN->r.d.nx≠bN:=fun h e=>h<|B<|o e;refine⟨F',x,g',a',?_⟩;rcases hh with⟨Q,R,l⟩|⟨Q,R,l⟩
 exact .inl ⟨Q.trans<|by rw[er],fun e=>R<|B<|o e,l⟩;refine .inr ⟨Q.trans<|by rw[er],nn R,?_⟩;rcases l with⟨l,S⟩|⟨l,h4,h5⟩
 exact .inl ⟨fun n E=>by rw[l n E,N,aB E],S⟩;refine .inr ⟨l,h4,fun n n1 n2=>?_⟩;have:=h5 n n1 n2;rw[N,aB n2]at this;exact this;obtain⟨j,_,O,f⟩:=g.dD W U (x:=pt) (by rw[i];simpa using s);refine⟨_,bN,O,(fun c T=>by cases T),.inr ⟨?_,fun e=>J<|o e,.inl ⟨fun n E=>by rw[f,aB E],by rw[f,aA rfl,i,jk,xt];omega⟩⟩⟩;rw[I,aA rfl,B];simp only[qg,true_and];obtain⟨Y,X,D,⟨z,M,L,nx⟩,mm,K,w,op,sn⟩:=r;cases nx<;>rfl
 obtain⟨O,f⟩:=g.lost W;refine⟨_,bN,O,(fun c T=>by cases T),.inr ⟨?_,H,.inl ⟨fun n _=>f n,by rw[f,i];simp⟩⟩⟩;rw[F,aA rfl,o]
section
variable {r r1:Sr} {s:Jo}
def vcy{g L:KV}{q:Lk}(D:MP r s g xs q L):(Y0 (Jp r.m [] 0 0 0) r.d.L).dK≠(Ye s.named:Int):=by
 have b:=zut s.named;intro e;rcases P9 r.m r.d.L with c|⟨f,c,h,i,j⟩
 omega;have a:=D.named;have:(Y0 (Jp r.m [] 0 0 0) r.d.L).named=((iL<|qu r.d.L 0).file:Int):=by unfold Y0;rw[aB h];rfl
 rw[this,<-i,<-c,e]at a;unfold Ye at a b;split at a<;>omega
def j6.jR(C:j6 r s)(hs:r.sn=bO s)(Z:s.P=[])(c3:s.bP<999):
  (∃v r' s',v≠12/\r.jR s=(bO v,r')/\r'.sn=bO s'/\j6 r' s'/\s'.L=s.L/\s'.P=[]/\r'.cnt=r.cnt/\tF r r'/\r'.lim=r.lim/\r'.d.room=r.d.room/\s'.bP<=s.bP+1)\/
  (∃r',r.jR s=(bN,r')/\P7 r r'/\r'.cnt=r.cnt/\r'.mark=r.mark/\∃r0 s0,F2 r' r0 s0/\r0.cnt=r.cnt/\s0.L=s.L/\s0.ep=s.ep):=by
 have I:=C.inv;have bg:=I.sh0;have T:¬s.bP=999:=by omega
 by_cases U:16384<(Vf s.L).length\/r.d.room-J6 r.d.L<(r.roomFor (Vf s.L).length:Int);refine .inl ⟨9,r,s,by decide,?_,hs,C,rfl,Z,rfl,tF.refl r,rfl,rfl,by omega⟩;unfold Sr.jR;rw[aB T,aA U];have bd:(Vf s.L).length<=16384:=by omega
 obtain⟨L0,xs,q,L,D⟩:=I.dsk;have Q:=zut s.named;obtain⟨r0,s0,a1,a2,S,a4,a5,a6,a7,a8,a9,W,bi⟩:=I.jR hs Z c3 bd;obtain⟨mf,i⟩:∃mf,mf=r.mf s:=⟨_,rfl⟩;obtain⟨pt,z⟩:∃pt,pt=(r.parts s).flatten:=⟨_,rfl⟩;obtain⟨sl,B⟩:∃sl,sl=mf.bS (Jm r.m s.ep):=⟨_,rfl⟩;have w:mf.file=Ye s.named:=by rw[i];rfl
 have bf:pt.length=(Vf s.L).length:=by rw[z];exact Lq _ _ _
 have bh:sl.length=116:=by
  rw[B];refine YR _ _ ?_ (by rw[i];exact I.mark);rw[i];exact Sd _<|by unfold Sr.parts;rw[zZ];have:=(DU<|Vf s.L).2.1;omega
 have g:qu r.d.L mf.file=[]:=by rw[w];exact W
 obtain⟨t,x0,g0,_,bb⟩:=U5 (r:={r.off with sn:=bO {s with bP:=s.bP+1}}) (m:=mf) (pt:=pt) (sl:=sl) (fun c hc=>by cases hc) C.gs (by omega) (by omega) (by rw[w];exact Q) g;obtain⟨b1,b2,X⟩:=bb.resolve_right fun h=>h.2.1 rfl;have be:x0=bN:=b2 rfl;subst be;have bc:r.off.jR s=(bO 0,{r.off with d:={r.off.d with L:=t,nx:=bN},sn:=bO {s with bP:=s.bP+1,base:=s.last,named:=(Ye s.named:Int)}}):=by
  unfold Sr.jR;rw[aB T,aB (show¬(16384<(Vf s.L).length\/r.off.d.room-J6 r.off.d.L<(r.off.roomFor (Vf s.L).length:Int))from U)];have e:(({r.off with sn:=bO {s with bP:=s.bP+1}}:Sr).lays (r.off.mf s) (r.off.parts s).flatten<|(r.off.mf s).bS<|Jm r.off.m s.ep)=(bL,{r.off.d with L:=t,nx:=bN}):=by
   have:r.off.mf s=mf:=i.symm;rw[this];have:(r.off.parts s).flatten=pt:=z.symm;rw[this];have:mf.bS (Jm r.off.m s.ep)=sl:=B.symm;rw[this];exact b1
  rw[e,aA rfl]
 have R:=a1.symm.trans bc;simp only[qg,true_and]at R;subst R;obtain rfl:s0={s with bP:=s.bP+1,base:=s.last,named:=(Ye s.named:Int)}:=(jf a2).symm;obtain⟨l,x,F,ar,hh⟩:=U5 (r:={r with sn:=bO {s with bP:=s.bP+1}}) (m:=mf) (pt:=pt) (sl:=sl) C.nx C.gs (by omega) (by omega) (by rw[w];exact Q) g;have j:∀y,(({r with sn:=bO {s with bP:=s.bP+1}}:Sr).lays mf pt sl)=y->(({r with sn:=bO {s with bP:=s.bP+1}}:Sr).lays (r.mf s) (r.parts s).flatten<|(r.mf s).bS<|Jm r.m s.ep)=y:=fun y h=>by rw[<-i,<-z,<-B];exact h
 rcases hh with⟨V,_,a⟩|⟨V,_,a⟩;have e:=j _ V;refine .inl ⟨0,{r with d:={r.d with L:=l,nx:=x},sn:=bO {s with bP:=s.bP+1,base:=s.last,named:=(Ye s.named:Int)}},_,by decide,?_,rfl,⟨?_,F,ar⟩,rfl,Z,rfl,⟨rfl,rfl,rfl,rfl,rfl⟩,rfl,rfl,Int.le_refl _⟩;unfold Sr.jR;rw[aB T,aB U,e,aA rfl];exact S.same (G:=l) F fun n=>by rw[a n];exact(X n).symm
 have e:=j _ V;have M:∀n,(qu l n).length<=100000:=fun n=>by
  have k1:(qu r.d.L n).length<=60000:=I.jD n;have k0:(0:Int)≠mf.file:=by rw[w];omega
  by_cases k:n=(mf.file:Int);subst k;rcases a with⟨_,a⟩|⟨_,a,_⟩
  omega;rw[a];omega;rcases a with⟨a,_⟩|⟨a,_,H⟩
  exact xz (Nat.le_of_eq<|congrArg List.length<|a n k) (xz k1<|by omega);by_cases o:n=0;rw[o,a];omega;rcases H n o k with e|e
  rw[e];simp;exact xz (Nat.le_of_eq<|congrArg List.length e)<|xz k1<|by omega
 have K:l.length<=1000:=by
  have k1:l.length<=r.d.L.length+2:=ver (p:=(mf.file:Int)) (q:=0) C.gs.gd F.gd fun n b=>by
   by_cases k:n=(mf.file:Int);exact .inr<|.inl k;rcases a with⟨a,_⟩|⟨a,_,H⟩
   rw[a n k]at b;exact .inl b;by_cases o:n=0;exact .inr<|.inr o;rcases H n o k with e|e
   exact absurd e b;rw[e]at b;exact .inl b
  have k2:r.d.L.length<=r.cnt+2:=I.few;have k3:r.cnt<=40:=I.cnt;omega
 refine .inr ⟨{r with d:={r.d with L:=l,nx:=bN},sn:=bO {s with bP:=s.bP+1}},?_,⟨⟨rfl,rfl,rfl,rfl,rfl⟩,rfl,rfl,rfl,F,M,K⟩,rfl,rfl,?_⟩;unfold Sr.jR;rw[aB T,aB U,e,aB<|by simp];rcases a with⟨a,_⟩|⟨a,h4,H⟩
 have a:∀n,n≠(Ye s.named:Int)->qu l n=qu r.d.L n:=fun n b=>a n (by rw[w];exact b);have ba:=I.base0;have N:s.last<=(r.cnt:Int):=I.rC;have J:r.cnt<=40:=I.cnt;refine⟨r.off,s,FK I D ⟨rfl,rfl,rfl,rfl⟩ F (fun n b=>a n ?_) ?_ (fun h=>?_)<|.inl ⟨D.cnt,D.tag⟩,rfl,rfl,rfl⟩;rcases b with b|b|b
 omega;rw[b];exact vcy D;omega;show qu l (s.last+1)=[];rw[a _<|by omega];exact D.stop I;have:=D.ok.X_ h;rw[D.cnt]at this;exact this;obtain⟨K0,ys,q0,Lq,E⟩:=S.dsk;have ba:=S.base0;have N:s.last<=(r.cnt:Int):=I.rC;have J:r.cnt<=40:=I.cnt;refine⟨_,_,FK S E ⟨rfl,rfl,rfl,rfl⟩ F (fun n b=>?_) ?_ (fun h=>?_)<|.inl ⟨E.cnt,E.tag⟩,rfl,rfl,rfl⟩;show qu l n=qu t n;by_cases o:n=0;rw[o,a,X,aA rfl];by_cases k:n=(mf.file:Int);rw[k,h4,X,aB<|by rw[<-k];exact o,aA rfl];exfalso;rcases b with b|b|b
 exact o b;rcases P9 r.off.m t with Y|⟨f,Y,f0,hf,hl⟩
 exact o<|b.trans Y;have O:=E.named;have:(Y0 (Jp r.off.m [] 0 0 0) t).named=((iL<|qu t 0).file:Int):=by unfold Y0;rw[aB f0];rfl
 have O:(Ye s.named:Int)=((iL<|qu t 0).file:Int):=O.trans this;refine k<|b.trans<|Y.trans ?_;rw[w,hf];omega;have V:s.last<n/\n<=s.last:=b;omega;show qu l (s.last+1)=[];have bj:0<=s.last:=by have:=I.base0;omega
 rcases H (s.last+1) (by omega) (by rw[w];omega)with e|e;exact e;rw[e];exact D.stop I;have:=E.ok.X_ h;rw[E.cnt]at this;exact this
end
section
variable {r:Sr} {s:Jo}
def vcp{a:List Int}{d:Dk}(hx:d.nx=bN)(g:FI d.L)(l:∀n∈a,qu d.L n≠[])(h:jA k a d=(bL,d)):∀n∈a,pJ k n=bL:=fun n b=>by
 obtain⟨c,f,_,i⟩:=H0 (k:=k) a d hx g;rw[f]at h;simp only[qg,true_and]at h;have j:c=d.L:=congrArg Dk.L h;cases e:pJ k n with
 |true=>rfl
 |false=>
  have:=i n;rw[aA ⟨b,e⟩,j]at this;exact absurd this<|l n b
def j6.reopen(C:j6 r s)(mp:Nat):∃k L,Yu (Jp r.m r.mark r.cnt ((r.op+1:Nat):Int) mp) r.d.L=bO (k,L)/\Xi k r.d=(bL,k,r.d)/\k.dD=bK/\(0<=k.last/\k.last<=9999)/\k.cnt=r.cnt/\iF L s.L/\∀S,r.op<999->j6 (Wp r k S L) (V4 S k L):=by
 obtain⟨k,L,R⟩:=C.inv.reopen mp;have b:Xi k r.d=(bL,k,r.d):=by
  have a:=R.mend;unfold Xi at a⊢;rw[R.dD,aB<|by simp,aB<|by simp]at a⊢;unfold qC at a⊢;simp only[qg,true_and]at a;have c:jA k (Xs r.off.d.L) r.off.d=(bL,r.off.d):=Prod.ext a.1 a.2;have f:=vcp (d:=r.off.d) rfl C.gs (fun n g=>C.gs.gd.nums.1 g) c;rw[Rt f]
 refine⟨k,L,R.look,b,R.dD,R.rC,R.cnt,R.same,fun S i=>⟨?_,?_,?_⟩⟩;have h:=R.inv S i;have e:(Wp r k S L).off=Wp r.off k S L:=by
  unfold Wp Sr.off;simp only;rw[b,show Xi k {r.d with nx:=bN}=(bL,k,{r.d with nx:=bN})from R.mend]
 rw[e];exact h;show FI (Xi k r.d).2.2.L;rw[b];exact C.gs;show Arm (Xi k r.d).2.2.nx;rw[b];exact C.nx
def j6.arm(C:j6 r s){b:Nat}{a t:Nat}(f:a<=1000)(g:t<=1000):j6 {r with d:={r.d with nx:=bO (b,(a:Int),(t:Int))}} s:=
 ⟨C.inv,C.gs,fun c e=>by cases e;simp only;omega⟩
end
section
variable {r r1 r':Sr} {s:Jo} {B x:Nat}
def vco{kind plain:Zl}{ep:Nat}(h:r.writes s kind ep plain=(bO 0,r1)):r1.D=r.D/\∀D x,r1.d.own D x->r.d.own D x:=by
 unfold Sr.writes at h;split at h;cases h;split at h;cases h;split at h;cases h;split at h;cases h;cases h;refine⟨rfl,fun D x c=>?_⟩;have b:(r.d.app (r.place s).1<|(r.place s).2++Y5 r.m r.mark kind ep r.op r.cnt plain).tick.own D x:=c;have a:(r.d.app (r.place s).1<|(r.place s).2++Y5 r.m r.mark kind ep r.op r.cnt plain).own D x:=(Dk.dS _ D x).1 b;have a:r.d.tick.own D x:=a;exact(Dk.dS _ D x).1 a
def vdl(f:r.sn=bO s)(h:r.bW s=(bO 0,r1))(hx:r1.own B x):r.own B x:=by
 unfold Sr.bW at h;split at h;cases h;exact hx;split at h
 rename_i hw
 cases h;obtain⟨b,d⟩:=vco (r1:=(r.writes s [82] s.ep<|Xt s.P).2)<|Prod.ext hw rfl;rcases hx with e|e|⟨t,g,e⟩
 exact .inl e;refine .inr<|.inl<|d _ _ ?_;rw[<-b];exact e;cases g;refine .inr<|.inr ⟨s,f,?_⟩;rcases e with e|e|⟨a,n,c,i,e⟩
 exact .inl e;exact .inr<|.inl e;cases i
 rename_i hw
 rw[h]at hw;exact absurd rfl hw
def j6.awaits{f:Bool}{c:dM}{e:Int}(C:j6 r s)(d:r.sn=bO s)(h:r.awaits f c e r')(b:f=bL->mF c):∃s',r'.sn=bO s'/\j6 r' s'/\e≠12/\s'.L=s.L/\s'.bP=s.bP/\r'.cnt=r.cnt/\r'.op=r.op/\(e=0->s'.now=app1 s.now c)/\(e≠0->s'=s):=by
 unfold Sr.awaits at h;rw[d]at h;simp only at h;split at h;obtain⟨rfl,rfl⟩:=h;exact⟨s,d,C,by decide,rfl,rfl,rfl,rfl,fun x=>absurd x<|by decide,fun _=>rfl⟩
 rename_i h1
 split at h;obtain⟨rfl,rfl⟩:=h;exact⟨s,d,C,by decide,rfl,rfl,rfl,rfl,fun x=>absurd x<|by decide,fun _=>rfl⟩
 rename_i h2
 obtain⟨rfl,g,rfl⟩:=h;have I:=C.inv;have i:=I.P20;have j:=b (by simpa using h1);refine⟨s.more g c,rfl,⟨?_,C.gs,C.nx⟩,by decide,rfl,rfl,rfl,rfl,fun _=>?_,fun x=>absurd rfl x⟩
 ·refine I.swap (s':=s.more g c) rfl rfl rfl rfl rfl rfl (fun y a=>?_) ?_
  rcases Je.1 a with a|a;exact I.P y a;rw[jp.1 a];exact j;show(s.P++[c]).length<=20;rw[zj,jd];omega
 unfold Jo.now Jo.more cO;rw[IJ];rfl
def Sr.wrt(r:Sr)(s:Jo)(kd:Int):Option Int×Sr:=if kd=5 then r.bW s else if kd=6 then r.bV s else r.dG s
end
def B5:Nat->Zl->List Zl
 |0,_=>[]
 |n+1,l=>if X7 l=bL then l.take (42+eT l)::B5 n (l.drop<|42+eT l)else []
def CH(b:Zl):List Zl:=B5 b.length<|b.drop 9
def HJ:∀(n m:Nat) (l:Zl),l.length<=n->l.length<=m->B5 n l=B5 m l
 |0,0,_,_,_=>rfl
 |0,m+1,l,h,_=>by
  have:l=[]:=xa (by omega);subst this;simp[B5,X7]
 |n+1,0,l,_,h=>by
  have:l=[]:=xa (by omega);subst this;simp[B5,X7]
 |n+1,m+1,l,h1,h2=>by
  unfold B5;split
  rename_i h
  have:=Wa h;rw[HJ n m _ (by rw[jb];omega)<|by rw[jb];omega];rfl
def vfa{l t:Zl}(h:10<=l.length):eT (l++t)=eT l:=by
 rw[<-D3<|l++t,X8 h,D3]
def Pl{l t:Zl}(h:X7 l=bL):X7 (l++t)=bL/\eT (l++t)=eT l:=by
 have a:10<=l.length/\42+eT l<=l.length:=by simpa[X7]using h
 have e:eT (l++t)=eT l:=vfa a.1;refine⟨?_,e⟩;simp only[X7,e,zj,X9];omega
def vdh:∀(n m:Nat) (l t:Zl),l.length<=n->(l++t).length<=m->∀x∈B5 n l,x∈B5 m (l++t)
 |0,_,l,t,h,_,x,hx=>by cases hx
 |n+1,m,l,t,h1,h2,x,hx=>by
  unfold B5 at hx;split at hx
  rename_i h
  obtain⟨a,b⟩:=Pl (t:=t) h;have c:=Wa h;cases m with
  |zero=>rw[zj]at h2;omega
  |succ m=>
   unfold B5;rw[aA a,b,X8 c,Yj c];rw[zj]at h2;rcases xf.1 hx with e|e
   rw[e];exact jo;exact xj _<|vdh n m _ t (by rw[jb];omega) (by rw[zj,jb];omega) x e
  cases hx
def vbw{b a:Zl}(h:b<+:a){x:Zl}(hx:x∈CH b):x∈CH a:=by
 obtain⟨t,rfl⟩:=h;unfold CH at*;by_cases c:9<=b.length;rw[Yj c];exact vdh _ _ _ t (by rw[jb];omega) (by rw[zj,zj,jb];omega) x hx;rw[XV<|by omega]at hx;cases hb:b.length with
 |zero=>rw[hb]at hx;cases hx
 |succ n=>rw[hb]at hx;unfold B5 at hx;simp[X7]at hx
def vbv:∀(n m:Nat) (k k':Lk) (L L':KV) (y z:Zl),oF n k L y=bO (k',L',[])->(y++z).length<=m->y.length<=n->∀x∈B5 m (y++z),x∈B5 n y\/x∈B5 m z
 |0,m,k,k',L,L',y,z,h,h1,h2,x,hx=>by
  have:y=[]:=xa (by omega);subst this;exact .inr hx
 |n+1,m,k,k',L,L',y,z,h,h1,h2,x,hx=>by
  unfold oF at h;split at h
  rename_i hr
  have d:=Wa hr;obtain⟨a,b⟩:=Pl (t:=z) hr;cases hq:lY k L y with
  |none=>rw[hq]at h;cases h
  |some q=>
   rw[hq]at h;cases m with
   |zero=>cases hx
   |succ m=>
    unfold B5 at hx;rw[aA a,b,X8 d,Yj d]at hx;rw[zj]at h1;unfold B5;rw[aA hr];rcases xf.1 hx with e|e
    rw[e];exact .inl jo;rcases vbv n m _ _ _ _ _ z h (by rw[zj,jb];omega) (by rw[jb];omega) x e with e|e
    exact .inl<|xj _ e;refine .inr ?_;have c:x∈B5 (m+1) z:=by rw[HJ (m+1) m z (by omega)<|by omega];exact e
    unfold B5 at c;exact c
  cases h;exact .inr hx
def vct{a c:Nat}{k k':Lk}{L L':KV}{y z x:Zl}(h:recs k L y=bO (k',L',[]))(hx:x∈CH (nE a c++y++z)):x∈CH (nE a c++y)\/x∈B5 (z.length+9) z:=by
 have b:=zz6 a c;unfold CH at*;rw[Zq,Yj<|by omega,XV<|by omega,jk,zj,zj]at hx;rw[Yj<|by omega,XV<|by omega,jk,zj];rcases vbv y.length _ _ _ _ _ _ _ h (by rw[zj];omega) (ze _) x hx with e|e
 exact .inl (by rw[HJ _ y.length y (by omega)<|ze _];exact e);exact .inr<|by rw[HJ (z.length+9) (((nE a c).length)+(y.length+z.length)) z (by omega)<|by omega];exact e
def ven(b:plain.length<=1020):eT (Y5 m mark [c] ep op cnt plain)=plain.length:=by
 unfold eT Y5 Wv;have e:(([c]++(nb ep 1++(nb op 2++(nb (cnt+1) 4++nb plain.length 2)))++qE m [c] ep op cnt plain++nH m mark [c] ep op cnt plain).drop 8).take 2=nb plain.length 2:=by
  have a:([c]++(nb ep 1++(nb op 2++(nb (cnt+1) 4++nb plain.length 2)))++qE m [c] ep op cnt plain++nH m mark [c] ep op cnt plain)=([c]++nb ep 1++nb op 2++nb (cnt+1) 4)++(nb plain.length 2++(qE m [c] ep op cnt plain++nH m mark [c] ep op cnt plain)):=by simp only[Zq]
  rw[a,Z6<|by simp[qt],Zd<|qt _ _]
 rw[e,wQ<|by omega]
def vcm(b:plain.length<=1020){n:Nat}{x:Zl}(hx:x∈B5 n (Y5 m mark [c] ep op cnt plain)):x=Y5 m mark [c] ep op cnt plain:=by
 have a:=QT m mark [c] ep op cnt plain rfl;cases n with
 |zero=>cases hx
 |succ n=>
  unfold B5 at hx;split at hx;rw[ven b,<-a,Yw,List.drop_length]at hx;rcases xf.1 hx with e|e
  exact e;cases n with
  |zero=>cases e
  |succ n=>unfold B5 at e;simp[X7]at e
  cases hx
def vdo{a b:Nat}(d:plain.length<=1020){x:Zl}(hx:x∈CH (nE a b++Y5 m mark [c] ep op cnt plain)):x=Y5 m mark [c] ep op cnt plain:=by
 have e:=zz6 a b;unfold CH at hx;rw[Yj<|by omega,XV<|by omega,jk]at hx;exact vcm d hx
def Nce(x:Zl)(o c:Nat):Prop:=o<65536/\c+1<4294967296/\(x.drop 2).take 6=nb o 2++nb (c+1) 4
def Nce.inj{x y:Zl}{o c g d:Nat}(h:Nce x o c)(f:Nce y g d)(e:x.take 8=y.take 8):o=g/\c=d:=by
 have j:∀z:Zl,(z.drop 2).take 6=(z.take 8).drop 2:=fun z=>by rw[List.drop_take]
 have l:nb o 2++nb (c+1) 4=nb g 2++nb (d+1) 4:=by rw[<-h.2.2,<-f.2.2,j,j,e]
 obtain⟨a,b⟩:=List.append_inj l (by simp[qt]);have i:=congrArg Zk a;have k:=congrArg Zk b;rw[wQ<|by have:=h.1;omega,wQ<|by have:=f.1;omega]at i;rw[wQ<|by have:=h.2.1;omega,wQ<|by have:=f.2.1;omega]at k;exact⟨i,by omega⟩
def vdw(ho:op<65536)(b:cnt+1<4294967296):Nce (Y5 m mark [c] ep op cnt plain) op cnt:=by
 refine⟨ho,b,?_⟩;unfold Y5 Wv;have a:([c]++(nb ep 1++(nb op 2++(nb (cnt+1) 4++nb plain.length 2)))++qE m [c] ep op cnt plain++nH m mark [c] ep op cnt plain)=([c]++nb ep 1)++((nb op 2++nb (cnt+1) 4)++(nb plain.length 2++(qE m [c] ep op cnt plain++nH m mark [c] ep op cnt plain))):=by simp only[Zq]
 rw[a,Z6<|by simp[qt],Zd<|by simp[qt]]
structure D4(H:List Zl)(o c:Nat):Prop where
 uniq:∀x∈H,∀y∈H,x.take 8=y.take 8->x=y
 old:∀x∈H,∃o' c',Nce x o' c'/\(o'<o\/o'=o/\c'<c)
def D4.nil(o c:Nat):D4 [] o c:=⟨fun x a=>(by cases a),fun x a=>(by cases a)⟩
def D4.add{o c:Nat}{z:Zl}(h:D4 H o c)(j:Nce z o c):D4 (z::H) o<|c+1:=by
 refine⟨fun x d y f e=>?_,fun x d=>?_⟩;rcases xf.1 d with d|d<;>rcases xf.1 f with f|f
 rw[d,f];obtain⟨k,i,g,l⟩:=h.old y f;obtain⟨a,b⟩:=(d▸j).inj g e;omega;obtain⟨k,i,g,l⟩:=h.old x d;obtain⟨a,b⟩:=g.inj (f▸j) e;omega;exact h.uniq x d y f e;rcases xf.1 d with d|d
 exact⟨o,c,d▸j,.inr ⟨rfl,by omega⟩⟩;obtain⟨k,i,g,l⟩:=h.old x d;exact⟨k,i,g,by omega⟩
def D4.up{o c d e:Nat}(h:D4 H o c)(j:o<d\/o=d/\c<=e):D4 H d e:=⟨h.uniq,fun x g=>by
 obtain⟨a,b,f,i⟩:=h.old x g;exact⟨a,b,f,by omega⟩⟩
def OnD(F:Ym)(H:List Zl):Prop:=∀n:Int,1<=n->n<=9999->∀x∈CH (qu F n),x∈H
def Pre(F' F:Ym):Prop:=∀n:Int,1<=n->n<=9999->qu F' n<+:qu F n
theorem Pre.refl(F:Ym):Pre F F:=fun _ _ _=>List.prefix_refl _
def Pre.trans{F F' c:Ym}(h:Pre c F')(d:Pre F' F):Pre c F:=fun n a b=>(h n a b).trans<|d n a b
def OnD.pre{F F':Ym}(h:OnD F H)(p:Pre F' F):OnD F' H:=fun n a b x c=>h n a b x<|vbw (p n a b) c
def vfe(g:fM F)(k:Int):Pre (V6 F k) F:=fun n _ _=>by
 rw[KW g];split;exact List.nil_prefix;exact List.prefix_refl _
def vfi(g:fM F)(k:Int)(j:Nat)(v:Int):Pre (Yx F k ((qu F k).take j,v)) F:=fun n a b=>by
 rw[uS g];split
 rename_i e;rw[e];exact List.take_prefix _ _
 exact List.prefix_refl _
section
variable {r r1:Sr} {s:Jo} {c:UInt8} {ep:Nat} {plain:Zl} {H:List<|Zl}
def jY.last{n:Nat}{k k':Lk}{L L':KV}(h:jY n k L xs k' L')(hx:0<xs.length):∃num cc k1 L1 y,xs[xs.length-1]=nE num cc++y/\recs k1 L1 y=bO (k',L',[]):=by
 cases h with
 |nil=>simp at hx
 |snoc h hx'=>
  obtain⟨y,e,_,a⟩:=hx';exact⟨_,_,_,_,y,(by rw[<-e];simp),a⟩
def vdp{x z:Zl}{d L:KV}{q:Lk}{m:Zl}(D:wY m F d xs q L)(ho:OnD F H){l:Nat}(o:(l:Int)=(Y0 (Jp m [] 0 0 0) F).base+xs.length)(n:0<=(Y0 (Jp m [] 0 0 0) F).base)(a:0<xs.length)(hx:x∈CH (qu F l++z)):x∈H\/x∈B5 (z.length+9) z:=by
 obtain⟨i,k,p,j,y,f,g⟩:=D.log.last a;have b:=D.dY (xs.length-1) (by omega);have c:=D.low;have h:(((Y0 (Jp m [] 0 0 0) F).base.toNat+1+(xs.length-1):Nat):Int)=(l:Int):=by omega
 rw[h,f]at b;rw[b]at hx;rcases vct g hx with e|e
 refine .inl<|ho l (by omega) (by omega) x ?_;rw[b];exact e;exact .inr e
def vdr{a L:KV}{q:Lk}{m:Zl}(D:wY m F a xs q L){l:Nat}(e:(l:Int)=(Y0 (Jp m [] 0 0 0) F).base+xs.length)(d:0<=(Y0 (Jp m [] 0 0 0) F).base):qu F ((l+1:Nat):Int)=[]:=by
 have b:=D.stop;have c:(((Y0 (Jp m [] 0 0 0) F).base.toNat+1+xs.length:Nat):Int)=((l+1:Nat):Int):=by omega
 rwa[c]at b
def vdu(C:j6 r s)(i:plain.length<=1020)(ho:OnD r.d.L H){x:Zl}(hx:x∈CH (qu r.d.L (r.place s).1++((r.place s).2++Y5 r.m r.mark [c] ep r.op r.cnt plain))):x=Y5 r.m r.mark [c] ep r.op r.cnt plain\/x∈H:=by
 obtain⟨l,k,q,L,D⟩:=C.inv.dsk;have a:=AR r.off.m r.off.d.L;have b:=D.base;have f:=D.last;have g:((s.last.toNat:Nat):Int)=(Y0 (Jp r.off.m [] 0 0 0) r.off.d.L).base+k.length:=by omega
 by_cases h:s.base<s.last/\((qu r.d.L s.last).length:Int)<r.nW;have e:r.place s=(s.last.toNat,[]):=aA h;rw[show(r.place s).1=s.last.toNat from congrArg Prod.fst e,show(r.place s).2=[]from congrArg Prod.snd e,jk]at hx;rcases vdp D.ok ho g a (by omega) hx with e|e
 exact .inr e;exact .inl<|vcm i e;have e:r.place s=(s.last.toNat+1,nE (s.last.toNat+1)<|r.cnt+1):=aB h;have j:qu r.d.L ((s.last.toNat+1:Nat):Int)=[]:=vdr D.ok g a;rw[show(r.place s).1=s.last.toNat+1 from congrArg Prod.fst e,show(r.place s).2=nE (s.last.toNat+1) (r.cnt+1)from congrArg Prod.snd e,j,jk]at hx;exact .inl<|vdo i hx
def vcz(C:j6 r s)(h:plain.length<=1020)(ho:OnD r.d.L H):OnD (r.writes s [c] ep plain).2.d.L (Y5 r.m r.mark [c] ep r.op r.cnt plain::H):=by
 have g:∀n:Int,qu (r.writes s [c] ep plain).2.d.L n<+:(if n=((r.place s).1:Int)then qu r.d.L (r.place s).1++((r.place s).2++Y5 r.m r.mark [c] ep r.op r.cnt plain)else qu r.d.L n):=fun n=>by
  rcases FE (c:=c) (ep:=ep) (plain:=plain) C h with⟨h1,h2⟩|⟨F',j,h0,h1,h2,h3⟩;rw[h1];have e:(r.wrote s [c] ep plain).d.L=(r.off.wrote s [c] ep plain).d.L:=by rw[<-FL];rfl
  show qu (r.wrote s [c] ep plain).d.L n<+:_;rw[e,k7 C.inv];exact List.prefix_refl _;rw[h1];show qu F' n<+:_;rw[h3 n];split
  rename_i e
  exact(List.prefix_append_right_inj _).2<|List.take_prefix _ _;exact List.prefix_refl _
 intro n a b x f;have f:=vbw (g n) f;split at f;rcases vdu C h ho f with e|e
 rw[e];exact jo;exact xj _ e;exact xj _<|ho n a b x f
def I8(H:List Zl)(r:Sr)(y:Option Int×Sr):Prop:=∃H',(∀x∈H,x∈H')/\OnD y.2.d.L H'/\y.2.op=r.op/\(y.1≠bN->D4 H' y.2.op y.2.cnt)/\D4 H' (r.op+1) 0
def I8.same(b:D4 H r.op r.cnt)(ho:OnD r.d.L H)(a:Option Int):I8 H r (a,r):=⟨H,fun _ h=>h,ho,rfl,fun _=>b,b.up<|.inl<|by omega⟩
def vbu(C:j6 r s)(a:plain.length<=1020)(f:D4 H r.op r.cnt)(ho:OnD r.d.L H):I8 H r<|r.writes s [c] ep plain:=by
 have g:r.op<=999:=C.inv.op;have e:r.cnt<=40:=C.inv.cnt;have b:=f.add<|vdw (m:=r.m) (mark:=r.mark) (c:=c) (ep:=ep) (plain:=plain) (show r.op<65536 by omega) (show r.cnt+1<4294967296 by omega);refine⟨_,fun x i=>xj _ i,vcz C a ho,?_,?_,b.up<|.inl<|by omega⟩;rcases FE (c:=c) (ep:=ep) (plain:=plain) C a with⟨h1,h2⟩|⟨F',j,h0,h1,h2,h3⟩<;>rw[h1]<;>rfl
 intro h;rcases FE (c:=c) (ep:=ep) (plain:=plain) C a with⟨h1,h2⟩|⟨F',j,h0,h1,h2,h3⟩
 rw[h1];exact b;rw[h1]at h;exact absurd rfl h
def vbq(C:j6 r s)(b:D4 H r.op r.cnt)(ho:OnD r.d.L H):I8 H r<|r.bW s:=by
 have I:=C.inv;unfold Sr.bW;split;exact I8.same b ho _;have a:(Xt s.P).length<=1020:=by have:=IQ I.P;have:=I.P20;omega
 have w:=vbu (c:=82) (ep:=s.ep) C a b ho;split
 rename_i h
 obtain⟨e,f,g,i,j,k⟩:=w;exact⟨e,f,g,i,fun _=>j<|by rw[h];simp,k⟩;exact w
def vca.pre{m:Mf}{pt sl:Zl}{d:Dk}{y:Bool×Dk}(h:vca m pt sl d y)(f:m.file=10001\/m.file=10002):Pre y.2.L d.L:=by
 obtain⟨c,x,g,a,⟨e,_,b⟩|⟨e,_,⟨b,_⟩|⟨_,_,b⟩⟩⟩:=h<;>subst e<;>intro n n1 i
 show qu c n<+:_;rw[b n,aB<|by omega,aB<|by omega];exact List.nil_prefix;show qu c n<+:_;rw[b n<|by omega];exact List.prefix_refl _;show qu c n<+:_;rcases b n (by omega) (by omega)with e|e<;>rw[e]
 exact List.nil_prefix;exact List.prefix_refl _
def ves(C:j6 r s)(l:r.sn=bO s)(k:s.P=[])(c3:s.bP<999):Pre (r.jR s).2.d.L r.d.L/\(r.jR s).2.op=r.op/\(r.jR s).2.cnt=r.cnt:=by
 have I:=C.inv;by_cases e:s.bP=999;omega;by_cases f:16384<(Vf s.L).length\/r.d.room-J6 r.d.L<(r.roomFor (Vf s.L).length:Int);unfold Sr.jR;rw[aB e,aA f];exact⟨Pre.refl _,rfl,rfl⟩;have c:(Vf s.L).length<=16384:=by omega
 have a:=zut s.named;obtain⟨B,D,o,p,q,t,v,w,x,y,z,b,j⟩:=I.jR l k c3 c;have g:((r.mf s).bS<|Jm r.m s.ep).length=116:=YR _ _ (Sd _<|by unfold Sr.parts;rw[zZ];have:=(DU<|Vf s.L).2.1;omega) I.mark;have i:((r.parts s).flatten).length=(Vf s.L).length:=Lq _ _ _;have n:=U5 (r:={r with sn:=bO {s with bP:=s.bP+1}}) (m:=r.mf s) (pt:=(r.parts s).flatten) (sl:=(r.mf s).bS<|Jm r.m s.ep) C.nx C.gs (by omega) (by omega) a b;have h:=n.pre a;unfold Sr.jR;rw[aB e,aB f];split;exact⟨h,rfl,rfl⟩;exact⟨h,rfl,rfl⟩
def vei{d:Dk}(hx:d.nx=bN)(g:FI d.L)(m:0<=k.last/\k.last<=10000):Pre (Xi k d).2.2.L d.L:=by
 have b:∀(k:Lk) (d:Dk),d.nx=bN->FI d.L->Pre (qC k d).2.2.L d.L:=fun k d hx g n _ _=>by
  obtain⟨h,c,i,j⟩:=H0 (k:=k) (Xs d.L) d hx g;unfold qC;rw[c];show qu h n<+:_;rw[j n];split;exact List.nil_prefix;exact List.prefix_refl _
 have a:d.stops=bK:=zY hx;have f:d.tick=d:=JN hx;have l:i64 k.last:=by unfold i64;omega
 unfold Xi;split;rw[a,aB<|by simp];have e:(d.cut k.last k.whole.toNat).L=Yx d.L k.last ((qu d.L k.last).take k.whole.toNat,(((qu d.L k.last).take k.whole.toNat).length:Int)):=rfl;refine(b _ _ ?_ ?_).trans ?_;show d.tick.nx=bN;rw[f];exact hx;rw[e];refine g.lay l ?_;have c:=List.length_take_le k.whole.toNat<|qu d.L k.last;have i:(qu d.L k.last).length<=1000000:=(g.each.dat k.last).2.2;rw[xt];omega;rw[e];exact vfi g.gd _ _ _;split;rw[a,aB<|by simp];refine(b _ _ ?_<|g.del _).trans<|vfe g.gd _;show d.tick.nx=bN;rw[f];exact hx;exact b _ _ hx g
end
section
variable {r r1:Sr} {s:Jo} {H:List<|Zl} {n:Nat}
def U2(n:Nat)(r:Sr)(s:Jo):Prop:=2*r.cnt+(if s.P=[]then 0 else 1)<=n+2*s.ep
def U2.cx(C:j6 r s)(h:U2 n r s):2*r.cnt<=n+10:=by
 have:s.ep<=5:=C.inv.ep;unfold U2 at h;omega
structure NS(n:Nat)(r r':Sr):Prop where
 fell:P7 r r'
 mark:r'.mark.length=32
 cnt:2*r'.cnt<=n+10
 mends:∃r0 s0,F2 r' r0 s0/\2*r0.cnt<=n+2*s0.ep
structure P4(n:Nat)(r:Sr)(s:Jo)(r':Sr)(s':Jo):Prop where
 sn:r'.sn=bO s'
 inv:j6 r' s'
 P:s'.P=[]
 keep:tF r r'
 lim:r'.lim=r.lim
 room:r'.d.room=r.d.room
 pot:U2 n r' s'
 sh:s'.bP<=s.bP+1
def j6.vet(C:j6 r s){ep:Nat}(v:plain.length<=1020)(h:r.cnt<=39)(w:Reads r.off s c ep plain s')
  (p:s'.base=s.base)(q:s'.last=((r.place s).1:Int))(t:s'.named=s.named)(g:s'.P=[])(j:jM s'.L)(b:s'.L.length<=20*(r.cnt+1))(i:s'.ep<=5)(k:s'.bP=s.bP)(m:2*r.cnt<=n+2*s.ep)(o:2*(r.cnt+1)<=n+2*s'.ep):
  (r.writes s [c] ep plain=(bO 0,r.wrote s [c] ep plain)/\P4 n r s {r.wrote s [c] ep plain with sn:=bO s'} s')\/(∃r',r.writes s [c] ep plain=(bN,r')/\NS n r r'):=by
 rcases C.write v h w p q t g j b i k with⟨d,e,l,f⟩|⟨r',d,e,l,f,a,_⟩;refine .inl ⟨d,rfl,e,g,l,rfl,f,?_,by omega⟩;unfold U2;rw[aA g];show 2*(r.cnt+1)+0<=_;omega;refine .inr ⟨r',d,e,by rw[f];exact C.vgi,by have:s.ep<=5:=C.inv.ep;omega,?_⟩;rcases a with a|a;exact⟨_,_,a,m⟩;exact⟨_,_,a,o⟩
def j6.vby(C:j6 r s)(l:r.sn=bO s)(m:n<=60)(p:U2 n r s):
  (∃r1,r.bW s=(bO 0,r1)/\P4 (n+1) r s r1 (r.ses1 s)/\(r.ses1 s).ep=s.ep/\(r.ses1 s).bP=s.bP)\/(∃r1,r.bW s=(bN,r1)/\NS (n+1) r r1):=by
 have I:=C.inv;have j:=p.cx C;by_cases b:s.P=[];have a:r.ses1 s=s:=by unfold Sr.ses1;rw[aA b]
 refine .inl ⟨r,by unfold Sr.bW;rw[aA b],?_,by rw[a],by rw[a]⟩;rw[a];exact⟨l,C,b,tF.refl r,rfl,rfl,by unfold U2 at*;omega,by omega⟩;have a:r.ses1 s=({s with last:=(r.place s).1}:Jo).synced:=by unfold Sr.ses1;rw[aB b]
 have i:(Xt s.P).length<=1020:=by have:=IQ I.P;have:=I.P20;omega
 have e:jM (r.ses1 s).L:=by rw[a];exact F_ s.P I.sK I.P
 have h:(r.ses1 s).L.length<=20*(r.cnt+1):=by
  rw[a];have f:=y_ s.P s.L;have g:s.L.length<=20*r.cnt:=I.len;have:=I.P20;show(cO s.L s.P).length<=_;omega
 have d:(r.ses1 s).ep=s.ep:=by rw[a];rfl
 have k:2*r.cnt+1<=n+2*s.ep:=by unfold U2 at p;rwa[aB b]at p
 rcases C.vet (n:=n+1) (c:=82) (ep:=s.ep) (s':=r.ses1 s) i (by omega) (vcj I b) (by rw[a];rfl) (by rw[a];rfl) (by rw[a];rfl) (by rw[a];rfl) e h (by rw[d];exact I.ep) (by rw[a];rfl) (by omega) (by rw[d];omega)with⟨f,g⟩|⟨r',f,g⟩;refine .inl ⟨_,?_,g,d,by rw[a];rfl⟩;unfold Sr.bW;rw[aB b,f,aA rfl,a];refine .inr ⟨r',?_,g⟩;unfold Sr.bW;rw[aB b,f,aB<|by simp]
def P7.up{r':Sr}(d:P4 n r s r1<|r.ses1 s)(f:P7 r1 r'):P7 r r':=P7.trans d.keep d.lim d.room f
def j6.vff(C:j6 r s)(q:r.sn=bO s)(o:n<=60)(p:U2 n r s):
  (∃v r' s',v≠12/\r.bV s=(bO v,r')/\P4 (n+1) r s r' s')\/(∃r',r.bV s=(bN,r')/\NS (n+1) r r'):=by
 rcases C.vby q o p with⟨i,b,d,e,t⟩|⟨i,b,f⟩;by_cases k:s.ep=5;refine .inl ⟨10,i,_,by decide,?_,d⟩;unfold Sr.bV;rw[b,aA rfl,aA<|e.trans k];have j:=d.inv;have I1:=j.inv;have a:(r.ses1 s).ep≠5:=by rw[e];exact k
 have m:=I1.ep;have l:=d.pot.cx j;have g:=d.pot;unfold U2 at g;rw[aA d.P]at g;rcases j.vet (n:=n+1) (c:=75) (ep:=(r.ses1 s).ep+1) (plain:=[]) (s':={r.ses1 s with last:=(i.place<|r.ses1 s).1,ep:=(r.ses1 s).ep+1}) (by simp) (by omega) (vci I1 a rfl rfl) rfl rfl rfl d.P I1.sK (by have h:(r.ses1 s).L.length<=20*i.cnt:=I1.len;show(r.ses1 s).L.length<=_;omega) (by show(r.ses1 s).ep+1<=5;omega) rfl (by omega) (by show _<=n+1+2*((r.ses1 s).ep+1);omega)with⟨a1,a2⟩|⟨r',a1,a2⟩
 refine .inl ⟨0,_,_,by decide,?_,⟨rfl,a2.inv,d.P,d.keep.trans a2.keep,d.lim,a2.room.trans d.room,a2.pot,?_⟩⟩;unfold Sr.bV;rw[b,aA rfl,aB a];simp only;rw[a1,aA rfl];show(r.ses1 s).bP<=_;omega;refine .inr ⟨r',?_,⟨P7.up d a2.fell,a2.mark,a2.cnt,a2.mends⟩⟩;unfold Sr.bV;rw[b,aA rfl,aB a];simp only;rw[a1,aB<|by simp];refine .inr ⟨i,?_,f⟩;unfold Sr.bV;rw[b,aB<|by simp]
def vez{v:Int}{r':Sr}(h:r.jR s=(bO v,r'))(a:r'.sn=bO s')(b:r.sn=bO s):s'.ep=s.ep:=by
 unfold Sr.jR at h;split at h;cases h;rw[b]at a;cases a;rfl;split at h;cases h;rw[b]at a;cases a;rfl;split at h;cases h;cases a;rfl;cases h
def j6.vgb(C:j6 r s)(y:r.sn=bO s)(x:n<=60)(p:U2 n r s)(c3:s.bP<999):
  (∃v r' s',v≠12/\r.dG s=(bO v,r')/\P4 (n+1) r s r' s')\/(∃r',r.dG s=(bN,r')/\NS (n+1) r r'):=by
 rcases C.vby y x p with⟨o,h,d,w,z⟩|⟨o,h,f⟩;have a:=d.pot;unfold U2 at a;rw[aA d.P]at a;rcases d.inv.jR d.sn d.P (by omega)with⟨v,r',s',B,c,e,k,l,g,i,m,j,t,q⟩|⟨r',c,e,k,l,D,E,g,i,m,j⟩;refine .inl ⟨v,r',s',B,?_,⟨e,k,g,d.keep.trans m,j.trans d.lim,t.trans d.room,?_,by omega⟩⟩;unfold Sr.dG;rw[h,aA rfl];exact c;have b:s'.ep=(r.ses1 s).ep:=vez c e d.sn;unfold U2;rw[aA g,i,b];exact a;refine .inr ⟨r',?_,⟨P7.up d e,by rw[l];exact d.inv.vgi,by have:(r.ses1 s).ep<=5:=d.inv.inv.ep;omega,D,E,g,by rw[i,j];omega⟩⟩;unfold Sr.dG;rw[h,aA rfl];exact c;refine .inr ⟨o,?_,f⟩;unfold Sr.dG;rw[h,aB<|by simp]
end
section
variable {r r1 r' r0:Sr} {s s0:Jo} {H:List<|Zl} {n:Nat}
def I8.from{y:Option Int×Sr}(hop:r1.op=r.op){a:List Zl}(i:∀x∈H,x∈a)(h:I8 a r1 y):I8 H r y:=by
 obtain⟨b,c,d,e,f,g⟩:=h;exact⟨b,fun x j=>c x<|i x j,d,e.trans hop,f,by rw[<-hop];exact g⟩
def I8.then{y:Option Int×Sr}{v:Int}(h:I8 H r (bO v,r1))(hy:∀H1,D4 H1 r1.op r1.cnt->OnD r1.d.L H1->I8 H1 r1 y):I8 H r y:=by
 obtain⟨H1,a,b,c,e,f⟩:=h;exact(hy H1 (e<|by simp) b).from c a
def vcx(C:j6 r s)(y:r.sn=bO s)(x:n<=60)(p:U2 n r s)(v:D4 H r.op r.cnt)(ho:OnD r.d.L H):I8 H r<|r.bV s:=by
 have st:=vbq (s:=s) C v ho;rcases C.vby y x p with⟨B,e,d,t,z⟩|⟨B,e,f⟩
 rw[e]at st;unfold Sr.bV;rw[e,aA rfl];by_cases g:(r.ses1 s).ep=5;rw[aA g];exact st.then fun j a b=>I8.same a b _;rw[aB g];refine st.then fun j a b=>?_;have w:=vbu (c:=75) (ep:=(r.ses1 s).ep+1) (plain:=[]) d.inv (by simp) a b;simp only;split
 rename_i h
 obtain⟨i,k,l,m,o,q⟩:=w;exact⟨i,k,l,m,fun _=>o<|by rw[h];simp,q⟩;exact w;unfold Sr.bV;rw[e,aB<|by simp,<-e];exact st
def vdk(C:j6 r s)(o:r.sn=bO s)(m:n<=60)(p:U2 n r s)(c3:s.bP<999)(l:D4 H r.op r.cnt)(ho:OnD r.d.L H):I8 H r<|r.dG s:=by
 have st:=vbq (s:=s) C l ho;rcases C.vby o m p with⟨t,c,d,k,q⟩|⟨t,c,f⟩
 rw[c]at st;unfold Sr.dG;rw[c,aA rfl];refine st.then fun g a b=>?_;obtain⟨i,e,j⟩:=ves d.inv d.sn d.P (by omega);exact⟨g,fun _ h=>h,b.pre i,e,fun _=>by rw[e,j];exact a,a.up<|.inl<|by omega⟩;unfold Sr.dG;rw[c,aB<|by simp,<-c];exact st
structure vcb(H:List Zl)(r:Sr):Prop where
 P6:D4 H r.op r.cnt
 on:OnD r.d.L H
def j6.vhf{kd:Int}(C:j6 r s)(c:r.sn=bO s)(b:n<=60)(p:U2 n r s)(c3:s.bP<999)(h:vcb H r):∃H',(∀x∈H,x∈H')/\
  ((∃v r' s',v≠12/\r.wrt s kd=(bO v,r')/\P4 (n+1) r s r' s'/\vcb H' r')\/(∃r',r.wrt s kd=(bN,r')/\NS (n+1) r r'/\D4 H' (r'.op+1) 0/\OnD r'.d.L H')):=by
 have a:∀y:Option Int×Sr,I8 H r y->((∃v r' s',v≠12/\y=(bO v,r')/\P4 (n+1) r s r' s')\/(∃r',y=(bN,r')/\NS (n+1) r r'))->∃H',(∀x∈H,x∈H')/\
  ((∃v r' s',v≠12/\y=(bO v,r')/\P4 (n+1) r s r' s'/\vcb H' r')\/(∃r',y=(bN,r')/\NS (n+1) r r'/\D4 H' (r'.op+1) 0/\OnD r'.d.L H')):=fun y o z=>by
  obtain⟨H',l,i,m,q,t⟩:=o;refine⟨H',l,?_⟩;rcases z with⟨v,r',s',w,rfl,d⟩|⟨r',rfl,f⟩
  exact .inl ⟨v,r',s',w,rfl,d,q<|by simp,i⟩;refine .inr ⟨r',rfl,f,?_,i⟩;rw[show r'.op=r.op from m];exact t
 unfold Sr.wrt;by_cases j:kd=5;rw[aA j];refine a _ (vbq C h.P6 h.on) ?_;rcases C.vby c b p with⟨g,e,d,_,_⟩|⟨g,e,f⟩
 exact .inl ⟨0,g,_,by decide,e,d⟩;exact .inr ⟨g,e,f⟩;rw[aB j];by_cases k:kd=6;rw[aA k];exact a _ (vcx C c b p h.P6 h.on)<|C.vff c b p;rw[aB k];exact a _ (vdk C c b p c3 h.P6 h.on)<|C.vgb c b p c3
def OV.RR{mp S:Nat}{L:KV}(M:OV r' r0 s0 mp k L)(hx:r'.d.nx=bN)(g:FI r'.d.L)(a:D4 H (r'.op+1) 0)(ho:OnD r'.d.L H):vcb H<|Wp r' k S L:=
 ⟨a.up<|.inr ⟨rfl,Vj _⟩,ho.pre<|vei hx g M.rC⟩
def OV.pot{mp S:Nat}{L:KV}(M:OV r' r0 s0 mp k L)(a:2*r0.cnt<=n+2*s0.ep):U2 n (Wp r' k S L)<|V4 S (Xi k r'.d).2.1 L:=by
 unfold U2;rw[aA (show(V4 S (Xi k r'.d).2.1 L).P=[]from rfl)];show 2*k.cnt+0<=n+2*(Xi k r'.d).2.1.ep;rw[M.cnt,M.ep];omega
def vcb.reopen{S:Nat}{L:KV}(h:vcb H r)(a:Xi k r.d=(bL,k,r.d)):vcb H<|Wp r k S L:=by
 refine⟨h.P6.up<|.inl<|by show r.op<r.op+1;omega,?_⟩;show OnD (Xi k r.d).2.2.L H;rw[a];exact h.on
end
end
section
attribute [local go_sem] xe zv
@[simp]def vhc:prog.funcs[28]?=bO Tryz.f28:=A.qf Tryz.func28
@[simp]def vhh(args:Za)(w:Zy):(callFunc 28 args).run prog w= .ok (.enter 28 args) w:=A.qc Tryz.func28 (args:=args) (w:=w)
def vfc{l:Zl}(h:10<=l.length):eT l=(l[8]'(by omega)).toNat*256+(l[9]'(by omega)).toNat:=by
 unfold eT;have e:(l.drop 8).take 2=[l[8]'(by omega),l[9]'(by omega)]:=by
  rw[Vd<|by omega,Vd<|by omega];rfl
 rw[e,show [l[8]'(by omega),l[9]'(by omega)]=[l[8]'(by omega)]++[l[9]'(by omega)]from rfl,a9,show [l[8]'(by omega)]=[]++[l[8]'(by omega)]from rfl,a9];simp[Zk]
def vcv(b:List UInt8)(hb:b.length<=1000000)(w:World):bE prog 28 #[.string<|st b] w fun e w'=>∃v,e= .returned v/\w'.ownsRow w.heap.size 9 1 v (CH b).length ((CH b).map iU)/\Nw w w':=by
 obtain⟨i9,hi,hz0,hz1,hz2⟩:=NY;go_enter vhc,Tryz.ntmps28
 go_wp2_with fail
 go_loopw [3,4] (fun v t wr=>∃(D:List<|List UInt8) (k:Nat),t= .int .i64 k/\k<=b.length+9/\CH b=D++B5 b.length (b.drop k)/\D.length<=k/\wr.ownsRow w.heap.size 9 1 v D.length (D.map iU)/\Nw w wr) (fun _ t _=>(b.length+100-intOf t).toNat)
 case atStart=>exact⟨[],9,rfl,by omega,rfl,by simp,Vl _ _ _ _,xb.refl _ _⟩
 case round=>
  obtain⟨D,k,rfl,hk,hcut,hlen,hown,hnw⟩:=hrel;have HC:=zl hcut;obtain⟨a4,cap4,rfl,hcap⟩:=Jh hown;have HO:=zl hown;have HN:=zl hnw;clear hcut hown hnw;have w10:IntKind.i64.wrap ((k:Int)+10)=(k:Int)+10:=by rw[xn];omega
  by_cases hr:k+10<=b.length
  ·have i1:(k:Int)+10<=(b.length:Nat):=by omega
   have w42:IntKind.i64.wrap ((k:Int)+42)=(k:Int)+42:=by rw[xn];omega
   have w8:IntKind.i64.wrap ((k:Int)+8)=(k:Int)+8:=by rw[xn];omega
   have w9:IntKind.i64.wrap ((k:Int)+9)=(k:Int)+9:=by rw[xn];omega
   have p8:0<=(k:Int)+8:=by omega
   have p9:0<=(k:Int)+9:=by omega
   have j8:(k:Int)+8<(b.length:Nat):=by omega
   have j9:(k:Int)+9<(b.length:Nat):=by omega
   obtain⟨x8,hx8⟩:∃x,(st b)[((k:Int)+8).toNat]'(by rw[xe];omega)=x:=⟨_,rfl⟩;obtain⟨x9,hx9⟩:∃x,(st b)[((k:Int)+9).toNat]'(by rw[xe];omega)=x:=⟨_,rfl⟩;have b8:=x8.toNat_lt;have b9:=x9.toNat_lt;have v8:IntKind.i64.wrap (x8.toNat:Int)=(x8.toNat:Int):=by rw[xn];omega
   have v9:IntKind.i64.wrap (x9.toNat:Int)=(x9.toNat:Int):=by rw[xn];omega
   have v88:IntKind.i64.wrap ((x8.toNat:Int)*256)=(x8.toNat:Int)*256:=by rw[xn];omega
   have v89:IntKind.i64.wrap ((k:Int)+42+(x8.toNat:Int)*256)=(k:Int)+42+(x8.toNat:Int)*256:=by rw[xn];omega
   obtain⟨E,hE⟩:∃E:Nat,E=k+42+x8.toNat*256+x9.toNat:=⟨_,rfl⟩;have v99:IntKind.i64.wrap ((k:Int)+42+(x8.toNat:Int)*256+(x9.toNat:Int))=(E:Int):=by rw[xn];omega
   have HB:Hid<|42+eT (b.drop k)+k=E:=by
    show _=_;have h10:10<=(b.drop k).length:=by rw[jb];omega
    rw[vfc h10,hE];have q8:((k:Int)+8).toNat=k+8:=by omega
    have q9:((k:Int)+9).toNat=k+9:=by omega
    have e8:(b.drop k)[8]=x8:=by rw[List.getElem_drop,<-hx8];simp only[q8];rfl
    have e9:(b.drop k)[9]=x9:=by rw[List.getElem_drop,<-hx9];simp only[q9];rfl
    rw[e8,e9];omega
   have HE:=zl hE;clear hE;by_cases hle:E<=b.length
   ·have i2:¬(b.length:Int)<(E:Int):=by omega
    go_wp2_with fail
    have hE42:42<=E:=by have h:42+eT (b.drop k)+k=E:=HB.o;omega
    have hkE:k+42<=E:=by have h:42+eT (b.drop k)+k=E:=HB.o;omega
    have HX:Hid<|Value.string ((st b).extract k E)=iU ((b.drop k).take<|42+eT (b.drop k)):=by
     show _=_;rw[xok,<-HB.o];unfold iU
     congr 2
     rw[List.drop_take]
     congr 1
     omega
    have HS:Hid<|CH b=(D++[(b.drop k).take<|42+eT (b.drop k)])++B5 b.length (b.drop E):=by
     show _=_;have hf:X7 (b.drop k)=bL:=by have:=HB.o;unfold X7;simp;omega
     have hq:B5 b.length (b.drop k)=(b.drop k).take (42+eT (b.drop k))::B5 b.length (b.drop E):=by
      obtain⟨m,hm⟩:∃m,b.length=m+1:=⟨b.length-1,by omega⟩;have e1:B5 b.length (b.drop E)=B5 m (b.drop E):=HJ _ _ _ (by rw[jb];omega) (by rw[jb];omega);rw[e1,hm];show(if X7 (b.drop k)=bL then _ else _)=_;rw[aA hf,Vx,show k+(42+eT (b.drop k))=E by have:=HB.o;omega]
     rw[HC.o,hq,Zq];rfl
    have k0:0<=(k:Int):=by omega
    have k1:(k:Int)<=(E:Int):=by have:=HE.o;omega
    have k2:(E:Int)<=(b.length:Nat):=by omega
    go_wp2_with fail
    go_region_with (fail)
    all_goals clear hx8 hx9 v8 v9 v88 v89 v99 b8 b9
    all_goals
     have O1:Hid<|wr.drew.ownsRow w.heap.size 9 1 (.slice a4 D.length cap4) D.length<|D.map iU:=HO.o.drew;have N1:Hid<|Nw w wr.drew:=HN.o.drew;generalize wr.drew=W at*
    all_goals
     go_wp2_with (refine wpList_append_lies _ rfl _ _ 51 rfl w.heap.size 9 i9 _ 1 16 underlying51 hi hz0 hz1 hz2 rfl (by decide) (.slice a4 _ cap4) D.length (D.map iU) rfl ?_ _ 1 1 [.string<|(st b).extract k E] rfl rfl ?_ ?_ (by decide) ?_ ?_ ?_ (W.heap.size+1) ?_ ?_)
     ·exact O1.o.alloc _
     ·intro j z hz
      cases j with
      |zero=>simp at hz;subst hz;simp[go_sem,Addr.add]
      |succ j=>simp at hz
     ·intro z hz;simp at hz;rw[hz];rfl
     ·unfold maxLen;omega
     ·omega
     ·have:=N1.o.size;simp;omega
     ·simp
     intro g2 cap2 w4 hown4 hgr4 hat4 hlt4;have B4:Hid<|Nw w w4:=by
      have b1:=(zr _<|W.alloc<|.cells _ 9).grown hgr4 (by have:=N1.o.size;simp;omega)<|Vs O1.o;exact(N1.o.trans<|xb.alloc _).dH b1
     have O4:Hid<|w4.ownsRow w.heap.size 9 1 (.slice (bO ⟨g2,0,bN⟩) (D.length+1) cap2) (D++[(b.drop k).take<|42+eT (b.drop k)]).length<|(D++[(b.drop k).take<|42+eT (b.drop k)]).map iU:=by
      show World.ownsRow _ _ _ _ _ _ _;rw[Jd,zj];simp only[xq,DN,<-HX.o];exact hown4
     clear hown4 hgr4 hat4 hlt4
     go_wp2_with fail
     refine⟨⟨_,E,rfl,by omega,HS.o,by simp only[zj,zh,jn];omega,O4.o,B4.o⟩,?_⟩;simp[intOf];omega
   ·have i2:(b.length:Int)<(E:Int):=by omega
    have HF:Hid<|CH b=D:=by
     show _=_;rw[HC.o];have hf:X7 (b.drop k)=bK:=by have:=HB.o;unfold X7;simp;intro h;omega
     cases b.length with
     |zero=>simp[B5]
     |succ n=>unfold B5;rw[aB<|by simp[hf],Xq]
    go_wp2_with fail
    go_region_with (fail)
    all_goals clear hx8 hx9 v8 v9 v88 v89 v99
    all_goals go_wp2_with fail
    all_goals go_ret
    all_goals rw[HF.o]
    all_goals exact⟨_,rfl,HO.o,HN.o.drew⟩
  ·have i1:¬(k:Int)+10<=(b.length:Nat):=by omega
   have HE:Hid<|CH b=D:=by
    show _=_;rw[HC.o];have hf:X7 (b.drop k)=bK:=by unfold X7;simp;intro h;omega
    cases b.length with
    |zero=>simp[B5]
    |succ n=>unfold B5;rw[aB<|by simp[hf],Xq]
   go_wp2_with fail
   go_ret
   rw[HE.o];exact⟨_,rfl,HO.o,HN.o⟩
end
section
open Go.Extern.Stop Go.Stop Go.Extern
def vay(v:Zv)(w:Zy):(Extern.ReflectliteType.typeOf #[.iface 388 v]).run prog w= .ok (.iface 312<|.agg #[zk 5 388]) w:=by kernel_rfl
def vag(w:Zy):((Extern.ReflectliteType.method fun t=>do Extern.Rtype.noPackHeld "Comparable" t;(fun a=>Value.bool a.comparable) <$> typeInfo t) #[.agg #[zk 5 388]]).run prog w= .ok (.bool bL) w:=by kernel_rfl
def vbc(v:Zv)(w:Zy):(Go.method 521 312 v "Comparable").run prog w= .ok (340,v) w:=by kernel_rfl
def vbk:(prog.info? 388).map (·.comparable)=bO bL:=by kernel_rfl
def vbi:(prog.info? 410).map (·.size)=bO 1:=by kernel_rfl
def lacks{i:Zt}{a:Array<|String×Zt}(b:prog.underlying i=bO (.interface a))(h:(prog.info? 388).map (fun i=>(lacking a i.methods).isEmpty)=bO bK)(c:(prog.info? i).map (·.zero)=bO (bO .nilIface)):
  ∀v xT w,(Instr.typeAssert (.iface 388 v) xT i bL).run prog w= .ok (.tuple #[.nilIface,.bool bK]) w:=run_typeAssert_lacksB b h c
def vbn(a b:Addr)(t:Bool)(w:Zy)(c:(binOp .eql 212 (.iface 388<|.pointer<|bO a)<|.iface 388<|.pointer<|bO b).run prog w= .ok (.bool t) w):
  bE prog 204 #[.iface 388<|.pointer<|bO a,.iface 388<|.pointer<|bO b,.bool bL] w fun e w'=>e= .returned (.bool t)/\w'=w:=by
 have d:=lacks (show prog.underlying 314=_ from Tryz.underlying314) (by kernel_rfl) (by kernel_rfl);have f:=lacks (show prog.underlying 317=_ from Tryz.underlying317) (by kernel_rfl) (by kernel_rfl);have g:=lacks (show prog.underlying 319=_ from Tryz.underlying319) (by kernel_rfl) (by kernel_rfl);go_enter func204.1,Tryz.ntmps204
 go_wp2
 refine wp_loop_rounds 1 ?_;rw[rounds_succ];cases t
 all_goals
  go_wp2
  go_ret
  exact⟨rfl,rfl⟩
def vbh(a b:Addr)(t:Bool)(w:Zy)(c:(binOp .eql 212 (.iface 388<|.pointer<|bO a)<|.iface 388<|.pointer<|bO b).run prog w= .ok (.bool t) w):
  bE prog 133 #[.iface 388<|.pointer<|bO a,.iface 388<|.pointer<|bO b] w fun e w'=>e= .returned (.bool t)/\w'=w:=by
 have h:=@run_callFunc_extern prog 203 _ _ func203 (by kernel_rfl) (by kernel_rfl) A.xxb A.xxo;have f:=@run_callFunc_extern prog 340 _ _ func340 (by kernel_rfl) (by kernel_rfl) A.xxd A.xxq;have j:=vay;have g:=vag;have i:=vbc;have d:=zl<|vbn a b t w c;clear c;go_enter func133.1,Tryz.ntmps133
 go_wp2
 refine d.o.mono ?_;rintro e w' ⟨rfl,rfl⟩
 go_wp2
 go_ret
 exact⟨rfl,rfl⟩
def vac(lo:Nat)(cv tv:Zv)(w:Zy):Prop:=∃a b ca cb ta tb,cv= .iface 388 (.pointer<|bO a)/\tv= .iface 388 (.pointer<|bO b)/\b≠a/\a.block<lo/\b.block<lo/\w.heap[a.block]?=bO (.cells ca ta (0,0))/\w.heap[b.block]?=bO (.cells cb tb (0,0))
end
section
open A
def vac.but{cv tv:Zv}{lo:Nat}{S:ZP}{w w':Zy}(h:vac lo cv tv w)(k:xb S w w')(c:∀x,S x->lo<=x):vac lo cv tv w':=by
 obtain⟨a,b,j,l,s,t,m,n,p,q,r,d,f⟩:=h;have g:∀{i:Nat} {o:Obj},w.heap[i]?=bO o->i<w.heap.size:=fun h=>(za.1 h).1;exact⟨a,b,j,l,s,t,m,n,p,q,r,(k.block _ (g d) fun e=>by have:=c _ e;omega).trans d,(k.block _ (g f) fun e=>by have:=c _ e;omega).trans f⟩
end
section
open Go.Extern.Stop Go.Stop Go.Extern
attribute [local go_sem] xe zv
@[simp]def vgc:prog.funcs[26]?=bO Tryz.f26:=A.qf Tryz.func26
@[simp]def vhi(args:Za)(w:Zy):(callFunc 26 args).run prog w= .ok (.enter 26 args) w:=A.qc Tryz.func26 (args:=args) (w:=w)
@[simp]def vhd:prog.funcs[27]?=bO Tryz.f27:=A.qf Tryz.func27
@[simp]def vhg(args:Za)(w:Zy):(callFunc 27 args).run prog w= .ok (.enter 27 args) w:=A.qc Tryz.func27 (args:=args) (w:=w)
def vda{cv tv:Zv}{lo:Nat}(B:Nat)(w:Zy)(h:vac lo cv tv w)(q:w.cell? (zq 0 0)=bO cv){n:Zv}(c7:w.cell? (zq B 7)=bO n)(f7:w.frozen? (zq B 7)=bK):
  bE prog 80 #[zo B,cv] w fun e w'=>e= .returned (zi 12)/\w'=w.setCell (zq B 7) (.pointer bN):=by
 obtain⟨a,b,o,p,s,v,rfl,rfl,m,_,_,k,l⟩:=h;obtain⟨i,f,c⟩:=zt.1 vbk;obtain⟨j,g,d⟩:=zt.1 vbi;have r:=run_typeAssert_hasB (P:=prog) (t:=388) (show prog.underlying 212=_ from Tryz.underlying212) (by kernel_rfl);have I1:=zl<|vbh a a bL w<|run_eql_iface_ptr_same (P:=prog) w a (show prog.underlying 212=_ from Tryz.underlying212) (show prog.underlying 388=_ from Tryz.underlying388) f c g;clear f c g d k l;go_enter func80.1,Tryz.ntmps80
 go_wp2
 refine I1.o.mono ?_;rintro e w' ⟨rfl,rfl⟩
 go_wp2
 go_ret
 exact⟨rfl,rfl⟩
def vdn{cv tv:Zv}{lo B p q:Nat}(w:Zy)(g:vac lo cv tv w)(i:w.cell? (zq 0 0)=bO cv){o:Zv}(c7:w.cell? (zq B 7)=bO o)(f7:w.frozen? (zq B 7)=bK)(z:w.cell? (zq p 0)=bO (zo B))(h:xx w q #[zi 0] 30)(f:q≠B):
  CallsD prog 79 #[zo p,zo q] (.panicking [{v:=cv,recovered:=bK}]) w fun e u' w'=>e= .returned (.tuple #[])/\u'= .panicking [{v:=cv,recovered:=bL}]/\w'=(w.setCell (zq B 7)<|.pointer bN).setCell (zq q 0) (zi 12):=by
 have G:=zl<|vda B w g i c7 f7;have c:xx (w.setCell (zq B 7)<|.pointer bN) q #[zi 0] 30:=h.but (xb.set w (zq B 7) _) f;have C:(w.setCell (zq B 7)<|.pointer bN).cell? (zq q 0)=bO (zi 0):=c.cell 0 rfl;have F:=c.bT 0;obtain⟨a,b,r,s,D,E,rfl,rfl,d,m,n,j,k⟩:=g;clear j k d m n h c c7 f7;refine callsD_of_wpS func79.1 rfl fun y x l=>?_;apply wpS_seq;apply wpS_region;simp[wpOpsS,go_sem,recoverD,l,Tryz.ntmps79,Exit.thenS];apply wpS_seq;apply wpS_region;simp[wpOpsS,go_sem,Exit.thenS];refine wpS_cond (t:=bL) (by simp[Act.eval,aW]) ?_;simp only[if_true];refine wpS_of_wp ?_
 go_wp2
 refine G.o.mono ?_;rintro e w' ⟨rfl,rfl⟩
 go_wp2
 simp[bodyPostS,aN,Tryz.results79]
def jt.shut{B:Nat}{r r':Sr}{w w':Zy}(h:jt B r w r' w'):jt B r w r'.shut<|w'.setCell (zq B 7)<|.pointer bN:=by
 refine h.trans ⟨(xb.set w' (zq B 7) _).mono fun x a=> .inl a,⟨?_,?_,fun s e=>by cases e⟩,fun x a=>?_⟩;exact h.at_.blk.set 7 _;exact h.at_.disk.but (xb.set w' (zq B 7) _) fun x a e=>h.at_.fB (by have e:x=B:=e;rw[<-e];exact a);rcases a with e|e|⟨s,e,_⟩
 exact .inl<|.inl e;exact .inl<|.inr<|.inl e;cases e
def OL{cv tv:Zv}{lo:Nat}(f:FuncId)(B:Nat)(r:Sr)(A:Option Int×Sr)(w:Zy)(h:Jq w B r)(G:iA cv tv w)(L:vac lo cv tv w)(n:∀x,r.own B x->lo<=x)(m:∀x,r.own B x->2<x)(I:∀args w,(callFunc f args).run prog w= .ok (.enter f args) w)
  (hw:∀w0,Jq w0 B r->iA cv tv w0->bE prog f #[zo B] w0 fun e w'=>∃a r',A=(a,r')/\e=FD cv a/\jt B r w0 r' w'):
  bE prog 39 #[zo B,.func (.func f) #[zo B] #[]] w fun e w'=>(∃v r',A=(bO v,r')/\e= .returned (zi v)/\jt B r w r' w')\/(∃r',A=(bN,r')/\e= .returned (zi 12)/\jt B r w r'.shut w'):=by
 have T:∀(fn:Fn) (first cap:Za) (w:Zy),(Instr.makeFunc fn first cap).run prog w= .ok (.func fn first cap) w:=fun _ _ _ _=>rfl;have l:Nw w<|(w.alloc<|.cells #[zo B] 23).alloc<|.cells #[zi 0] 30:=(xb.alloc _).trans<|xb.alloc _;have O:((w.alloc<|.cells #[zo B] 23).alloc<|.cells #[zi 0] 30).heap.size=w.heap.size+2:=by simp
 have D:xx ((w.alloc<|.cells #[zo B] 23).alloc<|.cells #[zi 0] 30) (w.heap.size+1) #[zi 0] 30:=by
  have:=xx.new (w.alloc<|.cells #[zo B] 23) #[zi 0] 30;rw[xh]at this;exact this
 have K:xx ((w.alloc<|.cells #[zo B] 23).alloc<|.cells #[zi 0] 30) w.heap.size #[zo B] 23:=(xx.new w _ _).alloc _;have C:=zl<|RI<|hw _ (h.but l fun _ _=>id)<|G.but l fun _ x=>x.elim;have g:∀{x:Nat},r.own B x->x<w.heap.size:=fun d=>Sr.bX h d;have i:∀{x r' w'},jt B r ((w.alloc<|.cells #[zo B] 23).alloc<|.cells #[zi 0] 30) r' w'->r'.own B x->x≠w.heap.size+1:=fun c d e=>by
  rcases c.own _ d with m|m;have:=g m;omega;rw[O]at m;omega
 have z:Hid<|∀v r' w',A=(bO v,r')->jt B r ((w.alloc<|.cells #[zo B] 23).alloc<|.cells #[zi 0] 30) r' w'->xx w' (w.heap.size+1) #[zi 0] 30/\jt B r w r' (w'.setCell (zq (w.heap.size+1) 0)<|zi v):=fun v r' w' k c=>
  ⟨D.but c.but fun d=>(by have:=g d;omega),jt.fresh (b:=w.heap.size+1) ((jt.nw h l).trans c) (by omega) (fun d=>i c d rfl)<|xb.set w' (zq (w.heap.size+1) 0) _⟩
 have y:Hid<|∀r' w',A=(bN,r')->jt B r ((w.alloc<|.cells #[zo B] 23).alloc<|.cells #[zi 0] 30) r' w'->CallsD prog 79 #[zo w.heap.size,zo<|w.heap.size+1] (.panicking [{v:=cv,recovered:=bK}]) w' fun e t j=>e= .returned (.tuple #[])/\t= .panicking [{v:=cv,recovered:=bL}]/\j.cell? (zq (w.heap.size+1) 0)=bO (zi 12)/\jt B r w r'.shut j:=fun r' w' k c=>by
  have M:xx w' (w.heap.size+1) #[zi 0] 30:=D.but c.but fun d=>by have:=g d;omega
  have S:B<w.heap.size:=g<|.inl rfl;have H:=(G.but l fun _ x=>x.elim).but c.but fun x d=>(by have:=m x d;omega);obtain⟨⟨_,_,_,E⟩,_,_⟩:=H;refine(vdn (B:=B) (p:=w.heap.size) (q:=w.heap.size+1) w' ((L.but l fun _ x=>x.elim).but c.but n) E (c.at_.blk.cell 7 rfl) (c.at_.blk.bT 7) ((K.but c.but fun d=>by have:=g d;omega).cell 0 rfl) M<|by omega).mono ?_;rintro e t j ⟨rfl,rfl,rfl⟩;refine⟨rfl,rfl,((M.but (xb.set w' (zq B 7) _) (show w.heap.size+1≠B by omega)).set 0 _).cell 0 rfl,?_⟩;exact jt.fresh (b:=w.heap.size+1) (((jt.nw h l).trans c).shut) (by omega) (fun d=>i c (Wy.fP d) rfl)<|xb.set _ (zq (w.heap.size+1) 0) _
 clear h G L n m hw l O D K g i
 go_enter_defers func39.1,Tryz.ntmps39
 go_wp2
 refine C.o.mono ?_;rintro e w1 (⟨v,r',k,rfl,c⟩|⟨r',k,rfl,c⟩)
 ·obtain⟨F,s⟩:=z.o v r' w1 k c
  have E:=F.cell 0 rfl;have U:=F.bT 0;have J:=zl s;have o:=zl k;clear k c F s C z y
  go_wp2
  refine leaves_cons (f:=79) (args:=#[zo w.heap.size,zo<|w.heap.size+1]) (by simp) (by simp[go_sem]) ?_;refine(Oh _ _ _).mono ?_;rintro e t j ⟨rfl,rfl,rfl⟩;simp[Leaves,settle,aN,Tryz.results39,go_sem,E]
  first
   |exact .inl ⟨v,r',o.o,rfl,J.o⟩
   |exact .inl ⟨r',o.o,J.o⟩
 have Q:=zl<|y.o r' w1 k c;have o:=zl k;clear k c C z y;refine leaves_cons (f:=79) (args:=#[zo w.heap.size,zo<|w.heap.size+1]) (by simp) (by simp[go_sem]) ?_;refine Q.o.mono ?_;rintro e t j ⟨rfl,rfl,R,s⟩;simp[Leaves,settle,aN,Tryz.results39,go_sem,R];exact .inr ⟨r',o.o,s⟩
end
section
attribute [local go_sem] xe zv
def D5(B:Nat)(r:Sr)(A:Option Int×Sr)(w:Zy)(e:Ending)(w':Zy):Prop:=(∃v r',A=(bO v,r')/\e= .returned (zi v)/\jt B r w r' w')\/(∃r',A=(bN,r')/\e= .returned (zi 12)/\jt B r w r'.shut w')
def D5.val{B:Nat}{r:Sr}{A:Option Int×Sr}{w w':Zy}{e:Ending}(h:D5 B r A w e w'):∃v,e= .returned (zi v):=by
 rcases h with⟨v,_,_,h,_⟩|⟨_,_,h,_⟩;exact⟨v,h⟩;exact⟨12,h⟩
section
variable {cv tv:Zv} {lo:Nat}
def vcn(B:Nat)(r:Sr)(s:Jo)(w:Zy)(h:Jq w B r)(g:r.sn=bO s)(a:fV B r)(j:iA cv tv w)(i:vac lo cv tv w)(d:∀x,r.own B x->lo<=x)(k:∀c∈s.P,mF c):
  bE prog 29 #[zo B] w (D5 B r (r.bW s) w):=by
 have c7:w.cell? (zq B 7)=bO (zo s.S):=(h.blk.cell 7 rfl).trans (by simp[Sr.cells,Sr.iJ,g]);have l:=zl<|OL 50 B r _ w h j i d a.own (fun b w=>func50.2 b w) fun q o n=>O_ B r s q o g a n k;have p:∀(fn:Fn) (first cap:Za) (w:Zy),(Instr.makeFunc fn first cap).run prog w= .ok (.func fn first cap) w:=fun _ _ _ _=>rfl;clear h a j k g i d;go_enter func29.1,Tryz.ntmps29
 go_wp2
 refine l.o.mono ?_;intro e w1 f;obtain⟨v,rfl⟩:=D5.val f;have m:Hid<|D5 B r (r.bW s) w (.returned<|zi v) w1:=f;clear f
 go_wp2
 go_ret
 exact m.o
def vcw(B:Nat)(r:Sr)(s:Jo)(w:Zy)(h:Jq w B r)(j:r.sn=bO s)(b:fV B r)(a:∀r1,r.bW s=(bO 0,r1)->fV B r1)(l:iA cv tv w)(k:vac lo cv tv w)(f:∀x,r.own B x->lo<=x)(m:∀c∈s.P,mF c)(i:s.ep<=1000000):
  bE prog 45 #[zo B] w (D5 B r (r.bV s) w):=by
 have c7:w.cell? (zq B 7)=bO (zo s.S):=(h.blk.cell 7 rfl).trans (by simp[Sr.cells,Sr.iJ,j]);have n:=zl<|OL 99 B r _ w h l k f b.own (fun d w=>func99.2 d w) fun y q p=>LS B r s y q j b a p m i;have t:∀(fn:Fn) (first cap:Za) (w:Zy),(Instr.makeFunc fn first cap).run prog w= .ok (.func fn first cap) w:=fun _ _ _ _=>rfl;clear h b a l m j k f;go_enter func45.1,Tryz.ntmps45
 go_wp2
 refine n.o.mono ?_;intro e w1 g;obtain⟨v,rfl⟩:=D5.val g;have o:Hid<|D5 B r (r.bV s) w (.returned<|zi v) w1:=g;clear g
 go_wp2
 go_ret
 exact o.o
def vbz(B:Nat)(r:Sr)(s:Jo)(w:Zy)(h:Jq w B r)(k:r.sn=bO s)(b:fV B r)(a:∀r1,r.bW s=(bO 0,r1)->fV B r1/\r1.d.L.length+2<1000000/\jM (r.ses1 s).L/\(r.ses1 s).L.length<=1000000/\0<=(r.ses1 s).bP/\(r.ses1 s).bP<=999/\(qu r1.d.L<|Ye (r.ses1 s).named).length<=900000)(m:iA cv tv w)(l:vac lo cv tv w)(g:∀x,r.own B x->lo<=x)(n:∀c∈s.P,mF c)(j:s.ep<=1000000):
  bE prog 20 #[zo B] w (D5 B r (r.dG s) w):=by
 have c7:w.cell? (zq B 7)=bO (zo s.S):=(h.blk.cell 7 rfl).trans (by simp[Sr.cells,Sr.iJ,k]);have o:=zl<|OL 42 B r _ w h m l g b.own (fun f w=>func42.2 f w) fun z t q=>Kp B r s z t k b a q n j;have y:∀(fn:Fn) (first cap:Za) (w:Zy),(Instr.makeFunc fn first cap).run prog w= .ok (.func fn first cap) w:=fun _ _ _ _=>rfl;clear h b a m n k l g;go_enter func20.1,Tryz.ntmps20
 go_wp2
 refine o.o.mono ?_;intro e w1 i;obtain⟨v,rfl⟩:=D5.val i;have p:Hid<|D5 B r (r.dG s) w (.returned<|zi v) w1:=i;clear i
 go_wp2
 go_ret
 exact p.o
end
def vcq(B:Nat)(r:Sr)(s:Jo)(kd:Int)(w:Zy)(g:bE prog 29 #[zo B] w<|D5 B r (r.bW s) w)(h:bE prog 45 #[zo B] w<|D5 B r (r.bV s) w)(i:bE prog 20 #[zo B] w<|D5 B r (r.dG s) w):
  bE prog 26 #[zo B,zi kd] w (D5 B r (r.wrt s kd) w):=by
 have j:=zl g;have k:=zl h;have l:=zl i;clear g h i;by_cases d:kd=5
 ·subst d
  have b:Hid<|r.wrt s 5=r.bW s:=rfl;go_enter vgc,Tryz.ntmps26
  go_wp2
  refine j.o.mono ?_;intro e w1 a;obtain⟨v,rfl⟩:=D5.val a;have c:Hid<|D5 B r (r.wrt s 5) w (.returned<|zi v) w1:=by rw[b.o];exact a
  clear a
  go_wp2
  go_ret
  exact c.o
 by_cases f:kd=6
 ·subst f
  have b:Hid<|r.wrt s 6=r.bV s:=rfl;go_enter vgc,Tryz.ntmps26
  go_wp2
  refine k.o.mono ?_;intro e w1 a;obtain⟨v,rfl⟩:=D5.val a;have c:Hid<|D5 B r (r.wrt s 6) w (.returned<|zi v) w1:=by rw[b.o];exact a
  clear a
  go_wp2
  go_ret
  exact c.o
 have b:Hid<|r.wrt s kd=r.dG s:=by show _=_;unfold Sr.wrt;rw[aB d,aB f]
 go_enter vgc,Tryz.ntmps26
 go_wp2
 refine l.o.mono ?_;intro e w1 a;obtain⟨v,rfl⟩:=D5.val a;have c:Hid<|D5 B r (r.wrt s kd) w (.returned<|zi v) w1:=by rw[b.o];exact a
 clear a
 go_wp2
 go_ret
 exact c.o
def Sr.arm(r:Sr)(b:Nat)(a t:Int):Sr:={r with d:={r.d with nx:=bO (b,a,t)}}
def vbx(D:Nat)(d:Dk)(a t:Int)(w:Zy)(h:Xg w D d):bE prog 49 #[zo D,zi a,zi t] w fun e w'=>e= .returned (.tuple #[])/\∃b,w.heap.size<=b/\xb (·=D) w w'/\Xg w' D {d with nx:=bO (b,a,t)}:=by
 have l:=zl h;have m:=h.blk.cell 2 rfl;have n:=h.blk.bT 2;have o:=h.blk.lt;have p:¬D=w.heap.size:=by omega
 have i:Hid (xb (·=D) w ((w.setCell (zq D 2)<|zo w.heap.size).alloc<|.cells #[zi a,zi t] 175)/\Xg ((w.setCell (zq D 2)<|zo w.heap.size).alloc<|.cells #[zi a,zi t] 175) D {d with nx:=bO (w.heap.size,a,t)}):=by
  have g:xb (·=D) w<|w.setCell (zq D 2)<|zo w.heap.size:=xb.set _ (zq D 2) _;have f:=xx.new (w.setCell (zq D 2)<|zo w.heap.size) #[zi a,zi t] 175;have k:(w.setCell (zq D 2)<|zo w.heap.size).heap.size=w.heap.size:=by simp
  rw[k]at f;refine⟨g.trans<|xb.alloc _,(h.blk.set 2 _).but (S:=fun _=>False) (xb.alloc _) id,(h.map.but g h.vW).but (S:=fun _=>False) (xb.alloc _) id,fun c j=>?_⟩;cases j;exact f
 clear h;go_enter func49.1,Tryz.ntmps49
 go_wp2
 go_end0
 exact⟨rfl,w.heap.size,ze _,i.o⟩
def ved(B:Nat)(r:Sr)(a t:Nat)(w:Zy)(h:Jq w B r):bE prog 27 #[zo B,zi a,zi t] w fun e w'=>e= .returned (zi 0)/\∃b,jt B r w (r.arm b a t) w':=by
 have v:w.cell? (zq B 2)=bO (zo r.D):=h.blk.cell 2 rfl;have q:=zl fun n=>vbx r.D r.d (a:Int) (t:Int) (w.drewN n) ⟨h.disk.blk,h.disk.map,h.disk.eU⟩;have j:=zl<|vbx r.D r.d (a:Int) (t:Int) w h.disk;have y:¬(a:Int)<0:=by omega
 have z:¬(t:Int)<0:=by omega
 have o:Hid (∀w' b,w.heap.size<=b->xb (·=r.D) w w'->Xg w' r.D {r.d with nx:=bO (b,(a:Int),(t:Int))}->jt B r w (r.arm b a t) w'):=fun w' b i f hd=>by
  refine⟨f.mono fun x g=> .inr (.inl<|.inl g),⟨?_,hd,fun s k=>?_⟩,fun x g=>?_⟩;exact h.blk.but f fun e=>h.fB<|.inl e;exact⟨(h.bU s k).1.but f fun x g l=>h.apart k g<|.inl l,(h.bU s k).2⟩;rcases g with e|(e|e|⟨c,p,e⟩)|e
  exact .inl<|.inl e;exact .inl<|.inr<|.inl<|.inl e;exact .inl<|.inr<|.inl<|.inr<|.inl e;cases p;exact .inr (by rw[e];exact i);exact .inl<|.inr<|.inr e
 clear h;go_enter vhd,Tryz.ntmps27
 go_wp2
 refine j.o.mono ?_;rintro e w' ⟨rfl,b,i,f,hd⟩;have m:=zl<|o.o w' b i f hd;clear i f hd
 go_wp2
 go_ret
 exact⟨rfl,b,m.o⟩
end
section
open A
attribute [local go_sem] xe zv
noncomputable def c7:=Qf Tryz.f7.body
noncomputable def xUa:=Qa c7
noncomputable def xUb:=Qa<|Qb c7
noncomputable def xUc:=Qa<|Qb<|Qb c7
noncomputable def xUd:=Qa<|Qn 3 c7
noncomputable def xUe:=Qa<|Qa<|Qn 4 c7
noncomputable def lpU:=Ql<|Qk<|Qb<|Qa<|Qn 4 c7
noncomputable def enU:=Qn 5 c7
noncomputable def xUt:=Qa lpU
noncomputable def mdU:=Qk<|Qa<|Qb lpU
noncomputable def xUn:=Qb<|Qb lpU
noncomputable def xUh:=Qa mdU
noncomputable def xUi:=Qa<|Qb mdU
noncomputable def swU:=Qa<|Qb<|Qb mdU
noncomputable def rtU:=Qa<|Qn 3 mdU
noncomputable def imU:=Qa<|Qn 4 mdU
noncomputable def kaU:=Qa<|Qn 5 mdU
noncomputable def klU:=Ql<|Qk<|Qn 6 mdU
noncomputable def ktU:=Qa klU
noncomputable def kbU:=Qk<|Qa<|Qb klU
noncomputable def knU:=Qb<|Qb klU
noncomputable def kcU:=Qa kbU
noncomputable def krU:=Qa<|Qb kbU
noncomputable def jaU:=Qa<|Qb<|Qb kbU
noncomputable def jlU:=Ql<|Qk<|Qn 3 kbU
noncomputable def jtU:=Qa jlU
noncomputable def jbU:=Qk<|Qa<|Qb jlU
noncomputable def jnU:=Qb<|Qb jlU
noncomputable def naU:=Qa<|Qa jbU
noncomputable def nlU:=Ql<|Qk<|Qb<|Qa jbU
noncomputable def apU:=Qb jbU
noncomputable def ntU:=Qa nlU
noncomputable def nbU:=Qk<|Qa<|Qb nlU
noncomputable def nnU:=Qb<|Qb nlU
noncomputable def ncU:=Qa nbU
def vgk:Tryz.f7.body=bO c7:=by kernel_rfl
def vgg:c7= .seq xUa (.seq xUb<|.seq xUc<|.seq xUd<|.seq (.seq xUe<|.block 0<|.loop lpU) enU):=by kernel_rfl
def vew:lpU= .seq xUt (.seq (.block 1 mdU) xUn):=by kernel_rfl
def vga:mdU= .seq xUh (.seq xUi<|.seq swU<|.seq rtU<|.seq imU<|.seq kaU<|.block 3<|.loop klU):=by kernel_rfl
def veh:klU= .seq ktU (.seq (.block 4 kbU) knU):=by kernel_rfl
def vft:kbU= .seq kcU (.seq krU<|.seq jaU<|.block 5<|.loop jlU):=by kernel_rfl
def vek:jlU= .seq jtU (.seq (.block 6 jbU) jnU):=by kernel_rfl
def vfq:jbU= .seq (.seq naU<|.block 7<|.loop nlU) apU:=by kernel_rfl
def veu:nlU= .seq ntU (.seq (.block 8 nbU) nnU):=by kernel_rfl
structure Ac where
 kd:Int
 N:Int
 M:Int
 S:Zl
 T:Zl
def Ac.At(w:Zy)(g o:Nat)(c:Ac):Prop:=w.cell? (zq g o)=bO (zi c.kd)/\w.cell? (zq g<|o+1)=bO (zi c.N)/\w.cell? (zq g<|o+2)=bO (zi c.M)/\w.cell? (zq g<|o+3)=bO (zs c.S)/\w.cell? (zq g<|o+4)=bO (zs c.T)/\i64 c.N/\i64 c.M
def AL(lo:Nat)(w:Zy)(v:Zv)(D:List Ac):Prop:=∃a cap,v= .slice a D.length cap/\D.length<=maxLen/\∀i (h:i<D.length),∃g off,a=bO ⟨g,off,bN⟩/\g<lo/\Ac.At w g (off+i*5) D[i]
def AL.but{lo:Nat}{w w':Zy}{v:Zv}{D:List Ac}(h:AL lo w v D)(b:xb (fun x=>lo<=x) w w'):AL lo w' v D:=by
 obtain⟨a,d,q,r,s⟩:=h;refine⟨a,d,q,r,fun i t=>?_⟩;obtain⟨g,e,o,p,f,j,k,l,n,m⟩:=s i t;have c:¬lo<=g:=by omega
 exact⟨g,e,o,p,b.cell c f,b.cell c j,b.cell c k,b.cell c l,b.cell c n,m⟩
def AL.bnd{lo:Nat}{w:Zy}{v:Zv}{D:List Ac}(h:AL lo w v D)(i:Nat)(e:i<D.length):i64 D[i].N/\i64 D[i].M:=by
 obtain⟨a,c,q,r,d⟩:=h;obtain⟨g,f,o,p,j,k,l,m,n,b⟩:=d i e;exact b
def j0(g:Nat->Zv):Za:=#[g 0,g 1,g 2,g 3,g 4,g 5,g 6,g 7,g 8,g 9,g 10,g 11,g 12,g 13,g 14,g 15,g 16,g 17,g 18,g 19,g 20,g 21,g 22,g 23,g 24,g 25,g 26,g 27,g 28,g 29,g 30,g 31,g 32,g 33,g 34,g 35,g 36,g 37,g 38,g 39,g 40,g 41,g 42,g 43,g 44,g 45,g 46,g 47,g 48,g 49,g 50,g 51,g 52,g 53,g 54,g 55,g 56,g 57,g 58,g 59,g 60,g 61,g 62,g 63,g 64,g 65,g 66,g 67,g 68,g 69,g 70,g 71,g 72,g 73,g 74,g 75,g 76,g 77,g 78,g 79,g 80,g 81,g 82,g 83,g 84,g 85,g 86,g 87,g 88,g 89,g 90,g 91,g 92,g 93,g 94,g 95,g 96,g 97,g 98,g 99,g 100,g 101,g 102,g 103,g 104,g 105,g 106,g 107,g 108,g 109,g 110,g 111,g 112,g 113,g 114,g 115,g 116,g 117,g 118,g 119,g 120,g 121,g 122,g 123,g 124,g 125,g 126,g 127,g 128,g 129,g 130,g 131,g 132,g 133,g 134,g 135,g 136,g 137,g 138,g 139,g 140,g 141,g 142,g 143,g 144,g 145,g 146,g 147,g 148,g 149,g 150,g 151,g 152,g 153,g 154,g 155,g 156,g 157,g 158,g 159,g 160,g 161,g 162,g 163,g 164,g 165,g 166,g 167,g 168,g 169,g 170,g 171,g 172,g 173,g 174,g 175,g 176,g 177,g 178,g 179,g 180,g 181,g 182,g 183]
def j5{x:Za}(h:x.size=184):∃g,(⟨x,[]⟩:Act)=⟨j0 g,[]⟩:=by
 refine⟨fun i=>x[i]?.getD bJ,?_⟩
 congr 1
 rw[show j0 (fun i=>x[i]?.getD bJ)=((List.range 184).map fun i=>x[i]?.getD bJ).toArray from rfl];refine Array.ext (by simp[h]) fun i a b=>?_;simp[a]
structure OE(v:Zv)(B i:Nat)(l:Zv)(k:Nat)(al rs:Zv)(j m:Nat)(a:Act):Prop where
 lt:∃g,a=⟨j0 g,[]⟩
 a2:At a 2 v
 a7:At a 7<|zo B
 a9:At a 9<|zi i
 a12:At a 12 l
 a13:At a 13<|zi k
 a8:At a 8 al
 a14:At a 14 rs
 a15:At a 15<|zi j
 a16:At a 16<|zi m
def OE.lit{v:Zv}{B i:Nat}{l:Zv}{k:Nat}{b c:Zv}{j m:Nat}{a:Act}(h:OE v B i l k b c j m a):∃g,a=⟨j0 g,[]⟩/\g 2=v/\g 7=zo B/\g 9=zi i/\g 12=l/\g 13=zi k/\g 8=b/\g 14=c/\g 15=zi j/\g 16=zi m:=by
 obtain⟨g,rfl⟩:=h.lt;exact⟨g,rfl,jf h.a2,jf h.a7,jf h.a9,jf h.a12,jf h.a13,jf h.a8,jf h.a14,jf h.a15,jf h.a16⟩
end
section
open A
attribute [local go_sem] xe zv
noncomputable def ops38:Array Oper:=match ncU with
 | .region _ x _=>x
 |_=>#[]
def vfz:ncU= .region 38 ops38 bL:=by kernel_rfl
def vcd:ops38=#[⟨bO 124,.move<|.tmp 8,51,"stores.go:551",#[],bN⟩,⟨bO 125,.move<|.tmp 16,3,"stores.go:551",#[],bN⟩,⟨bO 126,.indexAddr 51 (.tmp 124)<|.tmp 125,0,"stores.go:551",#[⟨0,.data⟩,⟨1,.data⟩],bN⟩,⟨bO 127,.load 9<|.tmp 126,9,"stores.go:551",#[⟨2,.data⟩],bN⟩,⟨bO 128,.slice 9 (.tmp 127) bN (bO<|.const<|zi 8) bN,9,"stores.go:551",#[⟨3,.data⟩],bN⟩,⟨bO 129,.move<|.tmp 14,51,"stores.go:551",#[],bN⟩,⟨bO 130,.move<|.tmp 15,3,"stores.go:551",#[],bN⟩,⟨bO 131,.indexAddr 51 (.tmp 129)<|.tmp 130,0,"stores.go:551",#[⟨5,.data⟩,⟨6,.data⟩],bN⟩,⟨bO 132,.load 9<|.tmp 131,9,"stores.go:551",#[⟨7,.data⟩],bN⟩,⟨bO 133,.slice 9 (.tmp 132) bN (bO<|.const<|zi 8) bN,9,"stores.go:551",#[⟨8,.data⟩],bN⟩,⟨bO 134,.binOp .eql 9 (.tmp 128) (.tmp 133) 9,4,"stores.go:551",#[⟨4,.data⟩,⟨9,.data⟩],bN⟩,⟨bO 135,.move<|.tmp 134,4,"stores.go:551",#[⟨10,.data⟩],bN⟩,⟨bO 136,.move<|.tmp 8,51,"stores.go:551",#[⟨11,.guard⟩],bO (11,bL)⟩,⟨bO 137,.move<|.tmp 16,3,"stores.go:551",#[⟨11,.guard⟩],bO (11,bL)⟩,⟨bO 138,.indexAddr 51 (.tmp 136)<|.tmp 137,0,"stores.go:551",#[⟨12,.data⟩,⟨13,.data⟩,⟨11,.guard⟩],bO (11,bL)⟩,⟨bO 139,.load 9<|.tmp 138,9,"stores.go:551",#[⟨14,.data⟩,⟨11,.guard⟩],bO (11,bL)⟩,⟨bO 140,.move<|.tmp 14,51,"stores.go:551",#[⟨11,.guard⟩],bO (11,bL)⟩,⟨bO 141,.move<|.tmp 15,3,"stores.go:551",#[⟨11,.guard⟩],bO (11,bL)⟩,⟨bO 142,.indexAddr 51 (.tmp 140)<|.tmp 141,0,"stores.go:551",#[⟨16,.data⟩,⟨17,.data⟩,⟨11,.guard⟩],bO (11,bL)⟩,⟨bO 143,.load 9<|.tmp 142,9,"stores.go:551",#[⟨18,.data⟩,⟨11,.guard⟩],bO (11,bL)⟩,⟨bO 144,.binOp .neq 9 (.tmp 139) (.tmp 143) 9,4,"stores.go:551",#[⟨15,.data⟩,⟨19,.data⟩,⟨11,.guard⟩],bO (11,bL)⟩,⟨bO 145,.pick (.tmp 135) (.tmp 144)<|.const<|.bool bK,4,"stores.go:551",#[⟨11,.data⟩,⟨20,.data⟩],bN⟩]:=by kernel_rfl
def ord38:TG ops38=bL:=by kernel_rfl
def size38:ops38.size=22:=by kernel_rfl
variable [pn:A.Pn]
theorem hV:¬Mc bM 7:=xO (by decide) (by decide) Tryz.func7
def o0(al rs:Zv)(g h m j:Nat)(x y:Zl)(E:Bool):List<|Nat×Nat×Zv:=[(0,124,al),(1,125,.int .i64 (m:Int)),(2,126,.pointer<|bO ⟨g,m,bN⟩),(3,127,.string<|st x),(4,128,.string<|(st x).extract 0 8),(5,129,rs),(6,130,.int .i64 (j:Int)),(7,131,.pointer<|bO ⟨h,j,bN⟩),(8,132,.string<|st y),(9,133,.string<|(st y).extract 0 8),(10,134,.bool E),(11,135,.bool E),(12,136,if E then al else bJ),(13,137,if E then .int .i64 (m:Int)else bJ),(14,138,if E then .pointer (bO ⟨g,m,bN⟩)else bJ),(15,139,if E then .string (st x)else bJ),(16,140,if E then rs else bJ),(17,141,if E then .int .i64 (j:Int)else bJ),(18,142,if E then .pointer (bO ⟨h,j,bN⟩)else bJ),(19,143,if E then .string (st y)else bJ),(20,144,if E then .bool bK else bJ),(21,145,.bool bK)]
section
variable {v l al rs:Zv} {B i k j m n p cap cap' g h:Nat} {a:Act} {w w1:Zy} {x y:Zl} {Q:Exit->Act->Zy->Prop} {E:Bool} {l':Array Bool}
def OE.put(f:OE v B i l k al rs j m a){t:Nat}(s:16<t)(u:Zv):OE v B i l k al rs j m<|a.put (bO t) u:=by
 obtain⟨⟨g,n⟩,o,p,r,b,c,q,d,e,h⟩:=f;refine⟨?_,o.put (by omega) _,p.put (by omega) _,r.put (by omega) _,b.put (by omega) _,c.put (by omega) _,q.put (by omega) _,d.put (by omega) _,e.put (by omega) _,h.put (by omega) _⟩;subst n;exact j5<|by simp[j0]
def OE.sz(f:OE v B i l k al rs j m a):a.tmps.size=184/\a.defers=[]:=by
 obtain⟨g,b⟩:=f.lt;subst b;exact⟨by simp[j0],rfl⟩
structure J38(v:Zv)(B i:Nat)(l:Zv)(k:Nat)(al rs:Zv)(g h m j:Nat)(x y:Zl)(E:Bool)(w:Zy)(l':Array Bool)(a:Act)(w1:Zy):Prop where
 fr:OE v B i l k al rs j m a
 nw:Nw w w1
 T:Tb (o0 al rs g h m j x y E) l' a
def J38.mv(J:J38 v B i l k al rs g h m j x y E w l' a w1){q t:Nat}{u:Zv}(b:q<22)(d:t=q+124)(c:∀z∈o0 al rs g h m j x y E,(z.2.1≠t/\z.1≠q)\/z=(q,t,u)):J38 v B i l k al rs g h m j x y E w (l'.setIfInBounds q bL) (a.put (bO t) u) w1:=
 ⟨J.fr.put (by omega) _,J.nw,J.T.put J.fr.sz.1 (by omega) c⟩
def J38.got(J:J38 v B i l k al rs g h m j x y E w l' a w1){q t:Nat}{u:Zv}(z:(o0 al rs g h m j x y E)[q]?=bO (q,t,u))(b:l'[q]?=bO bL):a.tmps[t]?=bO u:=J.T (q,t,u) (List.mem_of_getElem? z) b
def J38.val(J:J38 v B i l k al rs g h m j x y E w l' a w1){q t:Nat}{u:Zv}{op:Oper}(ho:ops38[q]?=bO op)(hw:Region.wanted op (yielded ops38 a.tmps)=bL)(e:op.dst=bO t)(c:q<22/\t=q+124/\∀z∈o0 al rs g h m j x y E,(z.2.1≠t/\z.1≠q)\/z=(q,t,u))(b:∀t d,(bG a.eval op).run prog (re w1 t d)= .ok (.value u) (re w1 t d)):
  oX bM 7 ops38 Q q (J38 v B i l k al rs g h m j x y E w<|l'.setIfInBounds q bL) a w1:=
 oX.value bQ hV ho hw (fun t d=>⟨t,d,b t d⟩) (by rw[e];exact J.mv c.1 c.2.1 c.2.2)
def vgf(ha:OE v B i l k (.slice (bO ⟨g,0,bN⟩) n cap) (.slice (bO ⟨h,0,bN⟩) p cap') j m a)(hm:m<n)(hj:j<p)(c1:w.cell? (zq g m)=bO (zs x))(c2:w.cell? (zq h j)=bO (zs y))(l1:8<=x.length)(l2:8<=y.length)(R:E=decide (x.take 8=y.take 8))(hu:x.take 8=y.take 8->x=y)
  (hN:∀a' w',OE v B i l k (.slice (bO ⟨g,0,bN⟩) n cap) (.slice (bO ⟨h,0,bN⟩) p cap') j m a'->At a' 145 (.bool bK)->Nw w w'->Q .normal a' w'):Xn bM 7 ncU Q a w:=by
 rw[vfz];have Y:(m:Int)<(n:Nat):=by omega
 have Z:(j:Int)<(p:Nat):=by omega
 have i3:(8:Int)<=(x.length:Nat):=by omega
 have i4:(8:Int)<=(y.length:Nat):=by omega
 refine Xn.inv bQ hV (by kernel_rfl) ord38 (J38 v B i l k (.slice (bO ⟨g,0,bN⟩) n cap) (.slice (bO ⟨h,0,bN⟩) p cap') g h m j x y E w) ⟨ha,xb.refl _ _,Tb.none⟩ (fun l' a w1 J X=>?_) ?_;exact hN a w1 J.fr (J.T (21,145,.bool bK) (by simp[o0])<|X 21<|by rw[size38];decide) J.nw;intro l' a w1 q o J hs d X hd;have c:=d;rw[vcd]at d;have a8:a.tmps[8]?=bO _:=J.fr.a8;have a16:a.tmps[16]?=bO _:=J.fr.a16;have a14:a.tmps[14]?=bO _:=J.fr.a14;have a15:a.tmps[15]?=bO _:=J.fr.a15;have V:w1.cell? (zq g m)=bO (zs x):=J.nw.cell (fun x=>x) c1;have W:w1.cell? (zq h j)=bO (zs y):=J.nw.cell (fun x=>x) c2;have f:l'[11]?=bO bL->yielded ops38 a.tmps 11=bO E:=fun O=>by
  have e:a.tmps[135]?=bO _:=J.T (11,135,.bool E) (by simp[o0]) O;unfold yielded;rw[vcd];simp[e]
 have S:(((st x).extract 0 8).toList==((st y).extract 0 8).toList)=E:=by
  rw[R,yN,yN,xo,xo];exact Bool.eq_iff_iff.2<|by simp
 match q,d with
 |0,d=>
  obtain rfl:=jf d;refine J.val (u:= .slice (bO ⟨g,0,bN⟩) n cap) c rfl rfl (by simp[o0]) fun t r=>?_;simp[bG,go_sem,a8]
 |1,d=>
  obtain rfl:=jf d;refine J.val (u:=zi m) c rfl rfl (by simp[o0]) fun t r=>?_;simp[bG,go_sem,a16]
 |2,d=>
  obtain rfl:=jf d;have e0:=J.got (q:=0) rfl<|hd ⟨0,.data⟩ (by simp) rfl;have e1:=J.got (q:=1) rfl<|hd ⟨1,.data⟩ (by simp) rfl;refine J.val (u:=zk g m) c rfl rfl (by simp[o0]) fun t r=>?_;simp[bG,go_sem,e0,e1,Y,underlying51,Addr.add];exact fun h=>h.symm
 |3,d=>
  obtain rfl:=jf d;have e2:=J.got (q:=2) rfl<|hd ⟨2,.data⟩ (by simp) rfl;refine J.val (u:=zs x) c rfl rfl (by simp[o0]) fun t r=>?_;have z:(re w1 t r).cell? (zq g m)=bO _:=V;simp[bG,go_sem,e2,z]
 |4,d=>
  obtain rfl:=jf d;have e3:=J.got (q:=3) rfl<|hd ⟨3,.data⟩ (by simp) rfl;refine J.val (u:= .string ((st x).extract 0 8)) c rfl rfl (by simp[o0]) fun t r=>?_;simp[bG,go_sem,e3,i3]
 |5,d=>
  obtain rfl:=jf d;refine J.val (u:= .slice (bO ⟨h,0,bN⟩) p cap') c rfl rfl (by simp[o0]) fun t r=>?_;simp[bG,go_sem,a14]
 |6,d=>
  obtain rfl:=jf d;refine J.val (u:=zi j) c rfl rfl (by simp[o0]) fun t r=>?_;simp[bG,go_sem,a15]
 |7,d=>
  obtain rfl:=jf d;have e5:=J.got (q:=5) rfl<|hd ⟨5,.data⟩ (by simp) rfl;have e6:=J.got (q:=6) rfl<|hd ⟨6,.data⟩ (by simp) rfl;refine J.val (u:=zk h j) c rfl rfl (by simp[o0]) fun t r=>?_;simp[bG,go_sem,e5,e6,Z,underlying51,Addr.add];exact fun h=>h.symm
 |8,d=>
  obtain rfl:=jf d;have e7:=J.got (q:=7) rfl<|hd ⟨7,.data⟩ (by simp) rfl;refine J.val (u:=zs y) c rfl rfl (by simp[o0]) fun t r=>?_;have z:(re w1 t r).cell? (zq h j)=bO _:=W;simp[bG,go_sem,e7,z]
 |9,d=>
  obtain rfl:=jf d;have e8:=J.got (q:=8) rfl<|hd ⟨8,.data⟩ (by simp) rfl;refine J.val (u:= .string ((st y).extract 0 8)) c rfl rfl (by simp[o0]) fun t r=>?_;simp[bG,go_sem,e8,i4]
 |10,d=>
  obtain rfl:=jf d;have e4:=J.got (q:=4) rfl<|hd ⟨4,.data⟩ (by simp) rfl;have e9:=J.got (q:=9) rfl<|hd ⟨9,.data⟩ (by simp) rfl;refine J.val (u:= .bool E) c rfl rfl (by simp[o0]) fun t r=>?_;simp[bG,go_sem,e4,e9];exact S
 |11,d=>
  obtain rfl:=jf d;have N:=J.got (q:=10) rfl<|hd ⟨10,.data⟩ (by simp) rfl;refine J.val (u:= .bool E) c rfl rfl (by simp[o0]) fun t r=>?_;simp[bG,go_sem,N]
 |12,d=>
  obtain rfl:=jf d;have f:=f<|hd ⟨11,.guard⟩ (by simp) rfl;rcases Bool.eq_false_or_eq_true E with b|b;rotate_left;refine oX.not bQ hV c (by show(yielded ops38 a.tmps 11==bO bL)=bK;rw[f,b];rfl) ?_;exact J.mv (by decide) rfl (by simp[o0,b]);skip;refine J.val (u:= .slice (bO ⟨g,0,bN⟩) n cap) c (by show(yielded ops38 a.tmps 11==bO bL)=bL;rw[f,b];rfl) rfl (by simp[o0,b]) fun t r=>?_;simp[bG,go_sem,a8]
 |13,d=>
  obtain rfl:=jf d;have f:=f<|hd ⟨11,.guard⟩ (by simp) rfl;rcases Bool.eq_false_or_eq_true E with b|b;rotate_left;refine oX.not bQ hV c (by show(yielded ops38 a.tmps 11==bO bL)=bK;rw[f,b];rfl) ?_;exact J.mv (by decide) rfl (by simp[o0,b]);skip;refine J.val (u:=zi m) c (by show(yielded ops38 a.tmps 11==bO bL)=bL;rw[f,b];rfl) rfl (by simp[o0,b]) fun t r=>?_;simp[bG,go_sem,a16]
 |14,d=>
  obtain rfl:=jf d;have f:=f<|hd ⟨11,.guard⟩ (by simp) rfl;rcases Bool.eq_false_or_eq_true E with b|b;rotate_left;refine oX.not bQ hV c (by show(yielded ops38 a.tmps 11==bO bL)=bK;rw[f,b];rfl) ?_;exact J.mv (by decide) rfl (by simp[o0,b]);skip;have C:=J.got (q:=12) rfl<|hd ⟨12,.data⟩ (by simp) rfl;rw[b,aA rfl]at C;have D:=J.got (q:=13) rfl<|hd ⟨13,.data⟩ (by simp) rfl;rw[b,aA rfl]at D;refine J.val (u:=zk g m) c (by show(yielded ops38 a.tmps 11==bO bL)=bL;rw[f,b];rfl) rfl (by simp[o0,b]) fun t r=>?_;simp[bG,go_sem,C,D,Y,underlying51,Addr.add];exact fun h=>h.symm
 |15,d=>
  obtain rfl:=jf d;have f:=f<|hd ⟨11,.guard⟩ (by simp) rfl;rcases Bool.eq_false_or_eq_true E with b|b;rotate_left;refine oX.not bQ hV c (by show(yielded ops38 a.tmps 11==bO bL)=bK;rw[f,b];rfl) ?_;exact J.mv (by decide) rfl (by simp[o0,b]);skip;have F:=J.got (q:=14) rfl<|hd ⟨14,.data⟩ (by simp) rfl;rw[b,aA rfl]at F;refine J.val (u:=zs x) c (by show(yielded ops38 a.tmps 11==bO bL)=bL;rw[f,b];rfl) rfl (by simp[o0,b]) fun t r=>?_;have z:(re w1 t r).cell? (zq g m)=bO _:=V;simp[bG,go_sem,F,z]
 |16,d=>
  obtain rfl:=jf d;have f:=f<|hd ⟨11,.guard⟩ (by simp) rfl;rcases Bool.eq_false_or_eq_true E with b|b;rotate_left;refine oX.not bQ hV c (by show(yielded ops38 a.tmps 11==bO bL)=bK;rw[f,b];rfl) ?_;exact J.mv (by decide) rfl (by simp[o0,b]);skip;refine J.val (u:= .slice (bO ⟨h,0,bN⟩) p cap') c (by show(yielded ops38 a.tmps 11==bO bL)=bL;rw[f,b];rfl) rfl (by simp[o0,b]) fun t r=>?_;simp[bG,go_sem,a14]
 |17,d=>
  obtain rfl:=jf d;have f:=f<|hd ⟨11,.guard⟩ (by simp) rfl;rcases Bool.eq_false_or_eq_true E with b|b;rotate_left;refine oX.not bQ hV c (by show(yielded ops38 a.tmps 11==bO bL)=bK;rw[f,b];rfl) ?_;exact J.mv (by decide) rfl (by simp[o0,b]);skip;refine J.val (u:=zi j) c (by show(yielded ops38 a.tmps 11==bO bL)=bL;rw[f,b];rfl) rfl (by simp[o0,b]) fun t r=>?_;simp[bG,go_sem,a15]
 |18,d=>
  obtain rfl:=jf d;have f:=f<|hd ⟨11,.guard⟩ (by simp) rfl;rcases Bool.eq_false_or_eq_true E with b|b;rotate_left;refine oX.not bQ hV c (by show(yielded ops38 a.tmps 11==bO bL)=bK;rw[f,b];rfl) ?_;exact J.mv (by decide) rfl (by simp[o0,b]);skip;have H:=J.got (q:=16) rfl<|hd ⟨16,.data⟩ (by simp) rfl;rw[b,aA rfl]at H;have I:=J.got (q:=17) rfl<|hd ⟨17,.data⟩ (by simp) rfl;rw[b,aA rfl]at I;refine J.val (u:=zk h j) c (by show(yielded ops38 a.tmps 11==bO bL)=bL;rw[f,b];rfl) rfl (by simp[o0,b]) fun t r=>?_;simp[bG,go_sem,H,I,Z,underlying51,Addr.add];exact fun h=>h.symm
 |19,d=>
  obtain rfl:=jf d;have f:=f<|hd ⟨11,.guard⟩ (by simp) rfl;rcases Bool.eq_false_or_eq_true E with b|b;rotate_left;refine oX.not bQ hV c (by show(yielded ops38 a.tmps 11==bO bL)=bK;rw[f,b];rfl) ?_;exact J.mv (by decide) rfl (by simp[o0,b]);skip;have K:=J.got (q:=18) rfl<|hd ⟨18,.data⟩ (by simp) rfl;rw[b,aA rfl]at K;refine J.val (u:=zs y) c (by show(yielded ops38 a.tmps 11==bO bL)=bL;rw[f,b];rfl) rfl (by simp[o0,b]) fun t r=>?_;have z:(re w1 t r).cell? (zq h j)=bO _:=W;simp[bG,go_sem,K,z]
 |20,d=>
  obtain rfl:=jf d;have f:=f<|hd ⟨11,.guard⟩ (by simp) rfl;rcases Bool.eq_false_or_eq_true E with b|b;rotate_left;refine oX.not bQ hV c (by show(yielded ops38 a.tmps 11==bO bL)=bK;rw[f,b];rfl) ?_;exact J.mv (by decide) rfl (by simp[o0,b]);skip;have G:=J.got (q:=15) rfl<|hd ⟨15,.data⟩ (by simp) rfl;rw[b,aA rfl]at G;have L:=J.got (q:=19) rfl<|hd ⟨19,.data⟩ (by simp) rfl;rw[b,aA rfl]at L;refine J.val (u:= .bool bK) c (by show(yielded ops38 a.tmps 11==bO bL)=bL;rw[f,b];rfl) rfl (by simp[o0,b]) fun t r=>?_;have U:x=y:=hu (by rw[b]at R;simpa using R.symm);subst U;simp[bG,go_sem,G,L]
 |21,d=>
  obtain rfl:=jf d;have s:a.tmps[135]?=bO _:=J.T (11,135,.bool E) (by simp[o0])<|hd ⟨11,.data⟩ (by simp) rfl;have M:a.tmps[144]?=bO _:=J.T (20,144,if E then .bool bK else bJ) (by simp[o0])<|hd ⟨20,.data⟩ (by simp) rfl;refine oX.value (val:= .bool bK) (w':=w1) bQ hV c rfl (fun t r=>⟨t,r,?_⟩) (J.mv (by decide) rfl<|by simp[o0]);show(bG a.eval _).run prog (re w1 t r)=_;rcases Bool.eq_false_or_eq_true E with b|b
  ·rw[b,aA rfl]at M;rw[b]at s;simp[bG,go_sem,s,M]
  rw[b]at s;simp[bG,go_sem,s]
end
end
section
open A
attribute [local go_sem] xe zv
section
variable {v l rs:Zv} {B i k j m n p cap cap':Nat} {pa:Option Addr} {a:Act} {w:Zy} {Po:Exit->Act->Zy->Prop}
def vha(q:OE v B i l k (.slice pa n cap) rs j m a)(s:m<n)(r:Hid<|∀a',OE v B i l k (.slice pa n cap) rs j m a'->Po .normal a' w):ntU.wp prog Po a w:=by
 obtain⟨g,rfl,h,o,p,b,c,e8,d,e,f⟩:=q.lit;clear q;have t:(m:Int)<(n:Nat):=by omega
 simp only[j0,h,o,p,b,c,e8,d,e,f];clear h o p b c e8 d e f
 conv=>arg 2;whnf
 go_wp2
 exact r.o _ ⟨j5 rfl,rfl,rfl,rfl,rfl,rfl,rfl,rfl,rfl,rfl⟩
def vgq(q:OE v B i l k (.slice pa n cap) rs j m a)(s:¬m<n)(r:Hid<|∀a',OE v B i l k (.slice pa n cap) rs j m a'->Po (.exit 7) a' w):ntU.wp prog Po a w:=by
 obtain⟨g,rfl,h,o,p,b,c,e8,d,e,f⟩:=q.lit;clear q;have t:¬(m:Int)<(n:Nat):=by omega
 simp only[j0,h,o,p,b,c,e8,d,e,f];clear h o p b c e8 d e f
 conv=>arg 2;whnf
 go_wp2
 exact r.o _ ⟨j5 rfl,rfl,rfl,rfl,rfl,rfl,rfl,rfl,rfl,rfl⟩
def vgl(q:OE v B i l k (.slice pa n cap) rs j m a)(s:m<10000000000000)(r:Hid<|∀a',OE v B i l k (.slice pa n cap) rs j (m+1) a'->Po .normal a' w):nnU.wp prog Po a w:=by
 obtain⟨g,rfl,h,o,p,b,c,e8,d,e,f⟩:=q.lit;clear q;have t:IntKind.i64.wrap ((m:Int)+1)=((m+1:Nat):Int):=by rw[xn];omega
 simp only[j0,h,o,p,b,c,e8,d,e,f];clear h o p b c e8 d e f
 conv=>arg 2;whnf
 go_wp2
 exact r.o _ ⟨j5 rfl,rfl,rfl,rfl,rfl,rfl,rfl,rfl,rfl,rfl⟩
end
def vfy:∃x,nbU= .seq ncU (.cond (.tmp 145) x .skip):=⟨match nbU with
 | .seq _ (.cond _ x _)=>x
 |_=> .skip,by kernel_rfl⟩
variable [pn:A.Pn]
section
variable {v l rs:Zv} {B i k j m n p cap cap':Nat} {pa:Option Addr} {a:Act} {w:Zy} {Q:Exit->Act->Zy->Prop}
def m5{Q:Exit->Act->Zy->Prop}(h:kT Q){I:Act->Zy->Prop}{m:Act->Zy->Nat}{a0:Act}{w0:Zy}(b:∀a w t d,I a (re w t d)↔I a w)(c:∀a w t d,m a (re w t d)=m a w):kT (fun e a' w'=>match e with
   | .normal=>I a' w'/\m a' w'<m a0 w0
   |e=>Q e a' w'):=by
 intro e a w t d;cases e with
 |normal=>show(I a (re w t d)/\m a (re w t d)<m a0 w0)↔(I a w/\m a w<m a0 w0);rw[b,c]
 |exit id=>exact h _ _ _ _ _
 |goto l=>exact h _ _ _ _ _
 |ret=>exact h _ _ _ _ _
 |panic ch=>exact h _ _ _ _ _
 |outgrown=>exact h _ _ _ _ _
def idx16(n:Nat)(a:Act):Nat:=n-(intOf<|a.tmps[16]?.getD bJ).toNat
def OE.idx{b:Zv}(h:OE v B i l k b rs j m a):idx16 n a=n-m:=by
 have:=h.a16;unfold At at this;simp[idx16,this,intOf]
def Sls(w:Zy)(v:Zv)(A:List Zl):Prop:=∃pa cap,v= .slice pa A.length cap/\∀i (h:i<A.length),∃g,pa=bO ⟨g,0,bN⟩/\w.cell? (zq g i)=bO (.string<|st A[i])
def veb{f:Zv}{A R:List Zl}{y:Zl}(Z:kT Q)(ha:OE v B i l k f rs j 0 a)(hA:Sls w f A)(hR:Sls w rs R)(hj:j<R.length)(hy:R[j]=y)(h8:∀x∈A,8<=x.length)(y8:8<=y.length)(be:A.length<=1000000000000)(hu:∀x∈A,x.take 8=y.take 8->x=y)
  (Y:∀a' w' m,OE v B i l k f rs j m a'->Nw w w'->Q .normal a' w'):Xn bM 7 (.block 7<|.loop nlU) Q a w:=by
 have HQ:=zl Z;have HN:=zl Y;clear Y Z;refine Xn.block bQ hV ?_;have L:=Vz HQ.o (id:=7);have hback:∀{x:Zy} {t:Nat->Question->Nat} {d:Nat},Nw (re x t d) x:=fun {x t d}=>⟨rfl,rfl,ze _,fun _ _ _=>rfl⟩;have vel:∀(x:Zy) (t:Nat->Question->Nat) (d:Nat),Nw x<|re x t d:=fun x t d=>Nw.gL (xb.refl _ _) t d;refine Xn.loop bQ hV (by rw[veu];trivial) (fun a w'=>(∃m,m<=A.length/\OE v B i l k f rs j m a)/\Nw w w') (fun a _=>idx16 A.length a) ?_ _ _ ⟨⟨0,Vj _,ha⟩,xb.refl _ _⟩;rintro D w2 ⟨⟨m,hm,r⟩,n2⟩;have hI:∀a w' t d,((∃m,m<=A.length/\OE v B i l k f rs j m a)/\Nw w (re w' t d))↔((∃m,m<=A.length/\OE v B i l k f rs j m a)/\Nw w w'):=fun a w' t d=>
  ⟨fun h=>⟨h.1,h.2.trans hback⟩,fun h=>⟨h.1,h.2.trans<|vel _ t d⟩⟩
 have c:=m5 L (I:=fun a w'=>(∃m,m<=A.length/\OE v B i l k f rs j m a)/\Nw w w') (m:=fun a _=>idx16 A.length a) (a0:=D) (w0:=w2) hI fun _ _ _ _=>rfl;have ba:idx16 A.length D=A.length-m:=r.idx;obtain⟨pa,bd,rfl,M⟩:=hA;obtain⟨pr,X,rfl,N⟩:=hR;rw[veu];by_cases b:m<A.length;refine gG hV c fun w3 C o p q=>vha r b fun U s=>p.o _ _ ?_;have T:=n2.trans<|ji o;clear p q;refine Xn.seq bQ hV trivial (Xn.block bQ hV ?_);have K:=Vz (c.dV (P:=bM) (fn:=7) (y:=nnU)) (id:=8);obtain⟨xx,S⟩:=vfy;rw[S];refine Xn.seq bQ hV trivial ?_;obtain⟨g,rfl,c1⟩:=M m b;obtain⟨h,rfl,W⟩:=N j hj;rw[hy]at W;refine vgf (E:=decide (A[m].take 8=y.take 8)) s b hj (T.cell (fun x=>x) c1) (T.cell (fun x=>x) W) (h8 _<|Zn b) y8 rfl (hu _<|Zn b) fun V w4 O e n4=>?_;refine Xn.cond (t:=bK) bQ hV ?_ ?_;show V.eval (.tmp 145)=_;unfold At at e;simp[Act.eval,e];refine mY hV K fun w5 bb F H=>?_;have n5:=(T.trans n4).trans<|ji F;simp only[xu,if_false];refine wp_skip ?_;refine H.o .normal _ _ ?_;show Xn bM 7 nnU _ V w5;refine mY hV c fun w6 bc G J=>vgl O (by omega) fun a6 z=>J.o .normal _ _ ⟨⟨⟨m+1,by omega,z⟩,n5.trans<|ji G⟩,?_⟩;have:=z.idx (n:=A.length);show idx16 A.length a6<idx16 A.length D;omega;refine gG hV c fun w3 C o p q=>vgq r b fun U s=>q.o _ _ _ (by simp) ?_;show(if 7=7 then _ else _);rw[aA rfl];exact HN.o U w3 m s<|n2.trans<|ji o
end
end
section
open A
attribute [local go_sem] xe zv
structure Pd(v:Zv)(B i:Nat)(l:Zv)(k:Nat)(al rs:Zv)(j:Nat)(a:Act):Prop where
 lt:∃g,a=⟨j0 g,[]⟩
 a2:At a 2 v
 a7:At a 7<|zo B
 a9:At a 9<|zi i
 a12:At a 12 l
 a13:At a 13<|zi k
 a8:At a 8 al
 a14:At a 14 rs
 a15:At a 15<|zi j
def Pd.lit{v:Zv}{B i:Nat}{l:Zv}{k:Nat}{b c:Zv}{j:Nat}{a:Act}(h:Pd v B i l k b c j a):∃g,a=⟨j0 g,[]⟩/\g 2=v/\g 7=zo B/\g 9=zi i/\g 12=l/\g 13=zi k/\g 8=b/\g 14=c/\g 15=zi j:=by
 obtain⟨g,rfl⟩:=h.lt;exact⟨g,rfl,jf h.a2,jf h.a7,jf h.a9,jf h.a12,jf h.a13,jf h.a8,jf h.a14,jf h.a15⟩
def OE.frj{v:Zv}{B i:Nat}{l:Zv}{k:Nat}{b c:Zv}{j m:Nat}{a:Act}(h:OE v B i l k b c j m a):Pd v B i l k b c j a:=⟨h.lt,h.a2,h.a7,h.a9,h.a12,h.a13,h.a8,h.a14,h.a15⟩
def vcf{w:Zy}{lo:Nat}{v:Zv}{A:List Zl}(h:w.ownsRow lo 9 1 v A.length<|A.map iU):Sls w v A:=by
 rcases h.2 with⟨rfl,d⟩|⟨g,a,c,rfl,_,_,_,_,_,_⟩;exact⟨bN,0,by rw[d],fun i b=>absurd b<|by omega⟩;refine⟨_,a,rfl,fun i b=>⟨g,rfl,?_⟩⟩;have:=h.cellAt i (by omega);simpa[iU,b]using this
def vds{w w':Zy}{a:Option Nat}(h:w.grownBy w' a):xb (fun x=>a=bO x) w w':=⟨h.os,h.output,h.size,fun x c b=>h.block x c fun e=>b e.symm⟩
section
variable {v l rs al:Zv} {B i k j p cap' lo:Nat} {pr:Option Addr} {a:Act} {w:Zy} {Po:Exit->Act->Zy->Prop}
def vgo(n:Pd v B i l k al (.slice pr p cap') j a)(q:j<p)(o:Hid<|∀a',Pd v B i l k al (.slice pr p cap') j a'->Po .normal a' w):jtU.wp prog Po a w:=by
 obtain⟨g,rfl,f,h,m,b,c,e8,d,e⟩:=n.lit;clear n;have r:(j:Int)<(p:Nat):=by omega
 simp only[j0,f,h,m,b,c,e8,d,e];clear f h m b c e8 d e
 conv=>arg 2;whnf
 go_wp2
 exact o.o _ ⟨j5 rfl,rfl,rfl,rfl,rfl,rfl,rfl,rfl,rfl⟩
def vgw(n:Pd v B i l k al (.slice pr p cap') j a)(q:¬j<p)(o:Hid<|∀a',Pd v B i l k al (.slice pr p cap') j a'->Po (.exit 5) a' w):jtU.wp prog Po a w:=by
 obtain⟨g,rfl,f,h,m,b,c,e8,d,e⟩:=n.lit;clear n;have r:¬(j:Int)<(p:Nat):=by omega
 simp only[j0,f,h,m,b,c,e8,d,e];clear f h m b c e8 d e
 conv=>arg 2;whnf
 go_wp2
 exact o.o _ ⟨j5 rfl,rfl,rfl,rfl,rfl,rfl,rfl,rfl,rfl⟩
def vgp(n:Pd v B i l k al rs j a)(p:j<10000000000000)(o:Hid<|∀a',Pd v B i l k al rs (j+1) a'->Po .normal a' w):jnU.wp prog Po a w:=by
 obtain⟨g,rfl,f,h,m,b,c,e8,d,e⟩:=n.lit;clear n;have q:IntKind.i64.wrap ((j:Int)+1)=((j+1:Nat):Int):=by rw[xn];omega
 simp only[j0,f,h,m,b,c,e8,d,e];clear f h m b c e8 d e
 conv=>arg 2;whnf
 go_wp2
 exact o.o _ ⟨j5 rfl,rfl,rfl,rfl,rfl,rfl,rfl,rfl,rfl⟩
def vgm(n:Pd v B i l k al rs j a)(o:Hid<|∀a',OE v B i l k al rs j 0 a'->Po .normal a' w):naU.wp prog Po a w:=by
 obtain⟨g,rfl,f,h,m,b,c,e8,d,e⟩:=n.lit;clear n;simp only[j0,f,h,m,b,c,e8,d,e];clear f h m b c e8 d e
 conv=>arg 2;whnf
 go_wp2
 exact o.o _ ⟨j5 rfl,rfl,rfl,rfl,rfl,rfl,rfl,rfl,rfl,rfl⟩
def vgz{A R:List Zl}{y:Zl}(Q:Pd v B i l k al rs j a)(F:w.ownsRow lo 9 1 al A.length<|A.map iU)(ba:lo<=w.heap.size)(hR:Sls w rs R)(hj:j<R.length)(hy:R[j]=y)(hA:A.length<=1000000000000)
  (Z:Hid<|∀a' w' al',Pd v B i l k al' rs j a'->w'.ownsRow lo 9 1 al' (A++[y]).length ((A++[y]).map iU)->xb (fun x=>al.ownBlock=bO x) w w'->(∀b,al'.ownBlock=bO b->al.ownBlock=bO b\/w.heap.size<=b)->Po .normal a' w'):apU.wp prog Po a w:=by
 obtain⟨i9,hi,H,I,J⟩:=NY;obtain⟨g,rfl,L,M,O,p,q,e8,r,s⟩:=Q.lit;clear Q;obtain⟨D,c,rfl,S⟩:=Jh F;obtain⟨pr,K,rfl,t⟩:=hR;obtain⟨h,rfl,Y⟩:=t j hj;rw[hy]at Y;have i1:(j:Int)<(R.length:Nat):=by omega
 have W:=zl F;clear F t hy;simp only[j0,L,M,O,p,q,e8,r,s];clear L M O p q e8 r s
 conv=>arg 2;whnf
 go_wp2_with (refine wpList_append_lies _ rfl _ _ 51 rfl lo 9 i9 _ 1 16 underlying51 hi H I J rfl (by decide) (.slice D _ c) A.length (A.map iU) rfl ?own _ 1 1 [zs y] rfl rfl ?nw ?o1 (by decide) ?m1 ?m2 ?m3 (w.heap.size+1) ?m4 ?_)
 case own=>exact W.o.alloc _
 case m1=>unfold maxLen;omega
 case m2=>omega
 case m3=>simp;omega
 case m4=>simp
 case o1=>intro z o;simp at o;rw[o];rfl
 case nw=>intro j z o;cases j with
  |zero=>simp at o;subst o;simp[go_sem,Addr.add]
  |succ j=>simp at o
 intro E f T d n m C;have U:Hid<|xb (fun x=>(Value.slice D A.length c).ownBlock=bO x) w T:=(xb.alloc _).trans<|vds n;have X:Hid<|T.ownsRow lo 9 1 (.slice (bO ⟨E,0,bN⟩) (A.length+1) f) (A++[y]).length<|(A++[y]).map iU:=by
  show World.ownsRow _ _ _ _ _ _ _;rw[Jd,zj];exact d
 have V:Hid<|∀b,(Value.slice (bO ⟨E,0,bN⟩) (A.length+1) f).ownBlock=bO b->(Value.slice D A.length c).ownBlock=bO b\/w.heap.size<=b:=fun b G=>by
  have G:bO E=bO b:=G;cases G;rcases m with e|e
  exact .inl e;exact .inr<|by omega
 clear d n m C
 go_wp2
 exact Z.o _ _ _ ⟨j5 rfl,rfl,rfl,rfl,rfl,rfl,rfl,rfl,rfl⟩ X.o U.o V.o
end
end
section
open A
variable [pn:A.Pn]
def hback{x:Zy}{t:Nat->Question->Nat}{d:Nat}:Nw (re x t d) x:=⟨rfl,rfl,ze _,fun _ _ _=>rfl⟩
def vel(x:Zy)(t:Nat->Question->Nat)(d:Nat):Nw x<|re x t d:=Nw.gL (xb.refl _ _) t d
def IL{w w':Zy}{lo:Nat}{v:Zv}{n:Nat}{xs:Ze}(h:w.ownsRow lo 9 1 v n xs){S:ZP}(b:xb S w w')(j:∀x,v.ownBlock=bO x->¬S x):w'.ownsRow lo 9 1 v n xs:=by
 refine⟨h.1,?_⟩;rcases h.2 with e|⟨g,a,c,rfl,f,d,i⟩
 exact .inl e;exact .inr ⟨g,a,c,rfl,f,(b.block g (za.1 d).1<|j g rfl).trans d,i⟩
def vfj{w w':Zy}{v:Zv}{A:List Zl}(h:Sls w v A){S:ZP}(b:xb S w w')(e:∀x,v.ownBlock=bO x->¬S x):Sls w' v A:=by
 obtain⟨j,a,rfl,d⟩:=h;exact⟨j,a,rfl,fun i f=>by
  obtain⟨g,rfl,c⟩:=d i f;exact⟨g,rfl,b.cell (e g rfl) c⟩⟩
structure Seen(H:List Zl)(lo:Nat)(al0:Zv)(w0:Zy)(al:Zv)(n:Nat)(w:Zy):Prop where
 ex:∃A:List Zl,w.ownsRow lo 9 1 al A.length (A.map iU)/\(∀x∈A,x∈H)/\A.length<=n
 but:xb (fun x=>al0.ownBlock=bO x) w0 w
 blk:∀b,al.ownBlock=bO b->al0.ownBlock=bO b\/w0.heap.size<=b
 lo:lo<=w0.heap.size
def Seen.nw{H:List Zl}{lo n:Nat}{a b:Zv}{w0 w w':Zy}(h:Seen H lo a w0 b n w)(k:Nw w w'):Seen H lo a w0 b n w':=by
 obtain⟨A,c,d⟩:=h.ex;exact⟨⟨A,IL c k fun _ _ x=>x,d⟩,h.but.trans<|k.mono fun _ x=>x.elim,h.blk,h.lo⟩
def Seen.up{H:List Zl}{lo n m:Nat}{a b:Zv}{w0 w:Zy}(h:Seen H lo a w0 b n w)(k:n<=m):Seen H lo a w0 b m w:=by
 obtain⟨A,c,d,e⟩:=h.ex;exact⟨⟨A,c,d,by omega⟩,h.but,h.blk,h.lo⟩
section
variable {v l rs:Zv} {B i k lo n:Nat} {a:Act} {w:Zy} {Q:Exit->Act->Zy->Prop} {H:List<|Zl}
def idx15(n:Nat)(a:Act):Nat:=n-(intOf<|a.tmps[15]?.getD bJ).toNat
def Pd.idx{b:Zv}{j:Nat}(h:Pd v B i l k b rs j a):idx15 n a=n-j:=by
 have:=h.a15;unfold At at this;simp[idx15,this,intOf]
def vep{c X:Zv}{R:List Zl}(hQ:kT Q)(ha:Pd v B i l k X rs 0 a)(h0:Seen H lo c w X n w)(hR:Sls w rs R)(hb:∀b,rs.ownBlock=bO b->b<w.heap.size/\c.ownBlock≠bO b)(F:∀x∈R,x∈H)(h8:∀x∈H,8<=x.length)(hn:n+R.length<=1000000000000)(hu:∀x∈H,∀y∈H,x.take 8=y.take 8->x=y)
  (hN:∀a' w' al',Pd v B i l k al' rs R.length a'->Seen H lo c w al' (n+R.length) w'->Q .normal a' w'):Xn bM 7 (.block 5<|.loop jlU) Q a w:=by
 have HQ:=zl hQ;have HN:=zl hN;clear hN hQ;refine Xn.block bQ hV ?_;have be:=Vz HQ.o (id:=5);refine Xn.loop bQ hV (by rw[vek];trivial) (fun a w'=>∃j al',j<=R.length/\Pd v B i l k al' rs j a/\Seen H lo c w al' (n+j) w') (fun a _=>idx15 R.length a) ?_ _ _ ⟨0,X,Vj _,ha,h0⟩;rintro W w2 ⟨j,Y,hj,o,s2⟩;have hI:∀a w' t d,(∃j al',j<=R.length/\Pd v B i l k al' rs j a/\Seen H lo c w al' (n+j) (re w' t d))↔(∃j al',j<=R.length/\Pd v B i l k al' rs j a/\Seen H lo c w al' (n+j) w'):=fun a w' t d=>
  ⟨fun⟨j,x,Z,h2,h3⟩=>⟨j,x,Z,h2,h3.nw hback⟩,fun⟨j,x,Z,h2,h3⟩=>⟨j,x,Z,h2,h3.nw<|vel _ t d⟩⟩
 have r:=m5 be (I:=fun a w'=>∃j al',j<=R.length/\Pd v B i l k al' rs j a/\Seen H lo c w al' (n+j) w') (m:=fun a _=>idx15 R.length a) (a0:=W) (w0:=w2) hI fun _ _ _ _=>rfl;have bl:idx15 R.length W=R.length-j:=o.idx;have O:∀{w' al' n'},Seen H lo c w al' n' w'->Sls w' rs R:=fun s=>vfj hR s.but fun x q e=>(hb x q).2 e;have bk:∃U g,rs= .slice U R.length g:=by obtain⟨U,g,e,_⟩:=hR;exact⟨U,g,e⟩
 obtain⟨U,g,z⟩:=bk;rw[vek];by_cases f:j<R.length;refine gG hV r fun w3 V D E G=>?_;rw[z]at o;refine vgo o f fun a3 p=>E.o _ _ ?_;rw[<-z]at p;have s3:=s2.nw<|ji D;clear E G;refine Xn.seq bQ hV trivial (Xn.block bQ hV ?_);have M:=Vz (r.dV (P:=bM) (fn:=7) (y:=jnU)) (id:=6);rw[vfq];refine Xn.seq bQ hV trivial ?_;have N:=M.dV (P:=bM) (fn:=7) (y:=apU);refine gG hV N fun w4 bm ba L bf=>vgm p fun a4 bh=>L.o _ _ ?_;have s4:=s3.nw<|ji ba;clear L bf;obtain⟨A,o4,C,bp⟩:=s4.ex;refine veb N bh (vcf o4) (O s4) f rfl (fun x q=>h8 x<|C x q) (h8 _<|F _<|Zn f) (by omega) (fun x q=>hu x (C x q) _<|F _<|Zn f) fun a5 w5 m bi n5=>?_;have s5:=s4.nw n5;have o5:=IL o4 n5 fun _ _ x=>x;show Xn bM 7 apU _ a5 w5;refine mY hV M fun w6 bn K bc=>?_;have h:=s5.nw<|ji K;have o6:=IL o5 (ji K) fun _ _ x=>x;refine vgz bi.frj o6 (xz h.lo h.but.size) (O h) f rfl (by omega) fun a7 w7 J bj o7 T k7=>bc.o .normal _ _ ?_;have s7:Seen H lo c w J (n+(j+1)) w7:=by
  refine⟨⟨A++[R[j]],o7,fun x q=>?_,by rw[zj,jd];omega⟩,?_,fun b bg=>?_,h.lo⟩;rcases Je.1 q with e|e
  exact C x e;rw[jp.1 e];exact F _<|Zn f;refine⟨T.os.trans h.but.os,T.output.trans h.but.output,xz h.but.size T.size,fun x q hs=>?_⟩;refine(T.block x (zn q h.but.size) fun e=>?_).trans<|h.but.block x q hs;rcases h.blk x e with e|e
  exact hs e;omega;rcases k7 b bg with e|e
  exact h.blk b e;exact .inr<|xz h.but.size e
 show Xn bM 7 jnU _ a7 w7;refine mY hV r fun w8 bo bb bd=>vgp bj (by omega) fun a8 S=>bd.o .normal _ _ ⟨⟨j+1,J,by omega,S,s7.nw<|ji bb⟩,?_⟩;have:=S.idx (n:=R.length);show idx15 R.length a8<idx15 R.length W;omega;obtain rfl:j=R.length:=by omega
 refine gG hV r fun w3 V D E G=>?_;rw[z]at o;refine vgw o f fun a3 p=>G.o _ _ _ (by simp) ?_;rw[<-z]at p;show(if 5=5 then _ else _);rw[aA rfl];exact HN.o a3 w3 Y p<|s2.nw<|ji D
end
end
section
open A
attribute [local go_sem] xe zv
def vcs(L:Ym):∀(ns:List Int) (q:Nat) (h:q<ns.length),(sJ L ns)[q*2]?=bO (zi ns[q])/\(sJ L ns)[q*2+1]?=bO (zs<|qu L ns[q])
 |[],q,h=>absurd h<|by simp
 |n::ns,0,h=>⟨rfl,rfl⟩
 |n::ns,q+1,h=>by
  have:=vcs L ns q (by simpa using h);have e:sJ L (n::ns)=zi n::zs (qu L n)::sJ L ns:=rfl;rw[e,show(q+1)*2=q*2+1+1 by omega];exact this
def Img(w:Zy)(v:Zv)(F:Ym)(ns:List Int):Prop:=∃pa cap,v= .slice pa ns.length cap/\∀q (h:q<ns.length),∃g,pa=bO ⟨g,0,bN⟩/\w.cell? (zq g<|q*2)=bO (zi ns[q])/\w.cell? (zq g<|q*2+1)=bO (zs<|qu F ns[q])
def Img.of{w:Zy}{B:Nat}{v:Zv}{F:Ym}{c:List Int}(h:w.ownsRow B 36 2 v c.length<|sJ F c):Img w v F c:=by
 by_cases i:0<c.length;obtain⟨g,b,e,_,f⟩:=uD h i;exact⟨_,b,e,fun q d=>⟨g,rfl,f _ _ (vcs F c q d).1,f _ _ (vcs F c q d).2⟩⟩;obtain⟨a,b,e,_⟩:=Jh h;exact⟨a,b,e,fun q d=>absurd d<|by omega⟩
def Img.but{w w':Zy}{v:Zv}{F:Ym}{e:List Int}(h:Img w v F e){S:ZP}(b:xb S w w')(d:∀x,v.ownBlock=bO x->¬S x):Img w' v F e:=by
 obtain⟨l,a,rfl,j⟩:=h;exact⟨l,a,rfl,fun i k=>by
  obtain⟨g,rfl,c,f⟩:=j i k;exact⟨g,rfl,b.cell (d g rfl) c,b.cell (d g rfl) f⟩⟩
structure K3(v:Zv)(B i:Nat)(l:Zv)(k:Nat)(al:Zv)(a:Act):Prop where
 lt:∃g,a=⟨j0 g,[]⟩
 a2:At a 2 v
 a7:At a 7<|zo B
 a9:At a 9<|zi i
 a12:At a 12 l
 a13:At a 13<|zi k
 a8:At a 8 al
def K3.lit{v:Zv}{B i:Nat}{l:Zv}{k:Nat}{b:Zv}{a:Act}(h:K3 v B i l k b a):∃g,a=⟨j0 g,[]⟩/\g 2=v/\g 7=zo B/\g 9=zi i/\g 12=l/\g 13=zi k/\g 8=b:=by
 obtain⟨g,rfl⟩:=h.lt;exact⟨g,rfl,jf h.a2,jf h.a7,jf h.a9,jf h.a12,jf h.a13,jf h.a8⟩
def Pd.frk{v:Zv}{B i:Nat}{l:Zv}{k:Nat}{b c:Zv}{j:Nat}{a:Act}(h:Pd v B i l k b c j a):K3 v B i l k b a:=⟨h.lt,h.a2,h.a7,h.a9,h.a12,h.a13,h.a8⟩
section
variable {v l al:Zv} {B i k p cap g:Nat} {pl:Option Addr} {a:Act} {w:Zy} {N:Int} {x:Zl} {Po:Exit->Act->Zy->Prop}
def vgy(g:K3 v B i (.slice pl p cap) k al a)(hk:k<p)(h:Hid<|∀a',K3 v B i (.slice pl p cap) k al a'->Po .normal a' w):ktU.wp prog Po a w:=by
 obtain⟨q,rfl,d,e,f,b,c,e8⟩:=g.lit;have j:(k:Int)<(p:Nat):=by omega
 clear g;simp only[j0,d,e,f,b,c,e8];clear d e f b c e8
 conv=>arg 2;whnf
 go_wp2
 exact h.o _ ⟨j5 rfl,rfl,rfl,rfl,rfl,rfl,rfl⟩
def vgh(g:K3 v B i (.slice pl p cap) k al a)(hk:¬k<p)(h:Hid<|∀a',K3 v B i (.slice pl p cap) k al a'->Po (.exit 3) a' w):ktU.wp prog Po a w:=by
 obtain⟨q,rfl,d,e,f,b,c,e8⟩:=g.lit;have j:¬(k:Int)<(p:Nat):=by omega
 clear g;simp only[j0,d,e,f,b,c,e8];clear d e f b c e8
 conv=>arg 2;whnf
 go_wp2
 exact h.o _ ⟨j5 rfl,rfl,rfl,rfl,rfl,rfl,rfl⟩
def vgx(g:K3 v B i l k al a)(hk:k<1000000)(h:Hid<|∀a',K3 v B i l (k+1) al a'->Po .normal a' w):knU.wp prog Po a w:=by
 obtain⟨q,rfl,d,e,f,b,c,e8⟩:=g.lit;have j:IntKind.i64.wrap ((k:Int)+1)=((k+1:Nat):Int):=by rw[xn];omega
 clear g;simp only[j0,d,e,f,b,c,e8];clear d e f b c e8
 conv=>arg 2;whnf
 go_wp2
 exact h.o _ ⟨j5 rfl,rfl,rfl,rfl,rfl,rfl,rfl⟩
def vgj(h:K3 v B i (.slice (bO ⟨g,0,bN⟩) p cap) k al a)(hk:k<p)(m:w.cell? (zq g<|k*2)=bO (zi N))(n1:1<=N)(l:N<=9999)(j:Hid<|∀a',K3 v B i (.slice (bO ⟨g,0,bN⟩) p cap) k al a'->Po .normal a' w):kcU.wp prog Po a w:=by
 obtain⟨q,rfl,d,e,f,b,c,e8⟩:=h.lit;have n:(k:Int)<(p:Nat):=by omega
 have o:¬N<1:=by omega
 have r:¬9999<N:=by omega
 clear h n1 l;simp only[j0,d,e,f,b,c,e8];clear d e f b c e8
 conv=>arg 2;whnf
 go_wp2
 exact j.o _ ⟨j5 rfl,rfl,rfl,rfl,rfl,rfl,rfl⟩
def vgs(h:K3 v B i (.slice (bO ⟨g,0,bN⟩) p cap) k al a)(hk:k<p)(l:w.cell? (zq g<|k*2)=bO (zi N))(n1:N<1)(j:Hid<|∀a',K3 v B i (.slice (bO ⟨g,0,bN⟩) p cap) k al a'->Po (.exit 4) a' w):kcU.wp prog Po a w:=by
 obtain⟨q,rfl,d,e,f,b,c,e8⟩:=h.lit;have m:(k:Int)<(p:Nat):=by omega
 clear h;simp only[j0,d,e,f,b,c,e8];clear d e f b c e8
 conv=>arg 2;whnf
 go_wp2
 exact j.o _ ⟨j5 rfl,rfl,rfl,rfl,rfl,rfl,rfl⟩
def vgu(h:K3 v B i (.slice (bO ⟨g,0,bN⟩) p cap) k al a)(hk:k<p)(l:w.cell? (zq g<|k*2)=bO (zi N))(n1:¬N<1)(n:9999<N)(j:Hid<|∀a',K3 v B i (.slice (bO ⟨g,0,bN⟩) p cap) k al a'->Po (.exit 4) a' w):kcU.wp prog Po a w:=by
 obtain⟨q,rfl,d,e,f,b,c,e8⟩:=h.lit;have m:(k:Int)<(p:Nat):=by omega
 clear h;simp only[j0,d,e,f,b,c,e8];clear d e f b c e8
 conv=>arg 2;whnf
 go_wp2
 exact j.o _ ⟨j5 rfl,rfl,rfl,rfl,rfl,rfl,rfl⟩
def vhb(m:K3 v B i (.slice (bO ⟨g,0,bN⟩) p cap) k al a)(hk:k<p)(c1:w.cell? (zq g<|k*2+1)=bO (zs x))(hx:x.length<=1000000)
  (s:Hid<|∀a' w' rs,K3 v B i (.slice (bO ⟨g,0,bN⟩) p cap) k al a'->At a' 14 rs->w'.ownsRow w.heap.size 9 1 rs (CH x).length ((CH x).map iU)->Nw w w'->Po .normal a' w'):krU.wp prog Po a w:=by
 obtain⟨q,rfl,h,j,l,b,c,e8⟩:=m.lit;have y:(k:Int)<(p:Nat):=by omega
 clear m;have CR:=zl<|vcv x hx w;simp only[j0,h,j,l,b,c,e8];clear h j l b c e8
 conv=>arg 2;whnf
 go_wp2
 refine CR.o.mono ?_;rintro e w1 ⟨rs,rfl,d,n⟩;have o:=zl d;have r:=zl n;obtain⟨t,f,rfl,_⟩:=Jh d;clear d n
 go_wp2
 exact s.o _ _ _ ⟨j5 rfl,rfl,rfl,rfl,rfl,rfl,rfl⟩ rfl o.o r.o
def vgt{f:Zv}(m:K3 v B i l k al a)(e:At a 14 f)(n:Hid<|∀a',Pd v B i l k al f 0 a'->Po .normal a' w):jaU.wp prog Po a w:=by
 obtain⟨q,rfl,g,h,j,b,c,e8⟩:=m.lit;have d:q 14=f:=jf e;clear m e;simp only[j0,g,h,j,b,c,e8,d];clear g h j b c e8 d
 conv=>arg 2;whnf
 go_wp2
 exact n.o _ ⟨j5 rfl,rfl,rfl,rfl,rfl,rfl,rfl,rfl,rfl⟩
end
end
section
open A
section
variable {H:List Zl}
def vcg:∀(n:Nat) (l:Zl),(B5 n l).length<=n
 |0,_=>ze _
 |n+1,l=>by
  unfold B5;split;have:=vcg n<|l.drop<|42+eT l;rw[zh];omega;simp
def Seen.trans{lo n i:Nat}{a c d:Zv}{w0 w1 w:Zy}(h:Seen H lo a w0 c n w1)(k:Seen H lo c w1 d i w):Seen H lo a w0 d i w:=by
 refine⟨k.ex,⟨k.but.os.trans h.but.os,k.but.output.trans h.but.output,xz h.but.size k.but.size,fun x g f=>?_⟩,fun b j=>?_,h.lo⟩;refine(k.but.block x (zn g h.but.size) fun e=>?_).trans<|h.but.block x g f;rcases h.blk x e with e|e
 exact f e;omega;rcases k.blk b j with e|e
 exact h.blk b e;exact .inr<|xz h.but.size e
def Seen.lt{lo n:Nat}{a c:Zv}{w0 w:Zy}(h:Seen H lo a w0 c n w){b:Nat}(e:c.ownBlock=bO b):b<w.heap.size:=by
 obtain⟨A,d,_⟩:=h.ex;exact(d.lt b e).2
def Seen.again{lo n:Nat}{b a:Zv}{w0 w:Zy}(h:Seen H lo b w0 a n w):Seen H lo a w a n w:=⟨h.ex,xb.refl _ _,fun _ x=> .inl x,xz h.lo h.but.size⟩
variable [pn:A.Pn]
section
variable {v l:Zv} {B i lo n:Nat} {a:Act} {w:Zy} {Q:Exit->Act->Zy->Prop} {H:List<|Zl} {F:Ym} {ns:List Int}
def idx13(n:Nat)(a:Act):Nat:=n-(intOf<|a.tmps[13]?.getD bJ).toNat
def K3.idx{b:Zv}{k:Nat}(h:K3 v B i l k b a):idx13 n a=n-k:=by
 have:=h.a13;unfold At at this;simp[idx13,this,intOf]
def vef{c:Zv}(hQ:kT Q)(ha:K3 v B i l 0 c a)(h0:Seen H lo c w c n w)(hI:Img w l F ns)(hb:∀b,l.ownBlock=bO b->b<w.heap.size/\c.ownBlock≠bO b)(hF:OnD F H)(hl:∀q,(qu F q).length<=100000)(bx:ns.length<=1000)(h8:∀x∈H,8<=x.length)(hn:n<=100000000000)(hu:∀x∈H,∀y∈H,x.take 8=y.take 8->x=y)
  (hN:∀a' w' al',K3 v B i l ns.length al' a'->Seen H lo c w al' (n+100000000) w'->Q .normal a' w'):Xn bM 7 (.block 3<|.loop klU) Q a w:=by
 have HQ:=zl hQ;have HN:=zl hN;clear hN hQ;refine Xn.block bQ hV ?_;have bl:=Vz HQ.o (id:=3);refine Xn.loop bQ hV (by rw[veh];trivial) (fun a w'=>∃k al',k<=ns.length/\K3 v B i l k al' a/\Seen H lo c w al' (n+k*100000) w') (fun a _=>idx13 ns.length a) ?_ _ _ ⟨0,c,Vj _,ha,by simpa using h0⟩;rintro a2 w2 ⟨k,D,hk,C,s2⟩;have bj:∀a w' t d,(∃k al',k<=ns.length/\K3 v B i l k al' a/\Seen H lo c w al' (n+k*100000) (re w' t d))↔(∃k al',k<=ns.length/\K3 v B i l k al' a/\Seen H lo c w al' (n+k*100000) w'):=fun a w' t d=>
  ⟨fun⟨k,x,M,h2,h3⟩=>⟨k,x,M,h2,h3.nw hback⟩,fun⟨k,x,M,h2,h3⟩=>⟨k,x,M,h2,h3.nw<|vel _ t d⟩⟩
 have G:=m5 bl (I:=fun a w'=>∃k al',k<=ns.length/\K3 v B i l k al' a/\Seen H lo c w al' (n+k*100000) w') (m:=fun a _=>idx13 ns.length a) (a0:=a2) (w0:=w2) bj fun _ _ _ _=>rfl;have bs:idx13 ns.length a2=ns.length-k:=C.idx;have bi:∀{w' al' n'},Seen H lo c w al' n' w'->Img w' l F ns:=fun s=>hI.but s.but fun x hx e=>(hb x hx).2 e;obtain⟨pl,L,p⟩:∃pl r,l= .slice pl ns.length r:=by obtain⟨pr,r,e,_⟩:=hI;exact⟨pr,r,e⟩
 rw[veh];by_cases h:k<ns.length
 ·refine gG hV G fun w3 be N O S=>?_
  rw[p]at C;refine vgy C h fun a3 o=>O.o _ _ ?_;have s3:=s2.nw<|ji N;clear O S;refine Xn.seq bQ hV trivial (Xn.block bQ hV ?_);have z:=Vz (G.dV (P:=bM) (fn:=7) (y:=knU)) (id:=4);have next:∀a5 w5 E,K3 v B i l k E a5->Seen H lo c w E (n+(k+1)*100000) w5->Xn bM 7 knU (fun e a' w'=>match e with
    | .normal=>(∃k al',k<=ns.length/\K3 v B i l k al' a'/\Seen H lo c w al' (n+k*100000) w')/\idx13 ns.length a'<idx13 ns.length a2
    |e=>(match e with
     | .exit j=>if j=3 then Q .normal a' w' else Q (.exit j) a' w'
     |e=>Q e a' w')) a5 w5:=fun a5 w5 E bp s5=>by
   refine mY hV G fun w8 bw bh bk=>vgx bp (by omega) fun a8 J=>bk.o .normal _ _ ⟨⟨k+1,E,by omega,J,s5.nw<|ji bh⟩,?_⟩;have:=J.idx (n:=ns.length);show idx13 ns.length a8<idx13 ns.length a2;omega
  obtain⟨pa,X,bd,bo⟩:=bi s3;obtain⟨g,rfl,c0,c1⟩:=bo k h;obtain⟨rfl,_,rfl⟩:pl=bO ⟨g,0,bN⟩/\ns.length=ns.length/\L=X:=by
   rw[p]at bd;cases bd;exact⟨rfl,rfl,rfl⟩
  rw[vft];by_cases K:1<=ns[k]/\ns[k]<=9999
  ·refine gG hV z fun w4 V f R T=>vgj o h ((ji f).cell (fun x=>x) c0) K.1 K.2 fun W U=>R.o _ _ ?_
   have s4:=s3.nw<|ji f;have c1:=(ji f).cell (fun x=>x) c1;clear R T;refine gG hV z fun w5 bu Y ba bm=>vhb U h ((ji Y).cell (fun x=>x) c1) (by have:=hl ns[k];omega) fun a6 w6 rs bq bg o6 n6=>ba.o _ _ ?_;have s5:=s4.nw<|ji Y;have s6:=s5.nw n6;clear ba bm;refine gG hV z fun w7 bv Z bb bn=>vgt bq bg fun a7 br=>bb.o _ _ ?_;have s7:=s6.nw<|ji Z;have o7:=IL o6 (ji Z) fun _ _ x=>x;clear bb bn;have bt:(CH<|qu F ns[k]).length<=100000:=xz (vcg _ _)<|hl _;refine vep z br s7.again (vcf o7) (fun b bc=>⟨(o7.lt b bc).2,fun e=>?_⟩) (fun x hx=>hF _ K.1 K.2 x hx) h8 (by omega) hu fun a8 w8 bf J s8=>?_;have M:=s5.lt e;have h2:=(o7.lt b bc).1;omega;refine next a8 w8 bf (by rw[p];exact J.frk) ((s7.trans s8).up ?_);rw[Nat.add_mul];omega
  have sk:Seen H lo c w D (n+(k+1)*100000) w3:=s3.up (by rw[Nat.add_mul];omega);refine gG hV z fun w4 V f R T=>?_;have fin:∀W,K3 v B i (.slice (bO ⟨g,0,bN⟩) ns.length L) k D W->V (.exit 4) W w4:=fun W U=>T.o _ _ _ (by simp) (by
   show(if 4=4 then _ else _);rw[aA rfl];exact next W w4 D (by rw[p];exact U) (sk.nw<|ji f))
  by_cases M:ns[k]<1;exact vgs o h ((ji f).cell (fun x=>x) c0) M fin;exact vgu o h ((ji f).cell (fun x=>x) c0) M (by omega) fin
 obtain rfl:k=ns.length:=by omega
 refine gG hV G fun w3 be N O S=>?_;rw[p]at C;refine vgh C h fun a3 o=>S.o _ _ _ (by simp) ?_;rw[<-p]at o;show(if 3=3 then _ else _);rw[aA rfl];exact HN.o a3 w3 D o<|(s2.nw<|ji N).up<|by omega
end
end
end
section
open A
def Jq.nw{w w':Zy}{B:Nat}{r:Sr}(h:Jq w B r)(n:Nw w w'):Jq w' B r:=h.but n fun _ _=>id
variable [pn:A.Pn]
structure K9(cv tv:Zv)(lo B:Nat)(v:Zv)(D:List Ac)(w0:Zy)(r:Sr)(s:Jo)(w:Zy):Prop where
 st:Jq w B r
 sn:r.sn=bO s
 inv:j6 r s
 own:∀x,r.own B x->lo<=x
 l4:2<lo
 sz:lo<=w0.heap.size
 wC:iA cv tv w
 two:vac lo cv tv w
 old:xb (fun x=>lo<=x) w0 w
 al:AL lo w v D
section
variable {cv tv:Zv} {lo B:Nat} {v:Zv} {D:List Ac} {w0 w w':Zy} {r r':Sr} {s s':Jo}
def K9.nw(h:K9 cv tv lo B v D w0 r s w)(n:Nw w w'):K9 cv tv lo B v D w0 r s w':=
 ⟨h.st.nw n,h.sn,h.inv,h.own,h.l4,h.sz,h.wC.but (S:=fun _=>False) n fun _ x=>x.elim,h.two.but (S:=fun _=>False) n fun _ x=>x.elim,h.old.trans<|n.mono fun _ x=>x.elim,h.al.but<|n.mono fun _ x=>x.elim⟩
def j6.vgv(C:j6 r s)(d:r.sn=bO s)(a:∀x,r.own B x->2<x):fV B r:=by
 have k:=fV.of (Bx:=B) C.inv (.inl d) fun x f=>a x (by
  rcases f with e|(e|e|⟨c,b,_⟩)|e;exact .inl e;exact .inr<|.inl<|.inl e;exact .inr<|.inl<|.inr<|.inl e;cases b;exact .inr<|.inr e)
 exact⟨k.m,k.mark,k.cnt,k.op,k.room,k.files,k.few,fun c b=>by have:=C.nx c b;unfold i64;omega,a,k.bU⟩
def K9.ok(h:K9 cv tv lo B v D w0 r s w):fV B r:=h.inv.vgv h.sn fun x a=>by have:=h.own x a;have:=h.l4;omega
def K9.to(h:K9 cv tv lo B v D w0 r s w)(t:jt B r w r' w')(d:r'.sn=bO s')(c:j6 r' s'):K9 cv tv lo B v D w0 r' s' w':=by
 have f:w0.heap.size<=w.heap.size:=h.old.size;have e:=h.sz;refine⟨t.at_,d,c,fun x a=>?_,h.l4,h.sz,h.wC.but t.but fun x a=>?_,h.two.but t.but fun x a=>h.own x a,h.old.trans<|t.but.mono fun x a=>h.own x a,h.al.but<|t.but.mono fun x a=>h.own x a⟩;rcases t.own x a with b|b
 exact h.own x b;omega;have:=h.own x a;have:=h.l4;omega
def K9.wrt{n:Nat}(h:K9 cv tv lo B v D w0 r s w)(l:n<=60)(p:U2 n r s)(m:s.bP<999)(kd:Int):bE prog 26 #[zo B,zi kd] w<|D5 B r (r.wrt s kd) w:=by
 have I:=h.inv.inv;have c:s.ep<=1000000:=by have:=I.ep;omega
 have k:∀x,r.own B x->2<x:=fun x i=>by have:=h.own x i;have:=h.l4;omega
 have f:∀a,r.bW s=(bO 0,a)->fV B a/\j6 a (r.ses1 s)/\(r.ses1 s).bP=s.bP:=fun a e=>by
  rcases h.inv.vby h.sn l p with⟨y,g,d,_,j⟩|⟨y,g,_⟩;have b:=g;rw[e]at b;cases b;exact⟨d.inv.vgv d.sn fun x i=>k x<|vdl h.sn e i,d.inv,j⟩;rw[g]at e;cases e
 refine vcq B r s kd w (vcn B r s w h.st h.sn h.ok h.wC h.two h.own I.P) (vcw B r s w h.st h.sn h.ok (fun a e=>(f a e).1) h.wC h.two h.own I.P c)<|vbz B r s w h.st h.sn h.ok (fun a e=>?_) h.wC h.two h.own I.P c;obtain⟨o,q,z⟩:=f a e;have I1:=q.inv;have C:a.d.L.length<=a.cnt+2:=I1.few;have E:a.cnt<=40:=I1.cnt;have F:(r.ses1 s).L.length<=20*a.cnt:=I1.len;have G:(qu a.d.L<|Ye (r.ses1 s).named).length<=60000:=I1.jD _;have t:=I1.sh0;exact⟨o,by omega,I1.sK,by omega,t,by omega,by omega⟩
end
section
variable {cv tv:Zv} {lo B n:Nat} {v:Zv} {D:List Ac} {w0 w w1 w2:Zy} {r r':Sr} {s:Jo} {e:Ending} {H:List<|Zl}
structure U3(cv tv:Zv)(lo B:Nat)(v:Zv)(D:List Ac)(w0:Zy)(n:Nat)(H:List Zl)(r:Sr)(s:Jo)(r':Sr)(w:Zy):Prop where
 st:Jq w B r'.shut
 fell:NS n r r'
 cnt:r'.cnt<=40
 inv:j6 r s
 own:∀x,r'.shut.own B x->lo<=x
 l4:2<lo
 sz:lo<=w0.heap.size
 wC:iA cv tv w
 two:vac lo cv tv w
 old:xb (fun x=>lo<=x) w0 w
 al:AL lo w v D
 P6:D4 H (r'.op+1) 0
 on:OnD r'.d.L H
def U3.nw(h:U3 cv tv lo B v D w0 n H r s r' w)(k:Nw w w1):U3 cv tv lo B v D w0 n H r s r' w1:=
 ⟨h.st.nw k,h.fell,h.cnt,h.inv,h.own,h.l4,h.sz,h.wC.but (S:=fun _=>False) k fun _ x=>x.elim,h.two.but (S:=fun _=>False) k fun _ x=>x.elim,h.old.trans<|k.mono fun _ x=>x.elim,h.al.but<|k.mono fun _ x=>x.elim,h.P6,h.on⟩
def K9.fel(h:K9 cv tv lo B v D w0 r s w)(c:r'.cnt<=40)(f:NS n r r')(e:D4 H (r'.op+1) 0)(ho:OnD r'.d.L H)(t:jt B r w r'.shut w1):U3 cv tv lo B v D w0 n H r s r' w1:=by
 have i:w0.heap.size<=w.heap.size:=h.old.size;have g:=h.sz;refine⟨t.at_,f,c,h.inv,fun x a=>?_,h.l4,h.sz,h.wC.but t.but fun x a=>?_,h.two.but t.but fun x a=>h.own x a,h.old.trans<|t.but.mono fun x a=>h.own x a,h.al.but<|t.but.mono fun x a=>h.own x a,e,ho⟩;rcases t.own x a with b|b
 exact h.own x b;omega;have:=h.own x a;have:=h.l4;omega
def U3.ok(h:U3 cv tv lo B v D w0 n H r s r' w):fV B r'.shut:=by
 have f:=h.fell;have I:=h.inv.inv;have a:=h.cnt;have g:r.op<=999:=I.op;refine⟨by show r'.m.length=32;rw[f.fell.keep.m];exact I.m,f.mark,by show r'.cnt<_;omega,by show r'.op<_;rw[f.fell.keep.op];omega,?_,⟨f.fell.gs.each,?_⟩,?_,fun c a=>?_,fun x b=>by have:=h.own x b;have:=h.l4;omega,fun s e=>by cases e⟩;show 0<=r'.d.room/\r'.d.room<=1000000;rw[f.fell.room,show r.d.room=100000 from I.room];omega;have:=f.fell.few;show r'.d.L.length<=_;omega;have:=f.fell.few;show r'.d.L.length<_;omega;have a:r'.d.nx=bO c:=a;rw[f.fell.nx]at a;cases a
def U3.cc(h:U3 cv tv lo B v D w0 n H r s r' w)(hop:r.op<999):CC bM 16 #[zo B] w<|FH B r'.shut w:=by
 refine G_ (cv:=cv) (tv:=tv) h.st rfl (by show r'.op<_;rw[h.fell.fell.keep.op];exact hop) h.ok h.wC (fun i=>h.fell.fell.len i) fun b=>?_;obtain⟨c,d,a,_⟩:=h.fell.mends;obtain⟨k,L,M⟩:=a b;have:=M.rC;exact⟨k,L,M.look,M.mend,M.dD,by omega,by omega⟩
def vfo{b:Sr}{d:Jo}(j:2<lo)(k:lo<=w0.heap.size)(own:∀x,r'.own B x->lo<=x)(c:iA cv tv w)(e:vac lo cv tv w)(old:xb (fun x=>lo<=x) w0 w)(g:AL lo w v D)(t:jt B r' w b w1)(i:b.sn=bO d)(h:j6 b d):K9 cv tv lo B v D w0 b d w1:=by
 have l:w0.heap.size<=w.heap.size:=old.size;refine⟨t.at_,i,h,fun x a=>?_,j,k,c.but t.but fun x a=>?_,e.but t.but fun x a=>own x a,old.trans<|t.but.mono fun x a=>own x a,g.but<|t.but.mono fun x a=>own x a⟩;rcases t.own x a with f|f
 exact own x f;omega;have:=own x a;omega
structure Good(n:Nat)(H:List Zl)(r:Sr)(s:Jo):Prop where
 RR:vcb H r
 pot:U2 n r s
 op:r.op<=n+2
 sh:s.bP<=(n:Int)
def Good.up{m:Nat}(h:Good n H r s)(k:n<=m):Good m H r s:=⟨h.RR,by have:=h.pot;unfold U2 at*;omega,by have:=h.op;omega,by have:=h.sh;omega⟩
def U3.done(h:U3 cv tv lo B v D w0 n H r s r' w)(hop:r.op<n+2)(q:n<=100)(ho:FH B r'.shut w e w1):e= .returned (zi 0)/\∃r2 s2,jt B r'.shut w r2 w1/\K9 cv tv lo B v D w0 r2 s2 w1/\Good n H r2 s2:=by
 obtain⟨l,o,k,L,f,i,b⟩:=ho;obtain⟨x,y,m,j⟩:=h.fell.mends;obtain⟨t,p,M⟩:=m o;have g:=i.symm.trans M.look;cases g;have a:r'.op<999:=by rw[h.fell.fell.keep.op];omega
 have c:vcb H<|Wp r' k f L:=M.RR h.fell.fell.nx h.fell.fell.gs h.P6 h.on;refine⟨l,Wp r'.shut k f L,V4 f (Xi k r'.d).2.1 L,b,vfo h.l4 h.sz h.own h.wC h.two h.old h.al b rfl<|M.inv f a,⟨⟨c.P6,c.on⟩,M.pot j,?_,?_⟩⟩;show r'.op+1<=n+2;rw[h.fell.fell.keep.op];omega;show(0:Int)<=_;omega
def K9.vey(h:K9 cv tv lo B v D w0 r s w):fV B r.shut:=by
 have k:=h.ok;exact⟨k.m,k.mark,k.cnt,k.op,k.room,k.files,k.few,k.nx,fun x a=>k.own x<|Wy.fP a,fun s e=>by cases e⟩
def K9.cc(h:K9 cv tv lo B v D w0 r s w)(t:jt B r w r.shut w1)(hop:r.op<999):CC bM 16 #[zo B] w1<|FH B r.shut w1:=by
 refine G_ (cv:=cv) (tv:=tv) t.at_ rfl hop h.vey (h.wC.but t.but fun x f=>by have:=h.own x f;have:=h.l4;omega) (fun i=>by have:(qu r.d.L i).length<=60000:=h.inv.inv.jD i;show(qu r.d.L i).length<=_;omega) fun g=>?_;obtain⟨k,L,b,c,e,j,_⟩:=h.inv.reopen g;exact⟨k,L,b,by show(Xi k r.d).1=bL;rw[c],(fun a=>by rw[e]at a;cases a),by omega,by omega⟩
def K9.done(h:K9 cv tv lo B v D w0 r s w)(m:Good n H r s)(t:jt B r w r.shut w1)(hop:r.op<n+3)(I:n<=100)(ho:FH B r.shut w1 e w2):e= .returned (zi 0)/\∃r2 s2,jt B r w r2 w2/\K9 cv tv lo B v D w0 r2 s2 w2/\Good (n+1) H r2 s2:=by
 obtain⟨y,o,k,L,a,f,i⟩:=ho;obtain⟨J,z,j,l,E,F,p,G,q⟩:=h.inv.reopen o;have c:=f.symm.trans j;cases c;have b:k.ep=s.ep:=by
  obtain⟨K,C,R⟩:=h.inv.inv.reopen o;have x:=j.symm.trans R.look;cases x;exact R.ep
 have T:jt B r w (Wp r k a L) w2:=t.trans i;have g:(Wp r k a L).sn=bO (V4 a k L):=by
  show bO (V4 a (Xi k r.d).2.1 L)=_;rw[l]
 refine⟨y,Wp r k a L,V4 a k L,T,h.to T g<|q a<|by omega,⟨m.RR.reopen l,?_,?_,?_⟩⟩;have:=m.pot;unfold U2 at this⊢;rw[aA (show(V4 a k L).P=[]from rfl)];show 2*k.cnt+0<=n+1+2*k.ep;rw[p,b];split at this<;>omega
 show r.op+1<=n+1+2;omega;show(0:Int)<=_;omega
end
end
section
open A
attribute [local go_sem] xe zv
def acC(c:Ac):Za:=#[.int .i64 c.kd,.int .i64 c.N,.int .i64 c.M,.string<|st c.S,.string<|st c.T]
structure Rl(v:Zv)(B:Nat)(al:Zv)(i:Nat)(a:Act):Prop where
 lt:∃g,a=⟨j0 g,[]⟩
 a2:At a 2 v
 a7:At a 7<|zo B
 a8:At a 8 al
 a9:At a 9<|zi i
structure KL(v:Zv)(B:Nat)(al:Zv)(i q:Nat)(e:Int)(a:Act):Prop where
 fr:Rl v B al i a
 a10:At a 10<|zo q
 a11:At a 11<|zi e
section
variable {v al:Zv} {B i q lo:Nat} {e:Int} {D:List Ac} {a:Act} {w:Zy} {r:Sr} {s:Jo} {N M:Int} {S T:Zl} {Po:Exit->Act->Zy->Prop}
def Rl.lit(h:Rl v B al i a):∃g,a=⟨j0 g,[]⟩/\g 2=v/\g 7=zo B/\g 8=al/\g 9=zi i:=by
 obtain⟨g,rfl⟩:=h.lt;exact⟨g,rfl,jf h.a2,jf h.a7,jf h.a8,jf h.a9⟩
def KL.lit(h:KL v B al i q e a):∃g,a=⟨j0 g,[]⟩/\g 2=v/\g 7=zo B/\g 8=al/\g 9=zi i/\g 10=zo q/\g 11=zi e:=by
 obtain⟨g,rfl,b,c,d,f⟩:=h.fr.lit;exact⟨g,rfl,b,c,d,f,jf h.a10,jf h.a11⟩
def K3.fru{l:Zv}{k:Nat}(h:K3 v B i l k al a):Rl v B al i a:=⟨h.lt,h.a2,h.a7,h.a8,h.a9⟩
def vgr(f:Rl v B al i a)(b:AL lo w v D)(m:i<D.length)(n:i<40)(k:Hid<|∀a',Rl v B al i a'->Po .normal a' w):xUt.wp prog Po a w:=by
 obtain⟨g,rfl,c,d,e8,e⟩:=f.lit;obtain⟨l,j,rfl,h,_⟩:=b;have o:(i:Int)<(D.length:Nat):=by omega
 have p:(i:Int)<40:=by omega
 clear f;simp only[j0,c,d,e8,e];clear c d e8 e
 conv=>arg 2;whnf
 go_wp2
 exact k.o _ ⟨j5 rfl,rfl,rfl,rfl,rfl⟩
def vfm(h:Rl v B al i a)(b:AL lo w v D)(n:¬(i<D.length/\i<40))(f:Hid<|∀a',Rl v B al i a'->Po (.exit 0) a' w):xUt.wp prog Po a w:=by
 obtain⟨g,rfl,c,d,e8,e⟩:=h.lit;obtain⟨m,k,rfl,j,_⟩:=b;clear h;simp only[j0,c,d,e8,e];clear c d e8 e
 conv=>arg 2;whnf
 by_cases o:i<D.length
 ·have l:(i:Int)<(D.length:Nat):=by omega
  have p:¬(i:Int)<40:=by omega
  go_wp2
  exact f.o _ ⟨j5 rfl,rfl,rfl,rfl,rfl⟩
 have l:¬(i:Int)<(D.length:Nat):=by omega
 go_wp2
 exact f.o _ ⟨j5 rfl,rfl,rfl,rfl,rfl⟩
def vgd(e:Rl v B al i a)(h:i<1000)(f:Hid<|∀a',Rl v B al (i+1) a'->Po .normal a' w):xUn.wp prog Po a w:=by
 obtain⟨g,rfl,b,c,e8,d⟩:=e.lit;have j:IntKind.i64.wrap ((i:Int)+1)=((i+1:Nat):Int):=by rw[xn];omega
 clear e;simp only[j0,b,c,e8,d];clear b c e8 d
 conv=>arg 2;whnf
 go_wp2
 exact f.o _ ⟨j5 rfl,rfl,rfl,rfl,rfl⟩
def vfk(h:Rl v B al i a)(c:AL lo w v D)(m:i<D.length)(l:Hid<|∀a' w',Rl v B al i a'->At a' 10 (zo w.heap.size)->Nw w w'->w.heap.size<w'.heap.size->xx w' w.heap.size (acC D[i]) 47->Po .normal a' w'):xUh.wp prog Po a w:=by
 obtain⟨g,rfl,d,e,e8,f⟩:=h.lit;obtain⟨o,k,rfl,j,b⟩:=c;obtain⟨y,n,rfl,z,p,q,r,s,t,_⟩:=b i m;generalize D[i]=x at*;have E:(i:Int)<(D.length:Nat):=by omega
 have C:(0:Int)<=(i:Int):=by omega
 clear h b;simp only[j0,d,e,e8,f];clear d e e8 f
 conv=>arg 2;whnf
 go_wp2
 exact l.o _ _ ⟨j5 rfl,rfl,rfl,rfl,rfl⟩ rfl (Nw.alloc _ _) (xx.new _ _ _).lt<|xx.new _ _ _
def vfl(h:Rl v B al i a)(c:At a 10<|zo q)(j:Hid<|∀a',KL v B al i q 0 a'->Po .normal a' w):xUi.wp prog Po a w:=by
 obtain⟨g,rfl,d,e,e8,f⟩:=h.lit;have b:g 10=_:=jf c;clear h c;simp only[j0,d,e,e8,f,b];clear d e e8 f b
 conv=>arg 2;whnf
 go_wp2
 exact j.o _ ⟨⟨j5 rfl,rfl,rfl,rfl,rfl⟩,rfl,rfl⟩
def vfs(o:KL v B al i q 0 a)(hx:xx w q #[zi 1,zi N,zi M,zs S,zs T] 47)(h:Jq w B r)(p:r.sn=bO s)(n:s.P.length<=20)(z:Hid<|∀a' w' e r',KL v B al i q e a'->jt B r w r' w'->r.awaits (Ve S&&iW T) (.put S T) e r'->Po .normal a' w'):swU.wp prog Po a w:=by
 obtain⟨g,rfl,k,l,e8,m,b,c⟩:=o.lit;have D:w.cell? (zq q 0)=bO (zi 1):=hx.cell 0 rfl;have E:w.cell? (zq q 3)=bO (zs S):=hx.cell 3 rfl;have F:w.cell? (zq q 4)=bO (zs T):=hx.cell 4 rfl;have j:=zl (Dv B r S T w h fun t x=>by rw[p]at x;cases x;exact n);clear o hx h p n;simp only[j0,k,l,e8,m,b,c];clear k l e8 m b c
 conv=>arg 2;whnf
 go_wp2
 refine j.o.mono ?_;rintro e w1 ⟨C,r',rfl,f,d⟩;have T1:=zl f;have y:=zl d;clear f d j
 go_wp2
 exact z.o _ _ _ _ ⟨⟨j5 rfl,rfl,rfl,rfl,rfl⟩,rfl,rfl⟩ T1.o y.o
def vfw(o:KL v B al i q 0 a)(hx:xx w q #[zi 2,zi N,zi M,zs S,zs T] 47)(h:Jq w B r)(p:r.sn=bO s)(n:s.P.length<=20)(z:Hid<|∀a' w' e r',KL v B al i q e a'->jt B r w r' w'->r.awaits (Ve S) (.del S) e r'->Po .normal a' w'):swU.wp prog Po a w:=by
 obtain⟨g,rfl,k,l,e8,m,b,c⟩:=o.lit;have D:w.cell? (zq q 0)=bO (zi 2):=hx.cell 0 rfl;have E:w.cell? (zq q 3)=bO (zs S):=hx.cell 3 rfl;have j:=zl (CA B r S w h fun t x=>by rw[p]at x;cases x;exact n);clear o hx h p n;simp only[j0,k,l,e8,m,b,c];clear k l e8 m b c
 conv=>arg 2;whnf
 go_wp2
 refine j.o.mono ?_;rintro e w1 ⟨C,r',rfl,f,d⟩;have T1:=zl f;have y:=zl d;clear f d j
 go_wp2
 exact z.o _ _ _ _ ⟨⟨j5 rfl,rfl,rfl,rfl,rfl⟩,rfl,rfl⟩ T1.o y.o
def vfv{kd:Int}{A:Option Int×Sr}(f:kd=5\/kd=6\/kd=7)(l:KL v B al i q 0 a)(hx:xx w q #[zi kd,zi N,zi M,zs S,zs T] 47)(hw:bE prog 26 #[zo B,zi kd] w<|D5 B r A w)(o:Hid<|∀a' w' e,KL v B al i q e a'->D5 B r A w (.returned<|zi e) w'->Po .normal a' w'):swU.wp prog Po a w:=by
 obtain⟨g,rfl,h,j,e8,k,b,c⟩:=l.lit;have p:w.cell? (zq q 0)=bO (zi kd):=hx.cell 0 rfl;have n:=zl hw;clear l hx hw;simp only[j0,h,j,e8,k,b,c];clear h j e8 k b c
 conv=>arg 2;whnf
 rcases f with rfl|rfl|rfl
 all_goals
  go_wp2
  refine n.o.mono ?_;intro e t d;obtain⟨s,rfl⟩:=D5.val d;have m:=zl d;clear d
  go_wp2
  exact o.o _ _ _ ⟨⟨j5 rfl,rfl,rfl,rfl,rfl⟩,rfl,rfl⟩ m.o
def vfn{kd:Int}(j:kd≠1)(k:kd≠2)(l:kd≠5)(m:kd≠6)(n:kd≠7)(o:kd≠8)(p:kd≠9)(h:KL v B al i q 0 a)(hx:xx w q #[zi kd,zi N,zi M,zs S,zs T] 47)(r:Hid<|∀a',KL v B al i q 0 a'->Po .normal a' w):swU.wp prog Po a w:=by
 obtain⟨g,rfl,d,e,e8,f,b,c⟩:=h.lit;have s:w.cell? (zq q 0)=bO (zi kd):=hx.cell 0 rfl;have t:decide (kd=1)=bK:=by simpa using j
 have x:decide (kd=2)=bK:=by simpa using k
 have y:decide (kd=5)=bK:=by simpa using l
 have z:decide (kd=6)=bK:=by simpa using m
 have C:decide (kd=7)=bK:=by simpa using n
 have D:decide (kd=8)=bK:=by simpa using o
 have E:decide (kd=9)=bK:=by simpa using p
 clear h hx;simp only[j0,d,e,e8,f,b,c];clear d e e8 f b c
 conv=>arg 2;whnf
 go_wp2
 exact r.o _ ⟨⟨j5 rfl,rfl,rfl,rfl,rfl⟩,rfl,rfl⟩
def vge(p:KL v B al i q e a)(h:Jq w B r)(hk:mE r.d.L)(y:Hid<|∀a' w' l,KL v B al i q e a'->At a' 12 l->w'.ownsRow w.heap.size 36 2 l (Xs r.d.L).length (sJ r.d.L<|Xs r.d.L)->Nw w w'->Po .normal a' w'):imU.wp prog Po a w:=by
 obtain⟨g,rfl,m,n,e8,o,b,c⟩:=p.lit;have j:=zl<|kU B r w h hk;clear p h hk;simp only[j0,m,n,e8,o,b,c];clear m n e8 o b c
 conv=>arg 2;whnf
 go_wp2
 refine j.o.mono ?_;rintro e w1 ⟨l,rfl,f,s⟩;have t:=zl f;have x:=zl s;obtain⟨z,k,rfl,_⟩:=Jh f;clear f s j
 go_wp2
 exact y.o _ _ _ ⟨⟨j5 rfl,rfl,rfl,rfl,rfl⟩,rfl,rfl⟩ rfl t.o x.o
def vgn{l:Zv}(m:KL v B al i q e a)(f:At a 12 l)(n:Hid<|∀a',K3 v B i l 0 al a'->Po .normal a' w):kaU.wp prog Po a w:=by
 obtain⟨g,rfl,h,j,e8,k,b,c⟩:=m.lit;have d:g 12=_:=jf f;clear m f;simp only[j0,h,j,e8,k,b,c,d];clear h j e8 k b c d
 conv=>arg 2;whnf
 go_wp2
 exact n.o _ ⟨j5 rfl,rfl,rfl,rfl,rfl,rfl,rfl⟩
end
end
section
open A
variable [pn:A.Pn]
attribute [local go_sem] xe zv
noncomputable def swA:=Qa swU
noncomputable def sw1:=Qa<|Qk<|Qb swU
noncomputable def sx1:=Qc<|Qb<|Qk<|Qb swU
noncomputable def MZ:=Qd<|Qb<|Qk<|Qb swU
noncomputable def sw2:=Qa MZ
noncomputable def sx2:=Qc<|Qb MZ
noncomputable def sz2:=Qd<|Qb MZ
noncomputable def sw3:=Qa sz2
noncomputable def sx3:=Qc<|Qb sz2
noncomputable def sz3:=Qd<|Qb sz2
noncomputable def sw4:=Qa sz3
noncomputable def rpC:=Qc<|Qb sz3
noncomputable def sz4:=Qd<|Qb sz3
noncomputable def rpA:=Qa rpC
noncomputable def rpO:=Qb rpC
noncomputable def sw5:=Qa sz4
def vej:swU= .seq swA (.block 2<|.seq sw1<|.cond (.tmp 42) sx1<|.seq sw2<|.cond (.tmp 50) sx2<|.seq sw3<|.cond (.tmp 56) sx3<|.seq sw4<|.cond (.tmp 64) (.seq rpA rpO) sz4):=by kernel_rfl
section
variable {cv tv:Zv} {lo B i q n:Nat} {v al:Zv} {D:List Ac} {w0 w:Zy} {a:Act} {r r':Sr} {s:Jo} {N M:Int} {S T:Zl} {Q:Exit->Act->Zy->Prop} {H:List<|Zl}
def vdq(hQ:kT Q)(ha:KL v B al i q 0 a)(hx:xx w q #[zi 8,zi N,zi M,zs S,zs T] 47)(h:K9 cv tv lo B v D w0 r s w)(hg:Good n H r s)(hn:n<=100)
  {pk:Option Addr}{nk ck:Nat}(U:al= .slice pk nk ck)
  (hN:∀a' w' r2 s2,KL v B al i q 0 a'->jt B r w r2 w'->K9 cv tv lo B v D w0 r2 s2 w'->Good (n+1) H r2 s2->Q .normal a' w'):Xn bM 7 swU Q a w:=by
 subst U;obtain⟨g,rfl,Z,e7,e8,e9,d,f⟩:=ha.lit;have c:=zl hQ;have HX:=zl hx;have W:=zl h;have HN:=zl hN;clear ha hx h hN hQ;simp only[j0,Z,e7,e8,e9,d,f];clear Z e7 e8 e9 d f;rw[vej];refine gG hV c.o fun v0 bb j l I=>?_;have c0:v0.cell? (zq q 0)=bO (zi 8):=(HX.o.nw<|ji j).cell 0 rfl;have M0:Hid<|Nw w v0:=ji j;clear I
 conv=>arg 2;whnf
 go_wp2
 refine l.o _ _ ?_;clear l c0;refine Xn.block bQ hV ?_;refine gG hV (Vz c.o) fun v1 bc C m J=>?_;have M1:Hid<|Nw w v1:=M0.o.trans<|ji C;clear J
 conv=>arg 2;whnf
 go_wp2
 refine m.o _ _ ?_;clear m;refine Xn.cond bQ hV rfl ?_;simp only[xu,if_false];refine gG hV (Vz c.o) fun v2 bd E o K=>?_;have M2:Hid<|Nw w v2:=M1.o.trans<|ji E;clear K
 conv=>arg 2;whnf
 go_wp2
 refine o.o _ _ ?_;clear o;refine Xn.cond bQ hV rfl ?_;simp only[xu,if_false];refine gG hV (Vz c.o) fun v3 be F p L=>?_;have M3:Hid<|Nw w v3:=M2.o.trans<|ji F;clear L
 conv=>arg 2;whnf
 go_wp2
 refine p.o _ _ ?_;clear p;refine Xn.cond bQ hV rfl ?_;simp only[xu,if_false];refine gG hV (Vz c.o) fun v4 bf G t O=>?_;have X:Hid<|Nw w v4:=M3.o.trans<|ji G;clear O
 conv=>arg 2;whnf
 go_wp2
 refine t.o _ _ ?_;clear t;refine Xn.cond bQ hV rfl ?_;simp only[if_true];refine gG hV (Vz c.o) fun v5 bg k x R=>?_;have z:=zl<|W.o.nw<|X.o.trans<|ji k;have M5:Hid<|Nw w v5:=X.o.trans<|ji k;clear R
 conv=>arg 2;whnf
 go_wp2
 refine(x_ B r _ z.o.st).mono ?_;rintro e w8 ⟨rfl,y⟩;have Y:=zl y;rw[show(if r.sn.isSome then(0:Int)else 5)=0 by rw[z.o.sn];rfl];clear y
 go_wp2
 refine x.o _ _ ?_;clear x;have ba:=hg.op;have b:=z.o.cc Y.o<|by omega
 conv=>arg 3;whnf
 refine Xn.dB bQ hV ?_;refine mZ (val:=zo B) hV ⟨rfl,rfl⟩ ?_;refine Jc.call bQ hV rfl rfl (fun v=>by show(bG _ _).run prog _=_;simp[bG,go_sem,resolve,Act.put]) (bZ rfl Tryz.func16 rfl) b ?_ ?_;rotate_left;rintro ch w9 ⟨V,_⟩;cases V;rintro v9 w9 ho;obtain⟨V,r2,s2,t2,p2,g2⟩:=z.o.done hg Y.o (by omega) hn ho;cases V;refine mZ (val:=zi 0) hV ⟨rfl,rfl⟩ ?_;refine Jc.nil bQ hV ?_;simp only[Act.put,xv,Zz,Z9];exact HN.o _ _ r2 s2 ⟨⟨j5 rfl,rfl,rfl,rfl,rfl⟩,rfl,rfl⟩ ((jt.nw W.o.st M5.o).trans t2) p2 g2
end
end
section
open A
def B8(c:Int)(n:Nat):Nat:=if c<0 then(-(c+1)).toNat%n else c.toNat%n
def vch(c:Int){n:Nat}(a:0<n):B8 c n<n:=by
 unfold B8;split<;>exact Nat.mod_lt _ a
def vdg(c:Int)(n:Nat)(i:0<n)(f:n<=100000)(g:-9223372036854775808<=c)(h:c<=9223372036854775807)(w:Zy):
  bE prog 14 #[zi c,zi n] w fun en w'=>en= .returned (zi (B8 c n:Nat))/\w'=w:=by
 by_cases d:c<0
 ·have e:-((c+1).tmod (n:Int))=((B8 c n:Nat):Int):=by
   unfold B8;obtain⟨m,b⟩:∃m:Nat,-(c+1)=m:=⟨(-(c+1)).toNat,by omega⟩;rw[aA d,b,Wt,show c+1= -(m:Int) by omega,Int.neg_tmod,Int.neg_neg,Js<|by omega];rfl
  have a:=zl e;clear e;go_enter func14.1,Tryz.ntmps14
  go_wp2
  go_ret
  exact⟨congrArg (fun z:Int=>Ending.returned<|zi z) a.o,rfl⟩
 have e:c%(n:Int)=((B8 c n:Nat):Int):=by
  unfold B8;obtain⟨m,b⟩:∃m:Nat,c=m:=⟨c.toNat,by omega⟩;rw[aB d,b,Wt];rfl
 have a:=zl e;clear e;go_enter func14.1,Tryz.ntmps14
 go_wp2
 go_ret
 exact⟨congrArg (fun z:Int=>Ending.returned<|zi z) a.o,rfl⟩
variable [pn:A.Pn]
attribute [local go_sem] xe zv
noncomputable def ops23:Array Oper:=match sz4 with
 | .seq _ (.cond _ (.region _ x _) _)=>x
 |_=>#[]
def vfx:sz4= .seq sw5 (.cond (.tmp 70) (.region 23 ops23 bL) .skip):=by kernel_rfl
def veg:ops23=#[⟨bO 72,.move<|.tmp 7,23,"stores.go:538",#[],bN⟩,⟨bO 73,.fieldAddr 47 (.tmp 10) 1,0,"stores.go:538",#[],bN⟩,⟨bO 74,.load 3<|.tmp 73,3,"stores.go:538",#[⟨1,.data⟩],bN⟩,⟨bO 75,.call ⟨.value<|.func 14,#[.tmp 74,.const<|zi 8],#[3,3]⟩,3,"stores.go:538",#[⟨2,.data⟩],bN⟩,⟨bO 76,.fieldAddr 47 (.tmp 10) 2,0,"stores.go:538",#[],bN⟩,⟨bO 77,.load 3<|.tmp 76,3,"stores.go:538",#[⟨4,.data⟩],bN⟩,⟨bO 78,.call ⟨.value<|.func 14,#[.tmp 77,.const<|zi 200],#[3,3]⟩,3,"stores.go:538",#[⟨5,.data⟩,⟨3,.chain⟩],bN⟩,⟨bO 79,.call ⟨.value<|.func 27,#[.tmp 72,.tmp 75,.tmp 78],#[23,3,3]⟩,30,"stores.go:538",#[⟨0,.data⟩,⟨3,.data⟩,⟨6,.data⟩,⟨6,.chain⟩],bN⟩]:=by kernel_rfl
def ord23:TG ops23=bL:=by kernel_rfl
def size23:ops23.size=8:=by kernel_rfl
section
variable {cv tv:Zv} {lo B n0 q n:Nat} {v al:Zv} {D:List Ac} {w0 w w1:Zy} {a:Act} {r r':Sr} {s:Jo} {N M:Int} {S T:Zl} {Q:Exit->Act->Zy->Prop} {l:Array Bool} {H:List<|Zl} {Po:Exit->Act->Zy->Prop}
def KL.put{e:Int}(h:KL v B al n0 q e a){t:Nat}(l:15<t)(u:Zv):KL v B al n0 q e<|a.put (bO t) u:=by
 obtain⟨⟨⟨g,d⟩,f,i,j,k⟩,b,c⟩:=h;refine⟨⟨?_,f.put (by omega) _,i.put (by omega) _,j.put (by omega) _,k.put (by omega) _⟩,b.put (by omega) _,c.put (by omega) _⟩;subst d;exact j5<|by simp[j0]
def KL.sz{e:Int}(h:KL v B al n0 q e a):a.tmps.size=184/\a.defers=[]:=by
 obtain⟨g,b⟩:=h.fr.lt;subst b;exact⟨by simp[j0],rfl⟩
def vck{x y:Zy}{t:Nat->Question->Nat}{d:Nat}(h:kE x<|re y t d):kE x y:=by
 obtain⟨c,b,a⟩:=h;exact⟨y.tape,y.drawn,by have:=congrArg (fun z=>re z y.tape y.drawn) a;simpa[vK,KX]using this⟩
structure J23(v:Zv)(B:Nat)(al:Zv)(n0 q:Nat)(r:Sr)(N M:Int)(S T:Zl)(w:Zy)(l:Array Bool)(a:Act)(w1:Zy):Prop where
 fr:KL v B al n0 q 0 a
 n7:¬l[7]?=bO bL->Nw w w1
 l7:Li l 7<|∃b,jt B r w (r.arm b (B8 N 8:Nat) (B8 M 200:Nat)) w1
 X:xx w1 q #[zi 9,zi N,zi M,zs S,zs T] 47
 T:Tb [(0,72,zo B),(1,73,zk q 1),(2,74,zi N),(3,75,zi (B8 N 8:Nat)),(4,76,zk q 2),(5,77,zi M),(6,78,zi (B8 M 200:Nat))] l a
def J23.mv(J:J23 v B al n0 q r N M S T w l a w1){i t:Nat}{u:Zv}(d:i<7)(e:t=i+72)(c:∀x∈[(0,72,zo B),(1,73,zk q 1),(2,74,zi N),(3,75,zi (B8 N 8:Nat)),(4,76,zk q 2),(5,77,zi M),(6,78,zi (B8 M 200:Nat))],(x.2.1≠t/\x.1≠i)\/x=(i,t,u)):J23 v B al n0 q r N M S T w (l.setIfInBounds i bL) (a.put (bO t) u) w1:=
 ⟨J.fr.put (by omega) _,fun h=>J.n7 fun b=>h<|Vo b,J.l7.next (by omega) id,J.X,J.T.put J.fr.sz.1 (by omega) c⟩
def J23.eqv{c:Zy}(J:J23 v B al n0 q r N M S T w l a w1)(e:kE w1 c):J23 v B al n0 q r N M S T w l a c:=by
 have n:=ji e;exact⟨J.fr,fun h=>(J.n7 h).trans n,fun h=>(J.l7 h).imp fun b x=>x.trans<|jt.nw x.at_ n,J.X.nw n,J.T⟩
def vfu(K:KL v B al n0 q 0 a)(hx:xx w q #[zi 9,zi N,zi M,zs S,zs T] 47)(h:Jq w B r)(U:¬r.own B q)(m:i64 N/\i64 M)
  (I:∀a' w' b x y,x<8->y<200->KL v B al n0 q 0 a'->jt B r w (r.arm b (x:Nat) (y:Nat)) w'->Q .normal a' w'):Xn bM 7 (.region 23 ops23 bL) Q a w:=by
 refine Xn.inv bQ hV (by kernel_rfl) ord23 (J23 v B al n0 q r N M S T w) ⟨K,fun _=>xb.refl _ _,Li.none,hx,Tb.none⟩ (fun l a w1 J E=>?_) ?_;obtain⟨b,L⟩:=J.l7 (E 7<|by rw[size23];decide);exact I a w1 b _ _ (vch _<|by decide) (vch _<|by decide) J.fr L;intro l a w1 i o J V c E hd;have g:=c;rw[veg]at c;have a7:a.tmps[7]?=bO _:=J.fr.fr.a7;have s:a.tmps[10]?=bO _:=J.fr.a10
 match i,c with
 |0,c=>
  obtain rfl:=jf c;refine oX.value (val:=zo B) (w':=w1) bQ hV g rfl (fun t j=>⟨t,j,?_⟩) (J.mv (by decide) rfl<|by simp);show(bG a.eval _).run prog (re w1 t j)=_;simp[bG,go_sem,a7]
 |1,c=>
  obtain rfl:=jf c;refine oX.value (val:=zk q 1) (w':=w1) bQ hV g rfl (fun t j=>⟨t,j,?_⟩) (J.mv (by decide) rfl<|by simp);show(bG a.eval _).run prog (re w1 t j)=_;simp[bG,go_sem,s]
 |2,c=>
  obtain rfl:=jf c;have e0:a.tmps[73]?=bO _:=J.T (1,73,zk q 1) (by simp)<|hd ⟨1,.data⟩ (by simp) rfl;refine oX.value (val:=zi N) (w':=w1) bQ hV g rfl (fun t j=>⟨t,j,?_⟩) (J.mv (by decide) rfl<|by simp);show(bG a.eval _).run prog (re w1 t j)=_;have D:(re w1 t j).cell? (zq q 1)=bO (zi N):=J.X.cell 1 rfl;simp[bG,go_sem,e0,D]
 |3,c=>
  obtain rfl:=jf c;have e0:a.tmps[74]?=bO _:=J.T (2,74,zi N) (by simp)<|hd ⟨2,.data⟩ (by simp) rfl;refine oX.call (R:=fun e w'=>e= .returned (zi (B8 N 8:Nat))/\kE w1 w') bQ hV J.fr.sz.2 g rfl (f:=14) (args:=#[zi N,zi 8]) (fun v=>?_) (bZ rfl Tryz.func14 rfl) (UM rfl (by decide) Tryz.func14 rfl (fun e w t d h=>⟨h.1,vck h.2⟩) (fun w' h=>by cases h.1) fun t d=>(vdg N 8 (by decide) (by decide) m.1.1 m.1.2<|re w1 t d).mono fun e w' h=>⟨h.1,by rw[h.2];exact⟨t,d,rfl⟩⟩) ?_ ?_
  ·show(bG a.eval _).run prog v=_
   simp[bG,go_sem,resolve,e0]
  rintro v C ⟨e,p⟩;cases e;exact(J.eqv p).mv (by decide) rfl (by simp);rintro ch C ⟨e,p⟩;cases e
 |4,c=>
  obtain rfl:=jf c;refine oX.value (val:=zk q 2) (w':=w1) bQ hV g rfl (fun t j=>⟨t,j,?_⟩) (J.mv (by decide) rfl<|by simp);show(bG a.eval _).run prog (re w1 t j)=_;simp[bG,go_sem,s]
 |5,c=>
  obtain rfl:=jf c;have e0:a.tmps[76]?=bO _:=J.T (4,76,zk q 2) (by simp)<|hd ⟨4,.data⟩ (by simp) rfl;refine oX.value (val:=zi M) (w':=w1) bQ hV g rfl (fun t j=>⟨t,j,?_⟩) (J.mv (by decide) rfl<|by simp);show(bG a.eval _).run prog (re w1 t j)=_;have D:(re w1 t j).cell? (zq q 2)=bO (zi M):=J.X.cell 2 rfl;simp[bG,go_sem,e0,D]
 |6,c=>
  obtain rfl:=jf c;have e0:a.tmps[77]?=bO _:=J.T (5,77,zi M) (by simp)<|hd ⟨5,.data⟩ (by simp) rfl;refine oX.call (R:=fun e w'=>e= .returned (zi (B8 M 200:Nat))/\kE w1 w') bQ hV J.fr.sz.2 g rfl (f:=14) (args:=#[zi M,zi 200]) (fun v=>?_) (bZ rfl Tryz.func14 rfl) (UM rfl (by decide) Tryz.func14 rfl (fun e w t d h=>⟨h.1,vck h.2⟩) (fun w' h=>by cases h.1) fun t d=>(vdg M 200 (by decide) (by decide) m.2.1 m.2.2<|re w1 t d).mono fun e w' h=>⟨h.1,by rw[h.2];exact⟨t,d,rfl⟩⟩) ?_ ?_
  ·show(bG a.eval _).run prog v=_
   simp[bG,go_sem,resolve,e0]
  rintro v C ⟨e,p⟩;cases e;exact(J.eqv p).mv (by decide) rfl (by simp);rintro ch C ⟨e,p⟩;cases e
 |7,c=>
  obtain rfl:=jf c;have e0:a.tmps[72]?=bO _:=J.T (0,72,zo B) (by simp)<|hd ⟨0,.data⟩ (by simp) rfl;have G:a.tmps[75]?=bO _:=J.T (3,75,zi (B8 N 8:Nat)) (by simp)<|hd ⟨3,.data⟩ (by simp) rfl;have H:a.tmps[78]?=bO _:=J.T (6,78,zi (B8 M 200:Nat)) (by simp)<|hd ⟨6,.data⟩ (by simp) rfl;have n1:=J.n7 (by rw[E];simp);refine oX.call (R:=fun e w'=>e= .returned (zi 0)/\∃b,jt B r w1 (r.arm b (B8 N 8:Nat) (B8 M 200:Nat)) w') bQ hV J.fr.sz.2 g rfl (f:=27) (args:=#[zo B,zi (B8 N 8:Nat),zi (B8 M 200:Nat)]) (fun v=>?_) (bZ rfl Tryz.func27 rfl) (UM rfl (by decide) Tryz.func27 rfl (fun e w t d h=>⟨h.1,h.2.imp fun b x=>x.re⟩) (fun w' h=>by cases h.1) fun t d=>(ved B r (B8 N 8) (B8 M 200) (re w1 t d)<|(h.nw n1).nw<|Nw.gL (xb.refl _ _) t d).mono fun e w' F=>⟨F.1,F.2.imp fun b x=>(jt.nw (h.nw n1)<|Nw.gL (xb.refl _ _) t d).trans x⟩) ?_ ?_
  ·show(bG a.eval _).run prog v=_
   simp[bG,go_sem,resolve,e0,G,H]
  ·rintro v C ⟨e,b,z⟩
   cases e;refine⟨J.fr.put (by decide) _,fun O=>absurd (cT (n:=8) (by rw[V,size23])<|by decide) O,.now ⟨b,(jt.nw h n1).trans z⟩,J.X.but z.but U,fun x k=>(J.T x k).next ?_ fun y=>y.put ?_ _⟩;simp only[xf,Vy,or_false]at k;rcases k with rfl|rfl|rfl|rfl|rfl|rfl|rfl<;>simp
   simp only[xf,Vy,or_false]at k;rcases k with rfl|rfl|rfl|rfl|rfl|rfl|rfl<;>simp
  rintro ch C ⟨e,p⟩;cases e
 |i+8,c=>simp at c
def veq(Y:kT Q)(Z:KL v B al n0 q 0 a)(hx:xx w q #[zi 9,zi N,zi M,zs S,zs T] 47)(h:Jq w B r)(hq:¬r.own B q)(D:i64 N/\i64 M)
  (X:∀a' w' b x y,x<8->y<200->KL v B al n0 q 0 a'->jt B r w (r.arm b (x:Nat) (y:Nat)) w'->Q .normal a' w'):Xn bM 7 swU Q a w:=by
 obtain⟨g,rfl,U,V,e8,W,d,e⟩:=Z.lit;have c:=zl Y;have R:=zl hx;have O:=zl h;have HN:=zl X;clear Z hx h X Y;simp only[j0,U,V,e8,W,d,e];clear U V e8 W d e;rw[vej];refine gG hV c.o fun v0 ba f i E=>?_;have c0:v0.cell? (zq q 0)=bO (zi 9):=(R.o.nw<|ji f).cell 0 rfl;have M0:Hid<|Nw w v0:=ji f;clear E
 conv=>arg 2;whnf
 go_wp2
 refine i.o _ _ ?_;clear i c0;refine Xn.block bQ hV ?_;refine gG hV (Vz c.o) fun v1 bb p j F=>?_;have M1:Hid<|Nw w v1:=M0.o.trans<|ji p;clear F
 conv=>arg 2;whnf
 go_wp2
 refine j.o _ _ ?_;clear j;refine Xn.cond bQ hV rfl ?_;simp only[xu,if_false];refine gG hV (Vz c.o) fun v2 bc s k G=>?_;have M2:Hid<|Nw w v2:=M1.o.trans<|ji s;clear G
 conv=>arg 2;whnf
 go_wp2
 refine k.o _ _ ?_;clear k;refine Xn.cond bQ hV rfl ?_;simp only[xu,if_false];refine gG hV (Vz c.o) fun v3 bd t l H=>?_;have M3:Hid<|Nw w v3:=M2.o.trans<|ji t;clear H
 conv=>arg 2;whnf
 go_wp2
 refine l.o _ _ ?_;clear l;refine Xn.cond bQ hV rfl ?_;simp only[xu,if_false];refine gG hV (Vz c.o) fun v4 be z m I=>?_;have M4:Hid<|Nw w v4:=M3.o.trans<|ji z;clear I
 conv=>arg 2;whnf
 go_wp2
 refine m.o _ _ ?_;clear m;refine Xn.cond bQ hV rfl ?_;simp only[xu,if_false];rw[vfx];refine gG hV (Vz c.o) fun v5 bf C n J=>?_;have o:Hid<|Nw w v5:=M4.o.trans<|ji C;clear J
 conv=>arg 2;whnf
 go_wp2
 refine n.o _ _ ?_;clear n;refine Xn.cond bQ hV rfl ?_;simp only[if_true];refine vfu ⟨⟨j5 rfl,rfl,rfl,rfl,rfl⟩,rfl,rfl⟩ (R.o.nw o.o) (O.o.nw o.o) hq D fun a' w' b x y hx hy K L=>?_;exact HN.o a' w' b x y hx hy K<|(jt.nw O.o o.o).trans L
noncomputable def rtT:=Qa rtU
noncomputable def rtO:=Qc<|Qb rtU
def vfp:rtU= .seq rtT (.cond (.tmp 81) rtO .skip):=by kernel_rfl
def vfh{e:Int}(i:KL v B al n0 q e a)(j:e≠12)(k:Hid<|∀a',KL v B al n0 q e a'->Po .normal a' w):rtU.wp prog Po a w:=by
 obtain⟨g,rfl,d,f,e8,h,b,c⟩:=i.lit;have l:decide (e=12)=bK:=by simpa using j
 have m:(e==12)=bK:=by simpa using j
 clear i;simp only[j0,d,f,e8,h,b,c];clear d f e8 h b c
 conv=>arg 2;whnf
 go_wp2
 exact k.o _ ⟨⟨j5 rfl,rfl,rfl,rfl,rfl⟩,rfl,rfl⟩
def vev(p:kT Q)(t:KL v B al n0 q 12 a)(h:U3 cv tv lo B v D w0 n H r s r' w)(hop:r.op<n+2)(F:n<=100)
  (o:∀a' w' r2 s2,KL v B al n0 q 12 a'->jt B r'.shut w r2 w'->K9 cv tv lo B v D w0 r2 s2 w'->Good n H r2 s2->Q .normal a' w'):Xn bM 7 rtU Q a w:=by
 obtain⟨g,rfl,j,k,e8,l,b,c⟩:=t.lit;have y:=zl p;have x:=zl o;clear t o p;simp only[j0,j,k,e8,l,b,c];clear j k e8 l b c;rw[vfp];refine gG hV y.o fun K C d e f=>?_;have m:=h.nw<|ji d;have z:Hid<|Nw w K:=ji d;clear f
 conv=>arg 2;whnf
 go_wp2
 refine e.o _ _ ?_;clear e;refine Xn.cond bQ hV rfl ?_;simp only[if_true]
 conv=>arg 3;whnf
 refine Xn.dB bQ hV ?_;refine mZ (val:=zo B) hV ⟨rfl,rfl⟩ ?_;refine Jc.call bQ hV rfl rfl (fun v=>by show(bG _ _).run prog _=_;simp[bG,go_sem,resolve,Act.put]) (bZ rfl Tryz.func16 rfl) (m.cc<|by omega) ?_ ?_;rotate_left;rintro ch L ⟨i,_⟩;cases i;rintro M L G;obtain⟨i,r2,s2,J,I,E⟩:=m.done hop F G;cases i;refine Jc.nil bQ hV ?_;simp only[Act.put,xv,Zz,Z9];exact x.o _ _ r2 s2 ⟨⟨j5 rfl,rfl,rfl,rfl,rfl⟩,rfl,rfl⟩ ((jt.nw h.st z.o).trans J) I E
end
end
section
open A
def j6.vdd{r r':Sr}{s:Jo}{g:Bool}{c:dM}{e:Int}(C:j6 r s)(a:r.sn=bO s)(h:r.awaits g c e r')(b:g=bL->mF c):∃s',r'.sn=bO s'/\j6 r' s'/\e≠12/\s'.ep=s.ep/\s'.bP=s.bP/\r'.cnt=r.cnt/\r'.op=r.op/\r'.d=r.d:=by
 obtain⟨s',i,j,l,m,n,o,p,q,f⟩:=C.awaits a h b;unfold Sr.awaits at h;rw[a]at h;simp only at h;split at h;obtain⟨rfl,rfl⟩:=h;rw[f<|by decide]at*;exact⟨s,a,C,by decide,rfl,rfl,rfl,rfl,rfl⟩;split at h;obtain⟨rfl,rfl⟩:=h;rw[f<|by decide]at*;exact⟨s,a,C,by decide,rfl,rfl,rfl,rfl,rfl⟩;obtain⟨rfl,k,rfl⟩:=h;have:s'=s.more k c:=(jf i).symm;subst this;exact⟨_,rfl,j,by decide,rfl,rfl,rfl,rfl,rfl⟩
def D4.len8{H:List Zl}{o c:Nat}(h:D4 H o c):∀x∈H,8<=x.length:=fun x b=>by
 obtain⟨e,d,a,_⟩:=h.old x b;have:=congrArg List.length a.2.2;rw[xt,jb,zj,qt,qt]at this;omega
variable [pn:A.Pn]
structure AlU(H:List Zl)(lo B:Nat)(r:Sr)(al:Zv)(n:Nat)(w:Zy):Prop where
 ex:∃A:List Zl,w.ownsRow lo 9 1 al A.length (A.map iU)/\(∀x∈A,x∈H)/\A.length<=n
 ap:∀b,al.ownBlock=bO b->¬r.own B b
section
variable {cv tv:Zv} {lo B i q n:Nat} {v al:Zv} {D:List Ac} {w0 w w':Zy} {a:Act} {r r':Sr} {s s':Jo} {Q:Exit->Act->Zy->Prop} {H H':List<|Zl}
def AlU.lt(h:AlU H lo B r al n w){b:Nat}(c:al.ownBlock=bO b):lo<=b/\b<w.heap.size:=by
 obtain⟨A,a,_⟩:=h.ex;exact a.lt b c
def AlU.nw(h:AlU H lo B r al n w)(k:Nw w w'):AlU H lo B r al n w':=by
 obtain⟨A,a,b⟩:=h.ex;exact⟨⟨A,IL a k fun _ _ x=>x,b⟩,h.ap⟩
def AlU.to(h:AlU H lo B r al n w)(t:jt B r w r' w'):AlU H lo B r' al n w':=by
 obtain⟨A,c,d⟩:=h.ex;refine⟨⟨A,IL c t.but h.ap,d⟩,fun b a f=>?_⟩;rcases t.own b f with e|e
 exact h.ap b a e;have:=(h.lt a).2;omega
def AlU.more(h:AlU H lo B r al n w)(k:∀x∈H,x∈H'):AlU H' lo B r al n w:=by
 obtain⟨A,a,b,c⟩:=h.ex;exact⟨⟨A,a,fun x d=>k x<|b x d,c⟩,h.ap⟩
def AlU.shape(h:AlU H lo B r al n w):∃pk nk ck,al= .slice pk nk ck:=by
 obtain⟨A,b,_⟩:=h.ex;obtain⟨a,c,e,_⟩:=Jh b;exact⟨a,_,c,e⟩
def K9.but{S:ZP}(h:K9 cv tv lo B v D w0 r s w)(b:xb S w w')(c:∀x,S x->lo<=x/\¬r.own B x):K9 cv tv lo B v D w0 r s w':=by
 have l4:=h.l4;exact⟨h.st.but b fun x a d=>(c x d).2 a,h.sn,h.inv,h.own,h.l4,h.sz,h.wC.but b fun x a=>by have:=(c x a).1;omega,h.two.but b fun x a=>(c x a).1,h.old.trans<|b.mono fun x a=>(c x a).1,h.al.but<|b.mono fun x a=>(c x a).1⟩
structure LpU(cv tv:Zv)(lo B:Nat)(v:Zv)(D:List Ac)(w0:Zy)(al:Zv)(i:Nat)(w:Zy):Prop where
 ex:∃r s H,K9 cv tv lo B v D w0 r s w/\Good i H r s/\AlU H lo B r al (i*100000000) w
 i1:i<=D.length
 i2:i<=40
def LpU.nw(h:LpU cv tv lo B v D w0 al i w)(k:Nw w w'):LpU cv tv lo B v D w0 al i w':=by
 obtain⟨r,s,H,a,b,c⟩:=h.ex;exact⟨⟨r,s,H,a.nw k,b,c.nw k⟩,h.i1,h.i2⟩
def vde{e:Int}(K:kT Q)(ha:KL v B al i q e a)(h:K9 cv tv lo B v D w0 r s w)(t:Good (i+1) H r s)(O:AlU H lo B r al (i*100000000) w)(h1:i<D.length)(h2:i<40)
  (hN:∀a' w' al',Rl v B al' i a'->LpU cv tv lo B v D w0 al' (i+1) w'->Q .normal a' w'):Xn bM 7 (.seq imU<|.seq kaU<|.block 3<|.loop klU) Q a w:=by
 have I:=h.inv.inv;refine gG hV K fun w1 ba f g M=>vge ha (h.nw<|ji f).st h.ok.files fun a2 w2 l R E c n2=>g.o _ _ ?_;have n1:=ji f;have C1:=h.nw n1;have C2:=C1.nw n2;have W:=O.nw n1;have A2:=W.nw n2;clear g M;refine gG hV K fun z bb J j N=>vgn R E fun a3 S=>j.o _ _ ?_;have y:=ji J;have o:=C2.nw y;have n:=A2.nw y;clear j N;obtain⟨A,o3,F,G⟩:=n.ex;have U:lo<=z.heap.size:=xz o.sz o.old.size;have S3:Seen H lo al z al (i*100000000) z:=⟨⟨A,o3,F,G⟩,xb.refl _ _,fun _ x=> .inl x,U⟩;have Y:r.d.L.length<=r.cnt+2:=I.few;have X:r.cnt<=40:=I.cnt;have k:(Xs r.d.L).length<=1000:=by
  have:(Xs r.d.L).length=(r.d.L.map (·.1)).length:=(Xw _ _).length_eq;rw[this,Zb];omega
 have i3:Img z l r.d.L<|Xs r.d.L:=(Img.of c).but y fun _ _ x=>x;refine vef K S S3 i3 (fun b p=>⟨zn (c.lt b p).2 y.size,fun e=>?_⟩) t.RR.on (fun x=>by have:(qu r.d.L x).length<=60000:=I.jD x;omega) k t.RR.P6.len8 (by omega) t.RR.P6.uniq fun a4 w4 C T V=>?_;have Z:=(c.lt b p).1;have k2:=(W.lt e).2;omega;have hS:∀x,al.ownBlock=bO x->lo<=x/\¬r.own B x:=fun x m=>⟨(n.lt m).1,n.ap x m⟩;refine hN a4 w4 C T.fru ⟨⟨r,s,H,o.but V.but hS,t,⟨?_,fun b p m=>?_⟩⟩,by omega,by omega⟩;obtain⟨A',Z,k2,k3⟩:=V.ex;exact⟨A',Z,k2,by rw[Nat.add_mul];omega⟩;rcases V.blk b p with e|e
 exact n.ap b e m;have:=Sr.bX o.st m;omega
def vfb(J:kT Q)(ha:Rl v B al i a)(h:LpU cv tv lo B v D w0 al i w)(h1:i<D.length)(h2:i<40)
  (hN:∀a' w' al',Rl v B al' i a'->LpU cv tv lo B v D w0 al' (i+1) w'->Q .normal a' w'):Xn bM 7 mdU Q a w:=by
 obtain⟨r,s,H,M,C,hA⟩:=h.ex;rw[vga];refine gG hV J fun w1 bv X bd bl=>vfk ha (M.nw<|ji X).al h1 fun a2 w2 bn bi bq b0 O=>bd.o _ _ ?_;have bs:¬r.own B w1.heap.size:=fun hx=>by have:=Sr.bX (M.nw<|ji X).st hx;omega
 have Z:=M.al.bnd i h1;generalize D[i]=x at O Z;generalize w1.heap.size=q at*;have n2:=(ji X).trans bq;refine gG hV J fun w3 bw bb be bm=>vfl bn bi fun a3 F=>be.o _ _ ?_;have n3:=n2.trans<|ji bb;have G:=M.nw n3;have A3:=hA.nw n3;have W:=O.nw<|ji bb;clear bd bl be bm;have bf:=J.dV (P:=bM) (fn:=7) (y:= .seq rtU (.seq imU<|.seq kaU<|.block 3<|.loop klU));have bk:=J.dV (P:=bM) (fn:=7) (y:= .seq imU (.seq kaU<|.block 3<|.loop klU));have fin:∀a4 o e g s3 H3,e≠12->KL v B al i q e a4->K9 cv tv lo B v D w0 g s3 o->Good (i+1) H3 g s3->AlU H3 lo B g al (i*100000000) o->Xn bM 7 (.seq rtU<|.seq imU<|.seq kaU<|.block 3<|.loop klU) Q a4 o:=fun a4 o e g s3 H3 he bo c4 g4 l4=>by
  refine gG hV J fun p bx bc bj bz=>vfh bo he fun f bp=>bj.o _ _ ?_;exact vde J bp (c4.nw<|ji bc) g4 (l4.nw<|ji bc) h1 h2 hN
 have I:=M.inv.inv;have N:=I.P20;have b1:=C.op;have b3:=C.sh;have b2:=C.pot.cx M.inv;obtain⟨kd,xN,xM,xS,xT⟩:=x;simp only[acC]at W Z;have ba:∀(o p:Zy) (ok:Bool) (c:dM) (e:Int) (g:Sr) (f:Act),(ok=bL->mF c)->Nw w3 o->KL v B al i q e f->jt B r o g p->r.awaits ok c e g->Xn bM 7 (.seq rtU<|.seq imU<|.seq kaU<|.block 3<|.loop klU) Q f p:=fun o p ok c e g f br d t j K=>by
  obtain⟨s3,k1,k2,k3,k4,k5,k6,k7,k8⟩:=G.inv.vdd G.sn K br;refine fin f p e g s3 H k3 t ((G.nw d).to j k1 k2) ⟨⟨by rw[k6,k7];exact C.RR.P6,by rw[k8];exact C.RR.on⟩,?_,by omega,by omega⟩<|(A3.nw d).to j;have:=C.pot;unfold U2 at this⊢;rw[k6,k4];split<;>split at this<;>omega
 by_cases k1:kd=1;subst k1;refine gG hV J fun o V k l Y=>?_;have d:=ji k;exact vfs F (W.nw d) (G.nw d).st M.sn N fun f p e g t j K=>l.o _ _<|ba o p _ _ e g f (fun z=>xru (del:=bK) (S:=xS) (T:=xT)<|by simpa using z) d t j K;by_cases k2:kd=2;subst k2;refine gG hV J fun o V k l Y=>?_;have d:=ji k;exact vfw F (W.nw d) (G.nw d).st M.sn N fun f p e g t j K=>l.o _ _<|ba o p _ _ e g f (fun z=>xru (del:=bL) (S:=xS) (T:=[])<|by simp[z,iW]) d t j K;by_cases E:kd=5\/kd=6\/kd=7;refine gG hV J fun o V k l Y=>?_;have d:=ji k;have C4:=G.nw d;have hw:=C4.wrt (n:=i) (by omega) C.pot (by omega) kd;obtain⟨H',bh,hU⟩:=C4.inv.vhf (kd:=kd) (n:=i) C4.sn (by omega) C.pot (by omega) C.RR;refine vfv E F (W.nw d) hw fun f p e t bu=>l.o _ _ ?_;have A4:=(A3.nw d).more bh;rcases bu with⟨vv,g,L,g2,j⟩|⟨g,L,g2,j⟩
 cases g2;rcases hU with⟨v2,r4,s4,R,y1,U,y3⟩|⟨r4,y1,_⟩
 rw[y1]at L;cases L;have hk:=U.keep.op;have:=U.sh;exact fin f p e g s4 H' R t (C4.to j U.sn U.inv) ⟨y3,U.pot,by omega,by omega⟩<|A4.to j;rw[y1]at L;cases L;cases g2;rcases hU with⟨v2,r4,s4,R,y1,_⟩|⟨r4,y1,U,y3,y4⟩
 rw[y1]at L;cases L;rw[y1]at L;cases L;have bg:g.cnt<=40:=by have:=U.cnt;omega
 have F5:=C4.fel bg U y3 y4 j;refine Xn.seq bQ hV trivial ?_;refine vev bk t F5 (by omega) (by omega) fun a6 w6 r6 s6 f6 t6 c6 g6=>?_;exact vde J f6 c6 g6 ((A4.to j).to t6) h1 h2 hN;by_cases k8:kd=8;subst k8;refine Xn.seq bQ hV trivial ?_;obtain⟨pk,nk,ck,bt⟩:=A3.shape;refine vdq bf F W G C (by omega) bt fun f p r5 s5 t j c5 g5=>?_;exact fin f p 0 r5 s5 H (by decide) t c5 g5<|A3.to j;by_cases k9:kd=9;subst k9;refine Xn.seq bQ hV trivial ?_;refine veq bf F W G.st bs Z fun f p b x y hx hy t j=>?_;exact fin f p 0 _ s H (by decide) t (G.to j G.sn<|G.inv.arm (by omega)<|by omega) ⟨⟨C.RR.P6,C.RR.on⟩,(C.up (m:=i+1)<|by omega).pot,by show r.op<=_;omega,by omega⟩<|A3.to j;refine gG hV J fun o V k l Y=>?_;have d:=ji k;refine vfn k1 k2 (fun z=>E<|.inl z) (fun z=>E<|.inr<|.inl z) (fun z=>E<|.inr<|.inr z) k8 k9 F (W.nw d) fun f t=>l.o _ _ ?_;exact fin f o 0 r s H (by decide) t (G.nw d) (C.up<|by omega)<|A3.nw d
end
end
section
open A
attribute [local go_sem] xe zv
@[simp]def vhe:prog.funcs[16]?=bO Tryz.f16:=A.qf Tryz.func16
@[simp]def vhj(args:Za)(w:Zy):(callFunc 16 args).run prog w= .ok (.enter 16 args) w:=A.qc Tryz.func16 (args:=args) (w:=w)
def vdj(B:Nat)(r:Sr)(s:Jo)(w:Zy)(h:Jq w B r)(a:r.sn=bO s):bE prog 16 #[zo B] w fun e w'=>e= .returned (zi 4)/\w'=w:=by
 have c7:w.cell? (zq B 7)=bO (zo s.S):=(h.blk.cell 7 rfl).trans (by simp[Sr.cells,Sr.iJ,a]);clear h a;go_enter vhe,Tryz.ntmps16
 go_wp2
 go_ret
 exact⟨rfl,rfl⟩
def j6.sync1{r:Sr}{s:Jo}(C:j6 r s)(f:r.sn=bO s)(e:r.cnt<=39)(b:s.P≠[]):(∃r1,r.bW s=(bO 0,r1)/\r1.cnt=r.cnt+1)\/(∃r1,r.bW s=(bN,r1)/\r1.cnt=r.cnt):=by
 have a:(Xt s.P).length<=1020:=by have:=IQ C.inv.P;have:=C.inv.P20;omega
 rcases FE (c:=82) (ep:=s.ep) (plain:=Xt s.P) C a with⟨h1,_⟩|⟨F',j,_,h1,_,_⟩;refine .inl ⟨{r.wrote s [82] s.ep (Xt s.P)with sn:=bO ({s with last:=(r.place s).1}:Jo).synced},?_,?_⟩;unfold Sr.bW;rw[aB b,h1,aA rfl];rfl;refine .inr ⟨{r with d:={r.d with nx:=bN,L:=F'}},?_,?_⟩;unfold Sr.bW;rw[aB b,h1,aB<|by simp];rfl
def j6.sync2{r:Sr}{s:Jo}(C:j6 r s)(e:r.sn=bO s)(d:r.cnt<=39):(∃r1,r.bW s=(bO 0,r1)/\(s.P≠[]->r1.cnt=r.cnt+1))\/(∃r1,r.bW s=(bN,r1)/\r1.cnt=r.cnt):=by
 by_cases c:s.P=[];exact .inl ⟨r,by unfold Sr.bW;rw[aA c],fun x=>absurd c x⟩;rcases C.sync1 e d c with⟨r1,a,b⟩|⟨r1,a,b⟩
 exact .inl ⟨r1,a,fun _=>b⟩;exact .inr ⟨r1,a,b⟩
variable [pn:A.Pn]
section
variable {cv tv:Zv} {lo B i:Nat} {v al:Zv} {D:List Ac} {w0 w:Zy} {a:Act} {r:Sr} {s:Jo} {Po:Exit->Act->Zy->Prop}
def vfr(Z:Rl v B al i a)(h:K9 cv tv lo B v D w0 r s w)(hc:r.cnt<=38)
  (H:Hid<|∀a' w',a'.defers=[]->At a' 6 (.bool bL)->xb (fun x=>lo<=x) w0 w'->Po .ret a' w'):enU.wp prog Po a w:=by
 obtain⟨g,rfl,V,W,e8,X⟩:=Z.lit;have o:=zl h;have M:=zl<|vdj B r s w h.st h.sn;have N:=zl (Dv B r [107] [118] w h.st fun t ht=>by rw[h.sn]at ht;cases ht;exact h.inv.inv.P20);clear Z h;simp only[j0,V,W,e8,X];clear V W e8 X
 conv=>arg 2;whnf
 go_wp2
 refine M.o.mono ?_;rintro e w1 ⟨rfl,rfl⟩
 go_wp2
 refine N.o.mono ?_;rintro e w2 ⟨f,j,rfl,p,b⟩;obtain⟨F,y,E,k3,k4,k5,k6,k7,k8⟩:=o.o.inv.vdd o.o.sn b fun z=>xru (del:=bK) (S:=[107]) (T:=[118]) (by simpa using z);have hf:f=7\/(f=0/\F.P≠[]):=by
  unfold Sr.awaits at b;rw[o.o.sn]at b;simp only at b;rw[aB<|by decide]at b;split at b;exact .inl b.1;obtain⟨h0,pv,h1⟩:=b;subst h1;obtain rfl:F=s.more pv (.put [107] [118]):=(jf y).symm;exact .inr ⟨h0,by simp[Jo.more]⟩
 have C2:=zl<|o.o.to p y E;have n:=zl<|Tm B j w2 C2.o.st;have k:=E.sync2 y (by omega);have O:=zl<|vcn B j F w2 C2.o.st y C2.o.ok C2.o.wC C2.o.two C2.o.own E.inv.P;have ba:j.cnt<=38:=by omega
 have U:Hid<|∀x,j.own B x->lo<=x:=C2.o.own;have Q:=zl C2.o.old;clear p b y E k3 k4 k5 k6 k7 k8 M N o C2
 go_wp2
 refine n.o.mono ?_;rintro e w3 ⟨rfl,rfl⟩
 go_wp2
 refine O.o.mono ?_;intro e K q;have I:∃C R,e= .returned (zi C)/\jt B j w3 R K/\((C=12/\R.cnt=j.cnt)\/(C=0/\(F.P≠[]->R.cnt=j.cnt+1))):=by
  rcases q with⟨vv,R,d,rfl,t⟩|⟨R,d,rfl,t⟩;rcases k with⟨J,l,L⟩|⟨J,l,_⟩;rw[l]at d;cases d;exact⟨0,R,rfl,t,.inr ⟨rfl,L⟩⟩;rw[l]at d;cases d;rcases k with⟨J,l,_⟩|⟨J,l,L⟩;rw[l]at d;cases d;rw[l]at d;cases d;exact⟨12,R.shut,rfl,t,.inl ⟨rfl,L⟩⟩
 obtain⟨C,R,rfl,t,hg⟩:=I;have c:=zl<|Tm B R K t.at_;have G:Hid<|xb (fun x=>lo<=x) w0 K:=Q.o.trans<|t.but.mono fun x hx=>U.o x hx;clear q t k O n Q U;have i1:IntKind.i64.wrap ((j.cnt:Int)+1)=(j.cnt:Int)+1:=by rw[xn];omega
 rcases hg with⟨rfl,m⟩|⟨rfl,m⟩
 ·rw[m]at c
  clear hf m
  go_wp2
  refine c.o.mono ?_;rintro e w5 ⟨rfl,rfl⟩
  go_wp2
  exact H.o _ _ rfl rfl G.o
 rcases hf with rfl|⟨rfl,Y⟩
 ·clear m
  go_wp2
  refine c.o.mono ?_;rintro e w5 ⟨rfl,rfl⟩
  go_wp2
  exact H.o _ _ rfl (by simp[At]) G.o
 rw[m Y]at c;clear m Y
 go_wp2
 refine c.o.mono ?_;rintro e w5 ⟨rfl,rfl⟩
 go_wp2
 exact H.o _ _ rfl (by simp[At]) G.o
end
end
section
open A
variable [pn:A.Pn]
attribute [local go_sem] xe zv
section
variable {cv tv:Zv} {t:Nat→Question→Nat}
noncomputable def pD:=Qa<|Qf Tryz.f9.body
noncomputable def pH:=Qa<|Qb<|Qf Tryz.f9.body
noncomputable def pL:=Qa<|Qb<|Qb<|Qf Tryz.f9.body
noncomputable def pN:=Qa<|Qn 3<|Qf Tryz.f9.body
noncomputable def pP:=Qa<|Qn 5<|Qf Tryz.f9.body
noncomputable def pS:=Qa<|Qn 6<|Qf Tryz.f9.body
noncomputable def pT:=Qa<|Qn 7<|Qf Tryz.f9.body
noncomputable def y9:=Qn 9<|Qf Tryz.f9.body
noncomputable def lR:=Qa<|Qn 4<|Qf Tryz.f9.body
noncomputable def mA:=Qa<|Qn 8<|Qf Tryz.f9.body
def xtm:Tryz.f9.body=bO (.seq pD<|.seq pH<|.seq pL<|.seq pN<|.seq lR<|.seq pP<|.seq pS<|.seq pT<|.seq mA y9):=by kernel_rfl
def kQ:¬Mc bM 9:=xO (by decide) (by decide) Tryz.func9
def Ic:Jo:=⟨0,0,[],.slice bN 0 0,[],0,0,0,0,0⟩
def Wy.new{b:Int}{m:Zl}{D M:Nat}(f:m.length=32):Wy (Sr.new 100000 b 999 m D M) Ic:=by
 have hk:Y0 (Jp m [] 0 0 0) []=Jp m [] 0 0 0:=by unfold Y0;rw[aA (show qu [] 0=[]from rfl)]
 refine⟨⟨[],[],Jp m [] 0 0 0,[],⟨⟨f,fun h=>absurd rfl h,⟨fun _=>rfl,fun h=>absurd rfl h⟩,?_,fun i e=>absurd e<|Wd _,rfl,?_,fun n g=>absurd rfl g⟩,rfl,rfl,rfl,iF.rfl' List.nodup_nil,?_,rfl,?_⟩⟩,Pg,fM.nil,(fun p a=>(Vy a).elim),rfl,rfl,rfl,?_,?_,?_,(fun c d=>(Vy d).elim),?_,(fun p a=>(Vy a).elim),Vj _,Vj _,Vj _,.inl rfl,Int.le_refl _⟩;show jY _ (Y0 (Jp m [] 0 0 0) []) [] [] _ _;rw[hk];exact jY.nil _ _ _;show(Y0 (Jp m [] 0 0 0) []).base.toNat+_<=_;rw[hk];show(0:Nat)+0<=_;omega;show(0:Int)=(Y0 (Jp m [] 0 0 0) []).base;rw[hk];rfl;show(0:Int)=(Y0 (Jp m [] 0 0 0) []).named;rw[hk];rfl;show J6 []<=16500+1071*((0:Nat):Int);simp[J6];show(0:Int)<=((0:Nat):Int);omega;show(0:Nat)<=40;omega;show([]:List dM).length<=20;simp
structure U0(cv tv:Zv)(lo B:Nat)(r:Sr)(s:Jo)(w:Zy):Prop where
 st:Jq w B r
 sn:r.sn=bO s
 inv:Wy r s
 L:s.L=[]
 P:s.P=[]
 cnt:r.cnt=0
 op:r.op=2
 ep:s.ep=0
 bP:s.bP=0
 own:∀x,r.own B x->lo<=x
 dl:r.d.L=[]
def MG(cv tv:Zv)(w:Zy)(e:Ending)(w':Zy):Prop:=∃B r s,e= .returned (zo B)/\U0 cv tv w.heap.size B r s w'/\Nw w w'
def m6{w w':Zy}{e:Ending}{d:Nat}:MG cv tv w e (re w' t d)↔MG cv tv w e w':=by
 have n1:Nw w'<|re w' t d:=Nw.gL (xb.refl _ _) t d;have f:Nw (re w' t d) w':=⟨rfl,rfl,ze _,fun _ _ _=>rfl⟩;constructor;rintro⟨B,r,s,b,a,c⟩;exact⟨B,r,s,b,⟨a.st.nw f,a.sn,a.inv,a.L,a.P,a.cnt,a.op,a.ep,a.bP,a.own,a.dl⟩,c.trans f⟩;rintro⟨B,r,s,b,a,c⟩;exact⟨B,r,s,b,⟨a.st.nw n1,a.sn,a.inv,a.L,a.P,a.cnt,a.op,a.ep,a.bP,a.own,a.dl⟩,c.trans n1⟩
def jt.zP{B:Nat}{r r':Sr}{w0 w w':Zy}(n:Nw w0 w)(t:jt B r w r' w')(ho:∀x,r.own B x->w0.heap.size<=x):Nw w0 w':=
 ⟨t.but.os.trans n.os,t.but.output.trans n.output,xz n.size t.but.size,fun i a _=>(t.but.block i (zn a n.size) fun h=>by have:=ho i h;omega).trans<|n.block i a id⟩
def cQ{L:KV}(h:iF L []):L=[]:=xa<|h.len.trans rfl
def Ny{B:Nat}{r:Sr}{s:Jo}{w:Zy}(h:Jq w B r)(b:r.sn=bN)(I:Wy r s)(hop:r.op<999)(g:iA cv tv w)(a:∀x,r.own B x->2<x):
  CC bM 16 #[zo B] w fun e w'=>e= .returned (zi 0)/\∃mp kk L SS,FJ r s mp kk L/\jt B r w (Wp r kk SS L) w':=by
 refine(G_ (cv:=cv) (tv:=tv) h b hop (fV.of (s:=s) I (.inr b) a) g (fun i=>by have:=I.jD i;omega) fun mp=>?_).mono fun e w' ⟨j,mp,kk,L,SS,d,f⟩=>?_;obtain⟨kk,L,R⟩:=I.reopen mp;have n:=R.rC;exact⟨kk,L,R.look,by rw[R.mend],(fun k=>absurd (R.dD.symm.trans k)<|by simp),by omega,by omega⟩;obtain⟨l,m,R⟩:=I.reopen mp;have c:=d.symm.trans R.look;cases c;exact⟨j,mp,kk,L,SS,R,f⟩
def ZZ{r:Sr}{s:Jo}{mp b:Nat}{a:Lk}{L:KV}(R:FJ r s mp a L):(Wp r a b L).sn=bO (V4 b a L):=by
 show bO (V4 b (Xi a r.d).2.1 L)=_;rw[R.mend]
def Ln(ms:Zl)(sg:Int)(b2:-9223372036854775808<=sg/\sg<=9223372036854775807){w:Zy}(hG:iA cv tv w):
  CC bM 9 #[zs ms,zi sg,zi 999] w (MG cv tv w):=by
 have hQ:kT<|nJ bM funcs Tryz.f9<|MG cv tv w:=AO fun e w' t d=>m6;refine CC.fA bQ kQ (bZ rfl Tryz.func9 rfl).1 Tryz.func9 xtm ?_;rw[show Tryz.f9.ntmps=89 from rfl];generalize hPX:nJ bM funcs Tryz.f9 (MG cv tv w)=PX at hQ;have J:=zl hQ;have b6:=zl hPX;have HG:=zl hG;have cz:=hG.pos;clear hQ hPX hG;simp only[jg,zh,jn,Nat.reduceAdd,Nat.reduceSub,qw,qx,Z7,Zi,jk,jc];refine gG kQ J.o fun w1 cu bq S bv=>?_;have N1:=zl<|ji bq;clear bv
 conv=>arg 2;whnf
 go_wp2
 refine S.o _ _ ?_;clear S;refine gG kQ J.o fun w2 c0 cl bt cn=>?_;have N2:Hid<|Nw w w2:=N1.o.trans<|ji cl;clear cn
 conv=>arg 2;whnf
 go_wp2
 refine(VZ sg 400 (by omega) (by omega) b2.1 b2.2 _).mono ?_;rintro e c3 ⟨⟨p,hp,rfl⟩,rfl⟩;have co:IntKind.i64.wrap (1+(p:Int))=1+(p:Int):=by rw[xn];omega
 go_wp2
 refine(Dr ms 32 (by omega) 32 rfl _).mono ?_;rintro e w3 ⟨rfl,b0⟩;have N3:Hid<|Nw w w3:=N2.o.trans<|xb.of_below b0;have bj:=xoo ms 32;clear b0;generalize wM ms 32=m at*
 go_wp2
 refine(xpw _ _ 999 m (by omega) (by omega) (by omega) (by omega) (by omega) (by omega) bj _).mono ?_;rintro e w4 ⟨B,D,M,rfl,hB,hD,hM,b1,bc⟩;have N4:Hid<|Nw w w4:=N3.o.trans<|xb.of_below b1;have S4:=zl bc;have I4:Hid<|Wy (Sr.new 100000 (1+(p:Int)) 999 m D M) Ic:=Wy.new bj;have O4:Hid<|∀x,(Sr.new 100000 (1+(p:Int)) 999 m D M).own B x->w.heap.size<=x:=fun x o=>by
  have h3:=N3.o.size;rcases o with e|(e|e|⟨c,W,_⟩)|⟨t,G,_⟩
  omega;have e:x=D:=e;omega;have e:x=M:=e;omega;cases W;cases G
 have C:(Sr.new 100000 (1+(p:Int)) 999 m D M).cnt=0:=rfl;have ba:(Sr.new 100000 (1+(p:Int)) 999 m D M).op=0:=rfl;have X:(Sr.new 100000 (1+(p:Int)) 999 m D M).d.L=[]:=rfl;have bb:(Sr.new 100000 (1+(p:Int)) 999 m D M).sn=bN:=rfl;clear b1 bc hB hD hM co hp bj;generalize Sr.new 100000 (1+(p:Int)) 999 m D M=r0 at*;have bm:=zl C;have be:=zl ba;have b7:=zl bb;have b8:Hid<|r0.d.L=[]:=X;clear C ba bb X
 go_wp2
 refine bt.o _ _ ?_;clear bt;refine gG kQ J.o fun w5 cw br T bw=>?_;have N5:=zl<|ji br;clear bw
 conv=>arg 2;whnf
 go_wp2
 refine T.o _ _ ?_;clear T;refine gG kQ J.o fun w6 cx bs U bx=>?_;have N6:Hid<|Nw w4 w6:=N5.o.trans<|ji bs;clear bx
 conv=>arg 2;whnf
 go_wp2
 refine(Tm B r0 _<|S4.o.nw N6.o).mono ?_;rintro e b4 ⟨rfl,rfl⟩;rw[show((r0.cnt:Nat):Int)=0 by rw[bm.o];rfl]
 go_wp2
 refine U.o _ _ ?_;clear U;have G6:=HG.o.but (N4.o.trans N6.o) fun _ x=>x.elim;have bd:∀x,r0.own B x->2<x:=fun x o=>by have:=O4.o x o;omega
 have g:=Ny (S4.o.nw N6.o) b7.o I4.o (by rw[be.o];omega) G6 bd;refine Xn.seq bQ kQ trivial ?_
 conv=>arg 3;whnf
 refine Xn.dB bQ kQ ?_;refine Jc.value (val:=zo B) (w':=b4) bQ kQ rfl (fun t d=>⟨t,d,by show(bG _ _).run prog _=_;simp[bG,go_sem]⟩) ?_;refine Jc.call bQ kQ rfl rfl (fun v=>by show(bG _ _).run prog _=_;simp[bG,go_sem,resolve,Act.put]) (bZ rfl Tryz.func16 rfl) g ?_ ?_;rotate_left;rintro ch wx ⟨Y,_⟩;cases Y;rintro v w7 ⟨Y,mp,kk,L,SS,R,b3⟩;cases Y;refine mZ (val:=zi 0) kQ ⟨rfl,rfl⟩ ?_;refine Jc.nil bQ kQ ?_;refine(show Xn _ 9 _ PX _ w7 from ?_);simp only[Act.put,xv,Zz,Z9];have hL:=cQ R.same;subst hL;obtain⟨F,h⟩:∃F,F=Wp r0 kk SS []:=⟨_,rfl⟩;obtain⟨q,n⟩:∃q,q=V4 SS kk []:=⟨_,rfl⟩;have I7:Hid<|Wy F q:=by show Wy _ _;rw[h,n];exact R.inv SS<|by rw[be.o];omega
 have T7:Hid<|jt B r0 b4 F w7:=by show jt _ _ _ _ _;rw[h];exact b3
 have Q7:Hid<|F.sn=bO q:=by show _=_;rw[h,n];exact ZZ R
 have E7:Hid<|q.ep=0:=by show _=_;rw[n];exact R.ep
 have K:Hid<|q.L=[]/\q.P=[]/\F.cnt=0/\F.op=1:=by
  refine⟨by rw[n];rfl,by rw[n];rfl,?_,?_⟩;rw[h];exact R.cnt.trans bm.o;rw[h];show r0.op+1=1;rw[be.o]
 have O7:Hid<|∀x,F.own B x->w.heap.size<=x:=fun x o=>by
  rcases T7.o.own x o with N|N;exact O4.o x N;have:=(N4.o.trans N6.o).size;omega
 have N7:=zl<|jt.zP (N4.o.trans N6.o) T7.o O4.o;have G7:Hid<|F.d.L=[]:=by
  show _=_;rw[h];show(Xi kk r0.d).2.2.L=_;rw[R.mend];exact b8.o
 clear h n b3 R g bd G6;refine gG kQ J.o fun w8 cy Q V bz=>?_;have S8:=zl<|T7.o.at_.nw<|ji Q;have N8:Hid<|Nw w w8:=N7.o.trans<|ji Q;clear bz
 conv=>arg 2;whnf
 go_wp2
 refine(Dv B F [107] [118] _ S8.o fun t G=>by rw[Q7.o]at G;cases G;exact I7.o.P20).mono ?_;rintro e w9 ⟨aa,f,rfl,I,l⟩;obtain⟨rfl,pv,H⟩:aa=0/\∃pv,f={F with sn:=bO<|q.more pv<|.put [107] [118]}:=by
  unfold Sr.awaits at l;rw[Q7.o]at l;simp only at l;rw[aB<|by decide,aB<|by rw[K.o.2.1];simp]at l;exact l
 have T9:=zl I;have E9:=zl H;have I9:Hid<|Wy f<|q.more pv<|.put [107] [118]:=by
  show Wy _ _;rw[H];refine I7.o.swap rfl rfl rfl rfl rfl rfl (fun c W=>?_) ?_;rcases Je.1 W with W|W
  rw[K.o.2.1]at W;cases W;rw[jp.1 W];exact⟨by simp,by simp,by simp⟩;show(q.P++[_]).length<=20;rw[K.o.2.1];simp
 have G9:Hid<|f.gets [107]=([118],0):=by
  show _=_;rw[SY<|by rw[H],aB<|by decide];have:(q.more pv<|.put [107] [118]).now=[([107],[118])]:=by
   unfold Jo.now Jo.more;simp only;rw[K.o.1,K.o.2.1];rfl
  rw[this];rfl
 have O9:Hid<|∀x,f.own B x->w.heap.size<=x:=fun x o=>by
  rcases I.own x o with N|N;exact O7.o x N;have:=N8.o.size;omega
 have N9:=zl<|jt.zP N8.o I O7.o;clear I l H
 go_wp2
 refine V.o _ _ ?_;clear V;refine gG kQ J.o fun cp ce r y bg=>?_;have bp:=zl<|T9.o.at_.nw<|ji r;have b9:Hid<|Nw w cp:=N9.o.trans<|ji r;clear bg
 conv=>arg 2;whnf
 go_wp2
 refine(TM B f [107] _ bp.o fun t G=>by rw[E9.o]at G;cases G;exact I9.o.P20).mono ?_;rintro e cq ⟨rfl,E⟩;rw[G9.o];have cg:=zl<|bp.o.nw E;have ca:Hid<|Nw w cq:=b9.o.trans E;clear E
 go_wp2
 refine y.o _ _ ?_;clear y;refine gG kQ J.o fun cr cf s z bh=>?_;have ci:=zl<|cg.o.nw<|ji s;have cb:Hid<|Nw w cr:=ca.o.trans<|ji s;clear bh
 conv=>arg 2;whnf
 go_wp2
 refine(x_ B f _ ci.o).mono ?_;rintro e cs ⟨rfl,bi⟩;have ck:=zl bi;rw[show(if f.sn.isSome then(0:Int)else 5)=0 by rw[E9.o];rfl];have bf:=zl<|jt.zP cb.o bi O9.o;clear bi
 go_wp2
 refine z.o _ _ ?_;clear z;have bl:=HG.o.but bf.o fun _ x=>x.elim;have bn:Wy f.shut<|q.more pv<|.put [107] [118]:=I9.o.tV bN;have i:f.shut.op=1:=by show f.op=1;rw[E9.o];exact K.o.c
 have g:=Ny ck.o.at_ rfl bn (by rw[i];omega) bl (fun x o=>by have:=O9.o x<|Wy.fP o;omega);refine Xn.seq bQ kQ trivial ?_
 conv=>arg 3;whnf
 refine Xn.dB bQ kQ ?_;refine Jc.value (val:=zo B) (w':=cs) bQ kQ rfl (fun t d=>⟨t,d,by show(bG _ _).run prog _=_;simp[bG,go_sem]⟩) ?_;refine Jc.call bQ kQ rfl rfl (fun v=>by show(bG _ _).run prog _=_;simp[bG,go_sem,resolve,Act.put]) (bZ rfl Tryz.func16 rfl) g ?_ ?_;rotate_left;rintro ch wx ⟨Y,_⟩;cases Y;rintro v bk ⟨Y,c1,b,L2,k,R2,j⟩;cases Y;refine mZ (val:=zi 0) kQ ⟨rfl,rfl⟩ ?_;refine Jc.nil bQ kQ ?_;refine(show Xn _ 9 _ PX _ bk from ?_);simp only[Act.put,xv,Zz,Z9];have cm:=cQ (by have:=R2.same;rwa[show(q.more pv<|.put [107] [118]).L=[]from K.o.1]at this);subst cm;have a:Hid<|U0 cv tv w.heap.size B (Wp f.shut b k []) (V4 k b []) bk:=by
  refine⟨j.at_,ZZ R2,R2.inv k<|by rw[i];omega,rfl,rfl,?_,?_,?_,rfl,fun x o=>?_,?_⟩;show b.cnt=0;rw[R2.cnt];show f.cnt=0;rw[E9.o];exact K.o.2.2.1;show f.shut.op+1=2;rw[i];show b.ep=0;rw[R2.ep];exact E7.o;rcases j.own x o with N|N
  exact O9.o x<|Wy.fP N;have:=bf.o.size;omega;have e2:=E9.o;show(Xi b f.d).2.2.L=_;rw[show Xi b f.d=(bL,b,f.d)from R2.mend,e2];exact G7.o
 have cc:=zl<|jt.zP bf.o j fun x o=>O9.o x<|Wy.fP o;have b5:Hid<|(Wp f.shut b k []).gets [107]=([],8):=by
  show _=_;rw[SY a.o.sn,aB<|by decide];rfl
 clear j R2 g bl bn i;generalize Wp f.shut b k []=r3 at*;generalize V4 k b []=s3 at*;refine mY kQ J.o fun c2 ct O bu=>?_;have cj:=zl<|a.o.st.nw<|ji O;have cd:=zl<|ji O
 conv=>arg 2;whnf
 go_wp2
 refine(TM B r3 [107] _ cj.o fun t G=>by rw[a.o.sn]at G;cases G;exact a.o.inv.P20).mono ?_;rintro e w16 ⟨rfl,Z⟩;rw[b5.o];have bo:Hid<|Nw bk w16:=cd.o.trans Z;have hv:(st [118]).toList=[118]:=xo _;have Y:(st ([]:Zl)).toList=[]:=xo _;clear Z
 go_wp2
 refine bu.o .ret _ _ ?_;rw[<-b6.o];refine⟨rfl,zo B,fun t d=>⟨t,d,?_⟩,B,r3,s3,rfl,⟨a.o.st.nw bo.o,a.o.sn,a.o.inv,a.o.L,a.o.P,a.o.cnt,a.o.op,a.o.ep,a.o.bP,a.o.own,a.o.dl⟩,cc.o.trans bo.o⟩;show(aN Tryz.f9 _).run prog _=_;simp[aN,Tryz.results9,go_sem]
def MF(w:Zy)(e:Ending)(w':Zy):Prop:=e= .returned (.bool bL)/\Nw w w'
def m_{w w':Zy}{e:Ending}{d:Nat}:MF w e (re w' t d)↔MF w e w':=⟨fun h=>⟨h.1,xb.re h.2⟩,fun h=>⟨h.1,Nw.gL h.2 t d⟩⟩
def idx9(a:Act):Nat:=41-(intOf<|a.tmps[9]?.getD bJ).toNat
def Rl.idx{v b:Zv}{B i:Nat}{a:Act}(h:Rl v B b i a):idx9 a=41-i:=by
 have:=h.a9;unfold At at this;simp[idx9,this,intOf]
def vfg:FI []:=⟨fM.nil,fun p a=>(Vy a).elim,fun n=>rfl⟩
def U0.crp{lo b B:Nat}{v:Zv}{D:List Ac}{w0 w w':Zy}{r:Sr}{s:Jo}(h:U0 cv tv b B r s w)(n:Nw w w')(E:lo<=b)(p:2<lo)(y:lo<=w0.heap.size)(d:iA cv tv w')(f:vac lo cv tv w')(old:xb (fun x=>lo<=x) w0 w')(k:AL lo w' v D):K9 cv tv lo B v D w0 r s w':=by
 have a:=h.inv.nx;have e:r.off=r:=by
  obtain⟨t,q,z,⟨j,C,L,nx⟩,m,l,i,F,sn⟩:=r;have a:nx=bN:=a;subst a;rfl
 refine⟨h.st.nw n,h.sn,⟨by rw[e];exact h.inv,by rw[h.dl];exact vfg,fun c g=>by rw[a]at g;cases g⟩,fun x o=>by have:=h.own x o;omega,p,y,d,f,old,k⟩
theorem vbs(ms:Zl)(N:Int)(bz:-9223372036854775808<=N/\N<=9223372036854775807)(v:Zv)(k:List Ac){w:Zy}(hG:iA cv tv w)(Q:vac w.heap.size cv tv w)(ba:AL w.heap.size w v k):
  Xn bM 7 c7 (nJ bM funcs Tryz.f7<|MF w) ⟨#[zs ms,zi N,v]++aW (Tryz.f7.ntmps-#[zs ms,zi N,v].size) bJ,[]⟩ w:=by
 have hQ:kT<|nJ bM funcs Tryz.f7<|MF w:=AO fun e F t d=>m_;rw[vgg];rw[show Tryz.f7.ntmps=184 from rfl];generalize hPX:nJ bM funcs Tryz.f7 (MF w)=PX at hQ;have O:=zl hQ;have bi:=zl hPX;have HG:=zl hG;have bj:=zl Q;have bh:=zl ba;have be:=hG.pos;clear hQ hPX hG ba Q;simp only[jg,zh,jn,Nat.reduceAdd,Nat.reduceSub,qw,qx,Z7,Zi,jk,jc];refine gG hV O.o fun w1 b3 o p X=>?_;have N1:=zl<|ji o;have HZ:=zl<|Ug o;clear X
 conv=>arg 2;whnf
 go_wp2
 refine p.o _ _ ?_;clear p;have bf:=Ln (cv:=cv) (tv:=tv) ms N bz (w:=w1)<|HG.o.but (S:=fun _=>False) N1.o fun _ x=>x.elim;refine Xn.seq bQ hV trivial ?_
 conv=>arg 3;whnf
 refine Xn.dB bQ hV ?_;refine mZ (val:=zs ms) hV ⟨rfl,rfl⟩ ?_;refine mZ (val:=zi N) hV ⟨rfl,rfl⟩ ?_;refine Jc.call (f:=9) (args:=#[zs ms,zi N,zi 999]) bQ hV rfl rfl (fun v=>by show(bG _ _).run prog _=_;simp[bG,go_sem,resolve,Act.put]) (bZ rfl Tryz.func9 rfl) bf ?_ ?_;rotate_left;rintro ch wx ⟨B,r0,s0,he,_⟩;cases he;rintro v2 w2 ⟨B,r0,s0,he,hS,bd⟩;cases he;refine mZ (val:=zo B) hV ⟨rfl,rfl⟩ ?_;refine Jc.nil bQ hV ?_;refine(show Xn bM 7 _ PX _ w2 from ?_);simp only[Act.put,xv,Zz,Z9];have G:=zl hS;have N2:Hid<|Nw w w2:=N1.o.trans bd;clear hS bd bf;refine gG hV O.o fun w4 b4 U q Y=>?_;have N4:=zl<|ji U;clear Y
 conv=>arg 2;whnf
 go_wp2
 refine q.o _ _ ?_;clear q;have n4:Nw w w4:=N2.o.trans N4.o;have l:=HG.o.but (S:=fun _=>False) n4 fun _ x=>x.elim;have E:=bj.o.but (S:=fun _=>False) n4 fun _ x=>x.elim;have R:=bh.o.but<|n4.mono fun _ x=>x.elim;have C4:=zl<|G.o.crp N4.o (lo:=w.heap.size) (v:=v) (D:=k) (w0:=w) (by have:=HZ.o;omega) be (ze _) l E (n4.mono fun _ x=>x.elim) R;have G4:Hid<|Good 0 [] r0 s0:=by
  refine⟨⟨D4.nil _ _,fun n _ _ x hx=>?_⟩,?_,by rw[G.o.op];omega,by rw[G.o.bP];exact Int.le_refl _⟩;rw[G.o.dl]at hx;have e:qu ([]:Ym) n=[]:=rfl;rw[e]at hx;cases hx;unfold U2;rw[G.o.cnt,aA G.o.P];omega
 clear l E R n4 G N2 N4 N1 HZ;refine gG hV O.o fun w6 b5 V z Z=>?_;have C6:=zl<|C4.o.nw<|ji V;clear Z
 conv=>arg 2;whnf
 go_wp2
 refine z.o _ _ ?_;clear z C4;refine Xn.seq bQ hV trivial ?_;refine gG hV O.o.dV fun b0 bl J g L=>?_;have bg:=zl<|C6.o.nw<|ji J;clear L
 conv=>arg 2;whnf
 go_wp2
 refine g.o _ _ ?_;clear g C6;have bk:Hid<|LpU cv tv w.heap.size B v k w (.slice bN 0 0) 0 b0:=
  ⟨⟨r0,s0,[],bg.o,G4.o,⟨⟨[],Vl _ _ _ _,fun x hx=>hx,Vj _⟩,fun b hb=>by cases hb⟩⟩,Vj _,Vj _⟩
 refine Xn.block bQ hV ?_;have bu:=Vz (O.o.dV (P:=bM) (fn:=7) (y:=enU)) (id:=0);refine Xn.loop bQ hV (by rw[vew];trivial) (fun a F=>∃al i,Rl v B al i a/\LpU cv tv w.heap.size B v k w al i F) (fun a _=>idx9 a) ?_ _ _ ⟨_,0,⟨j5 rfl,rfl,rfl,rfl,rfl⟩,bk.o⟩;rintro a w3 ⟨al,i,hf,bx⟩;have hI:∀a F t d,(∃al i,Rl v B al i a/\LpU cv tv w.heap.size B v k w al i (re F t d))↔(∃al i,Rl v B al i a/\LpU cv tv w.heap.size B v k w al i F):=fun a F t d=>
  ⟨fun⟨k1,k2,h1,Q⟩=>⟨k1,k2,h1,Q.nw hback⟩,fun⟨k1,k2,h1,Q⟩=>⟨k1,k2,h1,Q.nw<|vel _ t d⟩⟩
 have K:=m5 bu (I:=fun a F=>∃al i,Rl v B al i a/\LpU cv tv w.heap.size B v k w al i F) (m:=fun a _=>idx9 a) (a0:=a) (w0:=w3) hI fun _ _ _ _=>rfl;have b6:=hf.idx;rw[vew];refine gG hV K fun w4 b7 bp bs bv=>?_;have j:=bx.nw<|ji bp;obtain⟨r,s,H,hC,br,hA⟩:=j.ex;have b9:=j.i2;by_cases h:i<k.length/\i<40;refine vgr hf hC.al h.1 h.2 fun a4 M=>bs.o _ _ ?_;refine Xn.seq bQ hV trivial (Xn.block bQ hV ?_);refine vfb (Vz (K.dV (P:=bM) (fn:=7) (y:=xUn)) (id:=1)) M j h.1 h.2 fun bm b1 bo bc bb=>?_;show Xn bM 7 xUn _ bm b1;refine mY hV K fun cb b2 T W=>?_;refine vgd bc (by omega) fun bn C=>W.o .normal _ _ ⟨⟨bo,i+1,C,bb.nw<|ji T⟩,?_⟩;have h7:=C.idx;show idx9 bn<idx9 a;omega;refine vfm hf hC.al h fun a4 M=>bv.o _ _ _ (by simp) ?_;show(if 0=0 then _ else _);rw[aA rfl];show Xn bM 7 enU PX a4 w4;have ca:=br.pot.cx hC.inv;refine mY hV O.o fun w5 b8 bq bt=>vfr M (hC.nw<|ji bq) (by omega) fun a6 w6 bw h6 c=>bt.o .ret _ _ ?_;rw[<-bi.o];refine⟨bw,.bool bL,fun t d=>⟨t,d,?_⟩,rfl,?_⟩
 ·show(aN Tryz.f7 _).run prog _=_
  unfold At at h6;simp[aN,Tryz.results7,go_sem,h6]
 exact⟨c.os,c.output,c.size,fun i hi _=>c.block i hi<|by show¬w.heap.size<=i;omega⟩
end
end
end P
namespace A
open Go Go.Conc
section
variable [pn:Pn]
section
variable {Post:Zv→Zy→Prop}
section
variable {P:Program} {F:Array Func} {X:Nat->Prop}
def vR.ends{g:Zg}{w:Zy}{m:Machine}{t:Trace}(U:vR P X g w m t)
  (h:∀u:Zy,Sm P X (A.re w u.tape u.drawn) u->∃val es u',stepG P bL g u= .ended (.done val) u' es/\(∀e∈es,xR X u.heap.size e)/\Post val u'):
  ∃N last o w' t',runNT P (N+1) m t=(.ended o w',t')/\runN P N m= .next last/\step P last= .ended o w'/\Conc.Good P Post last o w' t':=by
 obtain⟨⟨a,v,sl,k,rfl,l,y,G⟩,ok,c,J⟩:=U;refine run_of_inv BO (fun k m t=>∃(a:Array _) (v:Zy) (sl:Option _),m=Conc.crowd a v sl/\a[0]?=bO g/\JL P X k a v t/\Sm P X (A.re w v.tape v.drawn) v) _ ?_ k _ _ ⟨a,v,sl,rfl,l,y,G⟩;clear y G l;rintro k m t ⟨a,v,sl,rfl,l,y,G⟩;have I:∀g∈a,awake g:=by
  intro f n;obtain⟨i,p,rfl⟩:=Z1.1 n;rcases jl i with rfl|b
  have:a[0]=g:=by simpa[xg p]using l
  rw[this];exact awake_of<|.inl c;exact J5.awake k a v t y i _ b<|xg p
 obtain⟨i,f,d,F,p,n,E⟩:=crowd_pick (P:=P) (w:=v) (sl:=sl) I ⟨0,g,l,c⟩;have z:=J5.drawn k a v t d y;have C:Sm P X (A.re w v.tape d)<|v.at d:=G.re _ d;rcases jl i with rfl|b
 obtain rfl:f=g:=by rw[l]at p;exact(jf p).symm
 obtain⟨val,es,u',D,K,r⟩:=h (v.at d) C;have s:=runT_many_ended (sl:=F) p (show stepG P _ f _=_ from D);obtain⟨q,S,T,rfl⟩:=z;have B:=T.own (fn:=f.frame.fn) (pos:=f.frame.place) K;refine .inl ⟨_,_,_,E.trans s,val,rfl,r,B.clean,B.over,⟨fun x O=>?_,rfl⟩,fun j x O L=>?_⟩;obtain⟨j,L⟩:=List.mem_iff_getElem?.1 O;rw[PK]at L;exact⟨_,(S.old (1+j) x (by omega)<|by simpa[Conc.crowd]using L).leaves⟩;have V:=S.old j x (by omega) O;refine⟨q j,?_⟩;have e:(t++MemOp.ofEvents 0 f.frame.fn f.frame.place es).deaf j (t++MemOp.ofEvents 0 f.frame.fn f.frame.place es).size=Deaf t j:=
  Deaf_other t (g':=0) (by omega) _ (fun op M=>by obtain⟨e,_,rfl⟩:=zy M;rfl)
 rw[e];exact V.hears _;obtain⟨H,v',R,Q,W,Y,Z,r3,r4,r5⟩:=J5.other k a (v.at d) t i f g F z b p n l c J;exact .inr ⟨_,Q,W,E.trans Y,Z,H,v',R,rfl,r3,r4,r5 w C⟩
def SD(B:Nat):qD X B #[]:=
 ⟨past_nil.clean,fun i a b c=>by simp[touchAt,Trace.act?]at b,past_nil.over,past_nil.hears,fun i a b=>by simp[touchAt,Trace.act?]at b⟩
def CT{a:Nat}{m m1:Machine}{t b:Trace}(c:runNT P a m t=(.next m1,b))(h:∃N last o w' t',runNT P (N+1) m1 b=(.ended o w',t')/\runN P N m1= .next last/\step P last= .ended o w'/\Conc.Good P Post last o w' t'):
  ∃N last o w' t',runNT P (N+1) m t=(.ended o w',t')/\runN P N m= .next last/\step P last= .ended o w'/\Conc.Good P Post last o w' t':=by
 obtain⟨N,last,o,w',t',d,e,f,g⟩:=h;refine⟨a+N,last,o,w',t',?_,?_,f,g⟩;rw[Ja];exact ql c d;have i:(runNT P (a+N) m t).1=(runNT P N m1 b).1:=by
  rw[ql c (r:=(runNT P N m1 b)) rfl]
 rw[<-runNT_fst P (a+N) m t,i,runNT_fst];exact e
theorem zvf(K:J0 P F){f:FuncId}{args:Za}{fnc:Func}{c:Code}{R:Ending->Zy->Prop}(Z:¬Mc P f)(B:Ys P F f)(H:P.funcs[f]?=bO fnc)(O:fnc.body=bO c)
  {w v0:Zy}(h:Xn P f c (nJ P F fnc R) ⟨args++aW (fnc.ntmps-args.size) bJ,[]⟩ w)(q:∀ch w',¬R (.panicked ch) w')(hS:Sm P X (A.re w v0.tape v0.drawn) v0):
  ∃N last o w' t',runNT P (N+1) (solo (G (bF P f args .normal) []) v0) #[]=(.ended o w',t')/\runN P N (solo (G (bF P f args .normal) []) v0)= .next last/\step P last= .ended o w'/\
   Conc.Good P (fun val u=>∃X' w',(∀x,X x->X' x)/\R (.returned val) w'/\Sm P X' (A.re w' u.tape u.drawn) u) last o w' t':=by
 have s:bF P f args .normal=(bF P f args .normal).at ⟨args++aW (fnc.ntmps-args.size) bJ,[]⟩ [.code c]:=by
  simp[bF,Frame.at,H,O]
 have T:(wf P F).funcs[f]?=bO fnc:=by show F[f]?=_;rw[B.1];exact H
 have z:Xv P<|bF P f args .normal:=by
  have e:bF (wf P F) f args .normal=bF P f args .normal:=by simp[bF,T,H]
  rw[<-e];exact j_ K.codes B Z args ⟨by simp,by simp⟩
 have hi:P.inits.idxOf? f=bN:=z.init;have hb:vR P X (Z0 (bF P f args .normal) []) w (solo (G (bF P f args .normal) []) v0) #[]:=
  ⟨⟨#[Z0 _ []],v0,bN,_,rfl,rfl,⟨fun _=>0,⟨fun i g hi hg=>by
    have:i=0:=by have:=(za.1 hg).1;simp at this;omega
    omega,fun j hj=>rfl⟩,SD _,rfl⟩,hS⟩,⟨.inr z,fun c O=>by cases O⟩,rfl,rfl⟩
 let At:Zg->Zy->Prop:=fun g' w'=>∃(a:Act) (b:List Item) (val:Zv),g'=Z0 {(bF P f args .normal).at a b with mode:= .returning} []/\a.defers=[]/\(∀t d,∃t' d',(aN fnc a.tmps).run (wf P F) (A.re w' t d)= .ok val (A.re w' t' d'))/\R (.returned val) w';have V:RX P (Z0 (bF P f args .normal) []) w At:=by
  rw[s];refine h (bF P f args .normal) [] [] _ rfl rfl (fun e E w' k=>?_) fun e E w' g' k n=>?_;cases e with
  |normal=>trivial
  |ret=>exact k.1
  |panic ch=>exact k.1
  |exit id=>exact k.2.elim
  |goto l=>exact k.2.elim
  |outgrown=>exact k.2.elim
  cases e with
  |normal=>
   obtain⟨_,rfl⟩:=n;obtain⟨hd,v,C,q⟩:=k;refine RX.ctl K (g':=Z0 {(bF P f args .normal).at E []with mode:= .returning} []) Z (fun v=>?_) rfl rfl rfl<|.refl ⟨E,[],v,rfl,hd,C,q⟩;simp[stepG,Z0,Frame.at,stepG.exec]
  |ret=>
   obtain⟨_,b,rfl⟩:=n;obtain⟨hd,v,C,q⟩:=k;exact .refl ⟨E,b,v,rfl,hd,C,q⟩
  |panic ch=>exact(q ch w' k.2).elim
  |exit id=>exact k.2.elim
  |goto l=>exact k.2.elim
  |outgrown=>exact k.2.elim
 obtain⟨N,m',t',X',g',w',L,x1,b1,a,b,val,rfl,hd,C,M⟩:=V X _ _ hb;refine CT L<|b1.ends fun u r=>?_;obtain⟨t1,Y,D⟩:=C u.tape u.drawn;obtain⟨p,m,I⟩:=(QM (P:=P) (F:=F) (X:=X') fnc a.tmps).gJ _ u #[] r (by rw[D];trivial);rw[D]at I;have J:Sm P X' (A.re w' t1 Y) p:=I.sm;have W:p.heap.size=u.heap.size:=J.size.trans r.size.symm;refine⟨val,seen P f (#[]++m)++#[],p,?_,fun e s=>?_,X',w',x1,M,?_⟩;have U:(aN fnc a.tmps).runT P u #[]=(.ok val p,#[]++m):=I.eq;have y:=IM (fr:={(bF P f args .normal).at a b with mode:= .returning}) (by simp[bF,Frame.at]) hi val p;show unwind P bL {(bF P f args .normal).at a b with mode:= .returning} [] bN u=_;have Q:({(bF P f args .normal).at a b with mode:= .returning}:Zf).defers=[]:=hd;have S:P.funcs[({(bF P f args .normal).at a b with mode:= .returning}:Zf).fn]?=bO fnc:=H;unfold unwind;rw[Q];simp only[S];rw[show(aN fnc ({(bF P f args .normal).at a b with mode:= .returning}:Zf).tmps).runT P u #[]=(.ok val p,#[]++m)from U];simp only[y];rfl;have s:e∈seen P f (#[]++m):=by simpa using s
 have:=I.evs e (by simpa using mem_seen s);rw[W]at this;exact .pV this;have L:p.tape=t1:=J.tape;have e2:p.drawn=Y:=J.drawn;rw[L,e2];exact J
end
end
end
end A
namespace P
open Go.RowKit A
section
open Go Go.Conc
def WQ:Obj->Bool
 | .pending ..=>bL
 | .deferred _=>bL
 | .loop _=>bL
 |_=>bK
def EZ(j:Nat):Obj:= .chan j #[] bK 0 0 bK
def clean(j:Nat)(o:Obj):Obj:=if WQ o=bL then EZ j else o
def oH(j:Nat)(v:Zy):Zy:={v with heap:=v.heap.map<|clean j}
def X0(v:Zy)(r:Nat):Prop:=∃o,v.heap[r]?=bO o/\WQ o=bL
abbrev oO(v:Zy):Pn:=⟨⟨v.heap.size,fun r=>v.heap[r]?⟩⟩
section
variable {j r:Nat} {v:Zy}
def I_:(oH j v).heap[r]?=(v.heap[r]?).map (clean j):=by simp[oH]
def JK:(oH j v).heap.size=v.heap.size:=by simp[oH]
def D7(h:¬X0 v r):(oH j v).heap[r]?=v.heap[r]?:=by
 rw[I_];cases e:v.heap[r]?with
 |none=>rfl
 |some o=>
  have:¬WQ o=bL:=fun a=>h ⟨o,e,a⟩;simp[clean,this]
def Bc(h:X0 v r):(oH j v).heap[r]?=bO (EZ j):=by
 obtain⟨o,e,a⟩:=h;rw[I_,e];simp[clean,a]
def wR{a:Addr}{x:Zv}(h:v.cell? a=bO x):(oH j v).cell? a=bO x:=by
 obtain⟨g,e,i,d,_⟩:=A.cells_of_cell (pn:=oO v) (py:=⟨137⟩) h;have f:¬X0 v a.block:=by
  rintro⟨o,b,c⟩;rw[d]at b;cases b;cases c
 have e:=D7 (j:=j) f;unfold World.cell? at h⊢;rw[e];exact h
def mC(P:Zp):Sm (pn:=oO v) P (X0 v) (A.re (oH j v) v.tape v.drawn) v:=by
 refine @Sm.mk (oO v) P (X0 v) (A.re (oH j v) v.tape v.drawn) v JK.symm (fun r a=>(D7 a).symm) (fun r a=>?_) (fun r=>?_) rfl rfl rfl rfl ⟨Nat.le_of_eq JK.symm,fun r _ _=> .inl rfl⟩;have b:=Bc (j:=j) a;obtain⟨o,e,c⟩:=a;exact⟨EZ j,o,b,e,.inl ⟨rfl,by cases o<;>first|rfl|cases c⟩⟩;show A.dL P (oH j v).heap[r]?;rw[I_];cases v.heap[r]?with
 |none=>exact .none
 |some o=>cases o<;>exact⟨fun _ _ h=>(by cases h),fun _ h=>(by cases h),fun _ h=>(by cases h)⟩
end
def iA.ref{cv tv:Zv}{v:Zy}(h:iA cv tv v)(j:Nat):iA cv tv<|oH j v:=by
 obtain⟨⟨t,x,a,b⟩,⟨g,k,c,d⟩,e⟩:=h;exact⟨⟨t,x,a,wR b⟩,⟨g,k,c,wR d⟩,fun i f=>wR<|e i f⟩
def AL.ref{v:Zy}{x:Zv}{D:List Ac}(h:AL v.heap.size v x D)(j:Nat):AL (oH j v).heap.size (oH j v) x D:=by
 obtain⟨a,b,p,q,r⟩:=h;refine⟨a,b,p,q,fun i s=>?_⟩;obtain⟨g,c,n,o,d,e,f,k,m,l⟩:=r i s;exact⟨g,c,n,by rw[JK];exact o,wR d,wR e,wR f,wR k,wR m,l⟩
def vac.ref{cv tv:Zv}{v:Zy}(h:vac v.heap.size cv tv v)(j:Nat):vac (oH j v).heap.size cv tv<|oH j v:=by
 obtain⟨a,b,c,d,n,o,e,f,g,l,m,i,k⟩:=h;rw[JK];exact⟨a,b,c,d,n,o,e,f,g,l,m,by rw[I_,i];rfl,by rw[I_,k];rfl⟩
def ZT{P:Zp}{o:Outcome}{w:Zy}{a:Trace}:∀{n:Nat} {m:Machine} {t:Trace},runNT P n m t=(.ended o w,a)->∀k,runNT P (n+k) m t=(.ended o w,a)
 |0,m,t,h,k=>by simp[runNT]at h
 |n+1,m,t,h,k=>by
  rw[Nat.add_right_comm];unfold runNT at h⊢;split at h;exact ZT h k;exact h
def WN(v u:Zy):Prop:=u.os=v.os/\u.output=v.output/\v.heap.size<=u.heap.size/\∀r,r<v.heap.size->u.heap[r]?=v.heap[r]?
def Dd{cv tv:Zv}(C:Zl)(k:Int)(z:-9223372036854775808<=k/\k<=9223372036854775807)(x:Zv)(E:List Ac){v:Zy}(T:iA cv tv v)(w:vac v.heap.size cv tv v)(y:AL v.heap.size v x E):
  ∃N last o w' t',runNT bM (N+1) (solo (G (bF bM 7 #[.string<|st C,.int .i64 k,x] .normal) []) v) #[]=(.ended o w',t')/\runN bM N (solo (G (bF bM 7 #[.string<|st C,.int .i64 k,x] .normal) []) v)= .next last/\step bM last= .ended o w'/\
   Go.Conc.Good bM (fun val u=>val= .bool bL/\WN v u) last o w' t':=by
 have i:∀j,_:=fun j=>zvf (pn:=oO v) (bQ (pn:=oO v)) (hV (pn:=oO v)) (bZ (pn:=oO v) rfl Tryz.func7 rfl) Tryz.func7 vgk (vbs (pn:=oO v) C k z x E (T.ref j) (w.ref j)<|y.ref j) (fun ch w' h=>by cases h.1)<|mC (j:=j) (v:=v) bM;obtain⟨N,last,o,w',t',H,K,L,val,rfl,⟨Y,w1,W,c,q⟩,M⟩:=i 0;obtain⟨F,B,o2,a,D,O,b2,b3,l,rfl,⟨Z,w2,X,w,V⟩,b5⟩:=i 1;obtain rfl:a=w':=by
  have Q:=ZT H<|F+1;have s:=ZT O<|N+1;rw[zW<|F+1]at s;rw[Q]at s;have R:(l=val/\a=w')/\D=t':=by simpa using s.symm
  exact R.1.2
 have g:∀{j:Nat} {n:ZP} {m:Zy},(∀r,X0 v r->n r)->Nw (oH j v) m->Sm (pn:=oO v) bM n (A.re m a.tape a.drawn) a->∀r,r<v.heap.size->a.heap[r]?=v.heap[r]?\/(X0 v r/\a.heap[r]?=bO (EZ j)):=by
  intro j n m hx U J r d;have I:m.heap[r]?=(oH j v).heap[r]?:=U.block r (by rw[JK];exact d) id;have f:a.heap[r]?=m.heap[r]?->a.heap[r]?=v.heap[r]?\/(X0 v r/\a.heap[r]?=bO (EZ j)):=fun e=>by
   rw[I]at e;rcases Classical.em (X0 v r)with b|b
   exact .inr ⟨b,e.trans<|Bc b⟩;exact .inl<|e.trans<|D7 b
  rcases Classical.em (n r)with t|t;rcases(Sm.pin (pn:=oO v) J).2 r t d with e|e;exact .inl e;exact f e;exact f<|Sm.out (pn:=oO v) J r t
 refine⟨N,last,_,a,t',H,K,L,val,rfl,⟨?_,?_,?_,?_,fun r d=>?_⟩,M⟩;have:=c.1;simpa using this;exact(Sm.os (pn:=oO v) q).trans c.2.os;exact(Sm.output (pn:=oO v) q).trans c.2.output;have e0:=Sm.size (pn:=oO v) q;have I:a.heap.size=w1.heap.size:=e0;have S:=c.2.size;rw[JK]at S;omega;rcases g W c.2 q r d with e|⟨b,e⟩
 exact e;rcases g X w.2 V r d with p|⟨_,p⟩
 exact p;rw[e]at p;simp[EZ]at p
end
section
open Go.ChangeShapes Go.WideShapes
def Uc:Tryz.prog.cellsOf 47=5:=by kernel_rfl
def JR{w:Zy}{base:Nat}{a:Addr}{n:Nat}{cs:Ze}(h:w.cells? base a n=bO cs)(i:Nat)(e:i<n):∃v,cs[i]?=bO v/\w.cell? (a.add i)=bO v:=by
 unfold World.cells? at h;split at h;obtain⟨b,c,d⟩:=Lib.mapM_at h i i (by simp[e]);exact⟨b,c,d⟩;cases h
def xoj(s:ByteArray):st s.data.toList=s:=by cases s;simp[st]
def Gk{H:Type}{enc:Zt×Zv->H}{W:Zy}{e:Nat}{a:Addr}{cs:Ze}{x:DataW H×List MemPlace}
  (f:W.cells? 0 a 5=bO cs)(I:DataW.trod enc bM W 0 (fun _=>bL) bL e 47 cs=bO x):
  ∃g off d,a=(zq g off)/\Ac.At W g off d:=by
 obtain⟨R,e0,m⟩:=JR f 0 (by decide);obtain⟨S,o,B⟩:=JR f 1 (by decide);obtain⟨T,p,C⟩:=JR f 2 (by decide);obtain⟨U,q,D⟩:=JR f 3 (by decide);obtain⟨V,r,E⟩:=JR f 4 (by decide);obtain⟨Q,n,_,rfl,z,h,b⟩:=DataW.trod_struct Tryz.underlying47 I;rw[Uc]at z
 match cs,z with
 |[u0,u1,u2,u3,u4],_=>
  match Q,h with
  |[x0,x1,x2,x3,x4],_=>
   have s:=b 0 _ rfl;have t:=b 1 _ rfl;have v:=b 2 _ rfl;have w:=b 3 _ rfl;have y:=b 4 _ rfl;simp only[Xl,Xb]at s t v w y;simp only[Xl,Xb,zp]at e0 o p q r;obtain⟨k,hk,_,_⟩:=DataW.trod_int Tryz.underlying3 s;obtain⟨M,K,_,j⟩:=DataW.trod_int Tryz.underlying3 t;obtain⟨L,J,_,i⟩:=DataW.trod_int Tryz.underlying3 v;obtain⟨N,F,_,_⟩:=DataW.trod_string Tryz.underlying9 w;obtain⟨O,G,_,_⟩:=DataW.trod_string Tryz.underlying9 y;cases hk;cases K;cases J;cases F;cases G;subst e0;subst o;subst p;subst q;subst r;obtain⟨g,off,l⟩:=a;have c:l=bN:=by simpa[Addr.add]using World.cell?_spot m
   subst c;rw[Go.WideShapes.add_plain]at m B C D E;refine⟨g,off,⟨k,M,L,N.data.toList,O.data.toList⟩,rfl,m,B,C,D,E,?_,?_⟩;simp only[Lit.wf,xl,X9]at j;exact j;simp only[Lit.wf,xl,X9]at i;exact i
def QQ{H:Type}{enc:Zt×Zv->H}{W:Zy}{j:Nat}{a0:Option Addr}{len cap:Nat}{x:DataW H×List MemPlace}
  (C:DataW.trod enc bM W 0 (fun _=>bL) bL j 22 (Value.slice a0 len cap).cells.toList=bO x):∃D,AL W.heap.size W (.slice a0 len cap) D:=by
 have q:DataW.trod enc bM W 0 (fun _=>bL) bL j 22 [Value.slice a0 len cap]=bO x:=C;rcases DataW.trod_slice Tryz.underlying22 q with⟨c,_⟩|⟨a,y,s,k,z,n,_,c,K,_,I,J,w,p,_,_⟩
 cases c;exact⟨[],bN,0,rfl,by simp,fun i h=>by simp at h⟩;cases c;have f:∀i,i<len->∃g b d,a.add (i*5)=(zq g b)/\Ac.At W g b d:=by
  intro i l;have v:=p i l;have r:i<k.length:=by omega
  rw[Uc,Yh r,Option.bind_eq_some_iff]at v;obtain⟨G,c,E⟩:=v;exact Gk c E
 have e:∀i,i<len->∃d,∃g b,bO a=bO ⟨g,b,bN⟩/\g<W.heap.size/\Ac.At W g (b+i*5) d:=by
  intro i l;obtain⟨B,F,_,o,_⟩:=f 0 (by omega);rw[Nat.zero_mul]at o;have o:a=(zq B F):=by simpa[Addr.add]using o
  subst o;obtain⟨g,b,d,t,m⟩:=f i l;rw[Go.WideShapes.add_plain]at t;cases t;exact⟨d,_,_,rfl,qz m.1,m⟩
 refine⟨List.ofFn fun i:Fin len=>Classical.choose<|e i i.2,bO a,cap,by rw[List.length_ofFn],by rw[List.length_ofFn];omega,fun i l=>?_⟩;rw[List.length_ofFn]at l;rw[List.getElem_ofFn];exact XZ<|e i l
end
section
open Go.ChangeShapes Go.WideShapes Go.ChangeAt Go.Conc
open Go.ChangeMaps (open_string shut_string)
def own:ownKnob Tryz.prog.godebug=bN:=by kernel_rfl
def UD:laidOutB bM=bL:=by kernel_rfl
def Gq:Tryz.prog.globalNamed "coffer/prim.roundWords"=bO 2:=by kernel_rfl
def Q2:(Tryz.prog.globals[2]?).map (·.type)=bO 236:=by kernel_rfl
def xw8:Tryz.prog.globalNamed "coffer/disk.ErrCrashed"=bO 0:=by kernel_rfl
def P3:(Tryz.prog.globals[0]?).map (·.type)=bO 212:=by kernel_rfl
def xw9:Tryz.prog.globalNamed "coffer/coffer.errTampered"=bO 1:=by kernel_rfl
def R1:(Tryz.prog.globals[1]?).map (·.type)=bO 212:=by kernel_rfl
def F0:Tryz.prog.cellsOf 236=64:=by kernel_rfl
def E6:Tryz.prog.cellsOf 232=1:=by kernel_rfl
def Ki:List Int:=[1116352408,1899447441,3049323471,3921009573,961987163,1508970993,2453635748,2870763221,3624381080,310598401,607225278,1426881987,1925078388,2162078206,2614888103,3248222580,3835390401,4022224774,264347078,604807628,770255983,1249150122,1555081692,1996064986,2554220882,2821834349,2952996808,3210313671,3336571891,3584528711,113926993,338241895,666307205,773529912,1294757372,1396182291,1695183700,1986661051,2177026350,2456956037,2730485921,2820302411,3259730800,3345764771,3516065817,3600352804,4094571909,275423344,430227734,506948616,659060556,883997877,958139571,1322822218,1537002063,1747873779,1955562222,2024104815,2227730452,2361852424,2428436474,2756734187,3204031479,3329325298]
def xs8:∀i:Fin 64,Ki.getD i.val 0=u (Kc i.val):=by decide+kernel
def ZV{P:Zp}{W:Zy}{x:String×DataW Unit}{rest:List<|String×DataW Unit}(h:laidMet P (x::rest) W):laidMet P rest W:=by
 obtain⟨r,⟨g,t,k,c,p,q,l,m,n,o,d,e⟩,j,f⟩:=h;subst e;exact⟨q,d,(List.nodup_append.1 j).2.1,fun b a i=>f b a<|List.mem_append_right _ i⟩
def vbg: "*" ++ "errors.errorString"= "*errors.errorString":=by decide
def row388(u:Zt)(h:Tryz.prog.typeName? 3 u=bO "*errors.errorString"):u=388:=
 typeName_ptr_named (nm:= "errors.errorString") (by rw[vbg];kernel_rfl) (by kernel_rfl) (by decide) u (by rw[vbg];exact h)
def cells410:Tryz.prog.cellsOf 410=1:=by kernel_rfl
def cells9:Tryz.prog.cellsOf 9=1:=by kernel_rfl
def vad{W:Zy}{n:String}{g:Nat}{v:Zv}(a:Tryz.prog.globalNamed n=bO g)(h:W.var? bM n=bO #[v]):W.cell? (zq g 0)=bO v:=by simpa using World.var?_cell a h 0
def xq3{W:Zy}(h:laidMetH bM Rows.unrepeatedRow.laid W):∃cv tv,iA cv tv W/\vac W.heap.size cv tv W:=by
 have g:laidMet bM [("coffer/prim.roundWords",Rows.laid_coffer_prim_roundWords),("coffer/disk.ErrCrashed",Rows.laid_coffer_disk_ErrCrashed),("coffer/coffer.errTampered",Rows.laid_coffer_coffer_errTampered)] W:=h;have t:Lib.TabIs bM W "coffer/prim.roundWords" .u32 Ki:=Lib.tabIs_of_head Gq Q2 Tryz.underlying236 Tryz.underlying232 E6 F0 g;obtain⟨l,m,s,v,n,p,q,r,d,f,_,_,_,_,_,_,c,a,b⟩:=laid_sentinels2 (ZV g) xw8 P3 xw9 R1 Tryz.underlying212 row388 Tryz.underlying388 Tryz.underlying410 rfl rfl Tryz.underlying9 cells410 cells9;have k:∀{i:Nat} {o:Obj},W.heap[i]?=bO o->i<W.heap.size:=fun h=>(za.1 h).1;refine⟨_,_,⟨⟨_,_,rfl,vad xw8 d⟩,⟨_,_,rfl,vad xw9 f⟩,fun i j=>?_⟩,l,m,n,p,q,r,rfl,rfl,fun e=>c e.symm,k a,k b,a,b⟩;rw[t.cell Gq i j,xs8 ⟨i,j⟩]
def WN.below{v u:Zy}(h:WN v u):Below v.blind.heap.size v.blind u.blind:=⟨h.1,rfl,h.2.1,h.2.2.1,h.c⟩
abbrev xqt:ByteArray:={data:=#[116,104,101,32,109,97,99,104,105,110,101,32,115,116,111,112,112,101,100]}
abbrev xvt:ByteArray:={data:=#[115,111,109,101,98,111,100,121,32,104,97,115,32,98,101,101,110,32,97,116,32,116,104,101,32,100,105,115,107]}
noncomputable def low:Nat:=(World.holding bM default ⟨#[],#[],[]⟩).heap.size
noncomputable def Mi(os:Os):Zy:=
 let w0:=World.holding bM os ⟨#[.cells #[.string xqt] 410,.cells #[.string xvt] 410],#[],[]⟩
 {w0 with heap:=((w0.heap.modify 2 fun
   | .cells _ t frozen=> .cells #[zu 1116352408,zu 1899447441,zu 3049323471,zu 3921009573,zu 961987163,zu 1508970993,zu 2453635748,zu 2870763221,zu 3624381080,zu 310598401,zu 607225278,zu 1426881987,zu 1925078388,zu 2162078206,zu 2614888103,zu 3248222580,zu 3835390401,zu 4022224774,zu 264347078,zu 604807628,zu 770255983,zu 1249150122,zu 1555081692,zu 1996064986,zu 2554220882,zu 2821834349,zu 2952996808,zu 3210313671,zu 3336571891,zu 3584528711,zu 113926993,zu 338241895,zu 666307205,zu 773529912,zu 1294757372,zu 1396182291,zu 1695183700,zu 1986661051,zu 2177026350,zu 2456956037,zu 2730485921,zu 2820302411,zu 3259730800,zu 3345764771,zu 3516065817,zu 3600352804,zu 4094571909,zu 275423344,zu 430227734,zu 506948616,zu 659060556,zu 883997877,zu 958139571,zu 1322822218,zu 1537002063,zu 1747873779,zu 1955562222,zu 2024104815,zu 2227730452,zu 2361852424,zu 2428436474,zu 2756734187,zu 3204031479,zu 3329325298] t frozen
   |o=>o).modify 0 fun
   | .cells _ t frozen=> .cells #[.iface 388<|zo low] t frozen
   |o=>o).modify 1 fun
   | .cells _ t frozen=> .cells #[.iface 388<|zo<|low+1] t frozen
   |o=>o}
def W1(a:Os):laidMet bM Rows.unrepeatedRow.laid ((Mi a).forCall (fun _ _=>0) ⟨#[],#[.string ⟨#[]⟩,zi 0,.slice bN 0 0],[]⟩).memory:=
 laidMet_of_run' 70 (by kernel_rfl) (by kernel_rfl)
def xvf(a:Os){H:Type}(enc:Zt×Zv->H):∃places,DataW.whole enc bM ((Mi a).forCall (fun _ _=>0) ⟨#[],#[.string ⟨#[]⟩,.int .i64 0,.slice bN 0 0],[]⟩).memory Tryz.f7.params.toList Rows.unrepeatedSpec.vars bK (#[Value.string ⟨#[]⟩,.int .i64 0,.slice bN 0 0]).toList 8=bO ([.lit<|.string [],.lit<|.int .i64 0,.nil],[],places):=
 ⟨[],by kernel_rfl⟩
def xxj{H:Type}{enc:Zt×Zv->H}(W:Zy)(base:Nat)(args:Za)(B gs:List<|DataW H)(b:List MemPlace)
  (a:∀(j:Nat) t v,Tryz.f7.params[j]?=bO t->args[j]?=bO v->Value.okWide bM W .any base t v)
  (K:DataW.Whole enc bM Tryz.f7.params.toList Rows.unrepeatedSpec.vars bK W args.toList B gs b)(U:laidMetH bM Rows.unrepeatedRow.laid W):
  ∃M last o w' t',runNT bM (M+1) (solo (G (bF bM 7 args .normal) []) W) #[]=(.ended o w',t')/\runN bM M (solo (G (bF bM 7 args .normal) []) W)= .next last/\step bM last= .ended o w'/\
   Conc.Good bM (fun v W'=>Rows.unrepeatedSpec.post enc bM Tryz.f7 bK bL bK bK W.blind args v W'.blind) last o w' t':=by
 have c:=K;obtain⟨p,q,d,V,rfl,Y,Z⟩:=K;have J:DataW.TrodAll enc bM W 0 (fun _=>bL) bL Tryz.f7.params.toList args.toList B p:=d;rw[Tryz.params7]at J a;obtain⟨v0,v1,v2,d0,d1,R,p0,p1,L,rfl,rfl,rfl,E,F,I⟩:=trodAll_three J;obtain⟨rfl,rfl⟩:=trodVars_none V;have l:=E;have m:=F;have n:=I;obtain⟨g,rfl,rfl,rfl,ba⟩:=open_string Tryz.underlying9 (a 0 9 v0 rfl rfl) E;obtain⟨n1,rfl,rfl,rfl,e⟩:=open_int Tryz.underlying3 (a 1 3 v1 rfl rfl) F;obtain⟨Q,z,k,rfl⟩:=okWide_slice Tryz.underlying22<|a 2 22 v2 rfl rfl;obtain⟨C,X⟩:=I;clear d;simp only[Xq]at c;have s:∀x∈L,x.block<W.heap.size:=fun x f=>c.lt x (by simpa using f);obtain⟨D,S⟩:=QQ X;obtain⟨cv,tv,T,r⟩:=xq3 U;have w:-9223372036854775808<=n1/\n1<=9223372036854775807:=by
  simp only[Lit.wf,xl,X9]at e;exact e
 obtain⟨M,last,o,w',t',N,O,r3,r4⟩:=Dd g.data.toList n1 w _ D T r S;rw[show st g.data.toList=g from xoj g]at N O;refine⟨M,last,o,w',t',N,O,r3,r4.mono fun v hp=>?_⟩;obtain⟨rfl,hk⟩:=hp;have i:=hk.below;have y:=DataW.Whole.of_heap (w':=W.blind) (by rfl) c;have t0:DataW.Trod enc bM W.blind 0 (fun _=>bL) bL 9 (.string g) _ []:=DataW.Trod.of_heap (by rfl) l;have t1:DataW.Trod enc bM W.blind 0 (fun _=>bL) bL 3 (.int .i64 n1) _ []:=DataW.Trod.of_heap (by rfl) m;have t2:DataW.Trod enc bM W.blind 0 (fun _=>bL) bL 22 (.slice Q z k) R L:=DataW.Trod.of_heap (by rfl) n;refine⟨_,_,_,[],_,[],y,trodAll_cons_mk (shut_bool Tryz.underlying4 _) trodAll_mk0,
  trodAll_cons_mk (Below.trod UD (by kernel_rfl) (Xj<|by kernel_rfl) t0 i fun x f=>by cases f) (trodAll_cons_mk (Below.trod UD (by kernel_rfl) (Xj<|by kernel_rfl) t1 i fun x f=>by cases f)
   (trodAll_cons_mk (Below.trod UD (by kernel_rfl) (Xj<|by kernel_rfl) t2 i s) trodAll_mk0)),rfl,i.frame _,fun h=>by cases h⟩
def lifted(h:Os)(a:h.Started)(H:Type)(enc:Zt×Zv->H):
  ReturnsInLeavingWide {} Tryz.checked h 7 .any ((OpenSpec.ofChange Rows.unrepeatedSpec).preRow enc bM Tryz.f7 Rows.unrepeatedRow.domain bK Rows.unrepeatedRow.laid) (Rows.unrepeatedSpec.post enc bM Tryz.f7 bK bL bK bK):=by
 obtain⟨j,v⟩:=xvf h enc;refine returnsInLeavingWide_of_good (C:=Tryz.checked) own a
  (witness_row_at (enc:=enc) (C:=Tryz.checked) (s:=OpenSpec.ofChange Rows.unrepeatedSpec) bK (Mi h) #[.string ⟨#[]⟩,zi 0,.slice bN 0 0] rfl (by kernel_rfl) (by kernel_rfl) (by kernel_rfl)
   (OpenSpec.preRow_of_cond 8 v (by kernel_rfl) (fun k hk=>by cases hk) (by kernel_rfl)<|W1 h)) ?_
 intro w c i _ _ _ m f _;obtain⟨_,_,_,l,d,_,_,_,_,g⟩:=m;have e:l=Tryz.f7:=jf<|d.symm.trans Tryz.func7;subst e;obtain⟨⟨r,q⟩,y⟩:=f;obtain⟨o,p,b,t,x,hk⟩:=OpenSpec.pre_parts r;have n:=DataW.Whole.of_heap (w':=w.forCall c i) (by rfl) t;exact xxj (w.forCall c i) w.heap.size i.args o p b g n<|q.of_heap<|by rfl
end
end P
end Go.Proofs.YtjnbhiamaabbgabGreatDoor
