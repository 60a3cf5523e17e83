/-
  slices.BinarySearchF. Conditions as told.
-/
import Derived.Test.YtghlpefopidlaaaGreatLQ015
import Derived.Deep.LoopGhost
import Derived.Test.YtghlpefopidlaaaGreatLQ011
set_option maxRecDepth 100000
set_option maxHeartbeats 64000000
open _root_.Go renaming World->ay,Value->aK,Calls->aM
open Go.Ending renaming returned->aA
open Go.IntKind renaming i64->aj
open Go.Lib renaming hid->D
open Go.Obj renaming cells->aH
open Go.Op renaming bytesLess->au
open Go.Proofs.Tryz renaming prog->Z,ntmps170->aI,func170->aJ
open Go.RowKit.Below renaming refl->aB
open Go.Value renaming string->J,int->ah,slice->aF,pointer->aN
open Go.World.ownsRow renaming stored->U,cellAt->aO
open _root_.List renaming length_map->L,getElem?_eq_some_iff->aC,getElem?_map->aD,getElem?_eq_getElem->aG,length_set->aL
open _root_.Nat renaming le_refl->O
open _root_.Option renaming none->V,some->ak
namespace Go.Proofs.YtghlpefopidlaaaGreat.Pr
open Go.RowKit Go.Sort Pu Rw Va
theorem Oo (a b:ByteArray) (w:ay):aM Z 202 #[J a,J b] w fun e w'=>e=aA (ah aj (IZ a b))/\w'=w:=by
 go_enter Tryz.func202,Tryz.ntmps202;go_wp2_with fail;rw [run_callFunc_extern Tryz.func204 (by kernel_rfl) (by kernel_rfl) (by kernel_rfl) (e:=Extern.BytealgCompare.compare) (by kernel_rfl),Lib.run_compareString];simp only [Result.andThen];rw [Oper.upon_value];go_wp2;go_ret;exact⟨rfl,rfl⟩
theorem qW (a b:ByteArray) (w:ay):aM Z 197 #[J a,J b] w fun e w'=>e=aA (ah aj (IZ a b))/\w'=w:=by
 go_enter Tryz.func197,Tryz.ntmps197;go_wp2_with fail;refine (Oo a b w).mono ?_;rintro e w' ⟨rfl,rfl⟩;go_wp2;go_ret;exact⟨rfl,rfl⟩
theorem Oq (c d:C5) (w:ay):aM Z 190 #[cv c,cv d] w fun e w'=>e=aA (ah aj (IZ c.1 d.1))/\Below w.heap.size w w':=by
 go_enter Tryz.func190,Tryz.ntmps190;go_wp2_with fail;refine (qW c.1 d.1 _).mono ?_;rintro e w' ⟨rfl,rfl⟩;go_wp2;go_ret;exact⟨rfl,((aB w.heap.size w).alloc (O _) _).alloc (by simp) _⟩
theorem Gy (c d:C5) (r:Int) (hr:IZ c.1 d.1=r) (w:ay) (k:Nat) (os:Array Obj) :
  aM Z 190 #[cv c,cv d] (grow (redrawn w k) os) fun e w''=>e=aA (ah aj r)/\∃ p:Regrown,w''=grow (redrawn w p.d) p.os:=by
 subst hr;exact Calls.regrown_of (Oq c d _)
theorem nY {W W1:ay} {v:aK} {l:List C5} {ao:Option Addr} {n c k:Nat} {x:C5} (h:fI W v l) (hv:v=aF ao n c) (hn:l.length=n) (hk:l[k]?=ak x) (hb:Below W.heap.size W W1) :
  ∃ p:Addr,(∀ w,(Instr.indexAt 34 (aF ao n c) (ah aj k)).run Z w=.ok (aN (ak p)) w) /\
   (∀ d os,(grow (redrawn W1 d) os).cell? p=ak (J x.1))/\(∀ d os,(grow (redrawn W1 d) os).cell? ⟨p.block,p.off+1,V⟩=ak (ah aj x.2.1))/\(∀ d os,(grow (redrawn W1 d) os).cell? ⟨p.block,p.off+2,V⟩=ak (ah aj x.2.2.1))/\(∀ d os,(grow (redrawn W1 d) os).cell? ⟨p.block,p.off+3,V⟩=ak (ah aj x.2.2.2.1))/\(∀ d os,(grow (redrawn W1 d) os).cell? ⟨p.block,p.off+4,V⟩=ak (J x.2.2.2.2)):=by
 obtain⟨p,h1,h2⟩:=elC h hv hn hk;obtain⟨c0,c1,c2,c3,c4⟩:=h2 _ hb;exact⟨p,h1,cell_regrown c0,cell_regrown c1,cell_regrown c2,cell_regrown c3,cell_regrown c4⟩
theorem oK {W:ay} {b:Nat} {c:C5} (h:dK W b (cells5 c).toArray 91):(∀ d os,(grow (redrawn W d) os).cell? ⟨b,0,V⟩=ak (J c.1))/\(∀ d os,(grow (redrawn W d) os).cell? ⟨b,1,V⟩=ak (ah aj c.2.1))/\(∀ d os,(grow (redrawn W d) os).cell? ⟨b,2,V⟩=ak (ah aj c.2.2.1))/\(∀ d os,(grow (redrawn W d) os).cell? ⟨b,3,V⟩=ak (ah aj c.2.2.2.1))/\(∀ d os,(grow (redrawn W d) os).cell? ⟨b,4,V⟩=ak (J c.2.2.2.2)) :=
 ⟨cell_regrown (h.cell 0),cell_regrown (h.cell 1),cell_regrown (h.cell 2),cell_regrown (h.cell 3),cell_regrown (h.cell 4)⟩
theorem XK (v:aK) (l:List Cn) (c:Cn) (w:ay) (hv:fI w v (l.map r5)) (hr:iU l) (hl:l.length<=100) :
  aM Z 189 #[v,cv (r5 c),.func (.func 190) #[] #[]] w fun e w'=>e=aA (.tuple #[ah aj (kZ l c.1),.bool (lG l c.1)])/\Below w.heap.size w w':=by
 have a4:=D hv;have b9:=D hr;have c7:=D (show (l.map r5).length=l.length from L ..);have a8:=D (dQ w (cells5 (r5 c)).toArray 91);have c8:=D ((aB w.heap.size w).alloc (O _) (aH (cells5 (r5 c)).toArray 91));obtain⟨ao,ac,rfl⟩:=hv.len;rw [L] at a4 ⊢;obtain⟨n,hn⟩:∃ n,n=l.length:=⟨_,rfl⟩;rw [<- hn] at a4 hl ⊢;have T:=D hn;obtain⟨cnt,hc⟩:∃ k,k=kZ l c.1:=⟨_,rfl⟩;obtain⟨th,ht⟩:∃ k,k=lG l c.1:=⟨_,rfl⟩;rw [<- hc,<- ht];have a7:=D hc;have aE:=D ht;clear hv hr hn hc ht;go_enter Tryz.func189,Tryz.ntmps189;go_wp2;change Code.wp _ _ _ _ (w.alloc (aH (cells5 (r5 c)).toArray 91));generalize w.alloc (aH (cells5 (r5 c)).toArray 91)=w1 at *
 go_loopg [9,10] n (fun kx s9 s10 wr=>∃ lo hi:Nat,s9=ah aj lo/\s10=ah aj hi/\lo<=hi/\hi<=n/\hi-lo<=kx/\Below w.heap.size w wr/\dK wr w.heap.size (cells5 (r5 c)).toArray 91 /\
  (∀ (t:Nat) (y:Cn),t<lo->l[t]?=ak y->au y.1.toList c.1.toList=true)/\(∀ (t:Nat) (y:Cn),hi<=t->l[t]?=ak y->au y.1.toList c.1.toList=false))
 case atStart=>exact⟨0,n,rfl,rfl,Nat.zero_le _,O _,by omega,c8.out,a8.out,fun t y h=>by omega,fun t y h1 h2=>by have:=(aC.1 h2).1; have:=T.out; omega⟩
 case round =>
  clear c8 a8;obtain⟨lo,hi,rfl,rfl,hlh,hin,hg,hb,hx,ha,hz⟩:=hrel;have B:=D hb;have X:=D hx;have bQ:=D ha;have bJ:=D hz;clear hb hx ha hz;by_cases hlt:lo<hi
  ·obtain⟨y,hy⟩:∃ y,l[(lo+hi) / 2]?=ak y:=⟨_,aG (by have:=T.out; omega)⟩;obtain⟨p,ix,p0,p1,p2,p3,p4⟩:=nY (x:=r5 y) a4.out rfl (c7.out.trans T.out.symm) (by rw [aD,hy]; rfl) B.out;obtain⟨b0,b1,b2,b3,b4⟩:=oK X.out;obtain⟨r,hr⟩:∃ r,IZ y.1 c.1=r:=⟨_,rfl⟩;have C:=Gy (r5 y) (r5 c) r hr wr;have c9:=D (show decide (r<0)=au y.1.toList c.1.toList by rw [<- hr]; exact Tq _ _);have Y:=D hy;simp only [r5] at p0 p1 p2 p3 p4 b0 b1 b2 b3 b4 C ⊢;clear hy hr;have e23:((lo:Int)+(hi:Int)) / 2=(((lo+hi) / 2:Nat):Int):=by omega
   generalize hm:(lo+hi) / 2=m at *;have a0:=D (fun dq osq=>B.out.trans ((below_regrown wr dq osq).mono B.out.size));have cA:=D (fun dq osq=>X.out.on (below_regrown wr dq osq));by_cases hneg:r<0
   ·have d0:decide (r<0)=true:=by simpa using hneg
    have a3:=D (show au y.1.toList c.1.toList=true by rw [<- c9.out]; exact d0);go_wp2;refine wp_region_quiet_below (by kernel_rfl) (by kernel_rfl) ?_
    repeat (go_big_quiet_step (first | (with_reducible exact C _ _) | exact vD _ _))
    refine wpQuiet_nil ?_;intro _ hw';obtain⟨⟨dq,osq⟩,hw''⟩:=hw';subst hw'';clear ix p0 p1 p2 p3 p4 b0 b1 b2 b3 b4 C;go_wp2
    go_roundg (hi-(m+1))
    case measure=>omega
    case rel=>exact⟨m+1,hi,by go_num,rfl,by omega,hin,O _,a0.out _ _,cA.out _ _,fun t z h1 h2=>by
     rcases Nat.lt_or_ge t m with h3|h3
     ·exact F7 b9.out (by omega) h2 Y.out a3.out
     ·obtain rfl:t=m:=by omega
      rw [Y.out] at h2;rw [<- Option.some.inj h2];exact a3.out,bJ.out⟩
   ·have d0:decide (r<0)=false:=by simpa using hneg
    have a3:=D (show au y.1.toList c.1.toList=false by rw [<- c9.out]; exact d0);go_wp2;refine wp_region_quiet_below (by kernel_rfl) (by kernel_rfl) ?_
    repeat (go_big_quiet_step (first | (with_reducible exact C _ _) | exact vD _ _))
    refine wpQuiet_nil ?_;intro _ hw';obtain⟨⟨dq,osq⟩,hw''⟩:=hw';subst hw'';clear ix p0 p1 p2 p3 p4 b0 b1 b2 b3 b4 C;go_wp2
    go_roundg (m-lo)
    case measure=>omega
    case rel=>exact⟨lo,m,rfl,rfl,by omega,by omega,O _,a0.out _ _,cA.out _ _,bQ.out,fun t z h1 h2=>by
     cases h:au z.1.toList c.1.toList
     ·rfl
     ·have:=F7 b9.out h1 Y.out h2 h;rw [a3.out] at this;cases this⟩
  ·obtain rfl:hi=lo:=by omega
   have E:=D (P6 l c.1 hi (by have:=T.out; omega) bQ.out (fun z hz=>bJ.out hi z (O _) hz));by_cases hn:hi<n
   ·obtain⟨y,hy⟩:∃ y,l[hi]?=ak y:=⟨_,aG (by have:=T.out; omega)⟩;obtain⟨p,ix,p0,p1,p2,p3,p4⟩:=nY (x:=r5 y) a4.out rfl (c7.out.trans T.out.symm) (by rw [aD,hy]; rfl) B.out;obtain⟨b0,b1,b2,b3,b4⟩:=oK X.out;obtain⟨r,hr⟩:∃ r,IZ y.1 c.1=r:=⟨_,rfl⟩;have C:=Gy (r5 y) (r5 c) r hr wr;have a5:=D (show th=(r == 0) by
     rw [aE.out,lG,E.out,hy,Bool.eq_iff_iff,beq_iff_eq,<- hr,Tt,decide_eq_true_eq])
    simp only [r5] at p0 p1 p2 p3 p4 b0 b1 b2 b3 b4 C ⊢;have a0:=D (fun dq osq=>B.out.trans ((below_regrown wr dq osq).mono B.out.size));have a6:=D (show cnt=hi by rw [a7.out,E.out]);clear hy hr hlt;have g4:decide ((hi:Int)<(n:Int))=true:=by simp; omega
    go_wp2;refine wp_region_quiet_below (by kernel_rfl) (by kernel_rfl) ?_
    repeat (go_big_quiet_step (first | (with_reducible exact C _ _) | exact vD _ _))
    refine wpQuiet_nil ?_;intro _ hw';obtain⟨⟨dq,osq⟩,hw''⟩:=hw';subst hw'';clear ix p0 p1 p2 p3 p4 b0 b1 b2 b3 b4 C;go_wp2
    go_ret2
    exact⟨by rw [a5.out,a6.out]; rfl,a0.out _ _⟩
   ·have a5:=D (show th=false by
     rw [aE.out,lG,E.out,List.getElem?_eq_none (by have:=T.out; omega)])
    have a6:=D (show cnt=hi by rw [a7.out,E.out]);have a0:=D (fun dq osq=>B.out.trans ((below_regrown wr dq osq).mono B.out.size));have g4:decide ((hi:Int)<(n:Int))=false:=by simp; omega
    clear hlt;go_wp2;refine wp_region_quiet_below (by kernel_rfl) (by kernel_rfl) ?_
    repeat (go_big_quiet_step (first | (with_reducible exact C _ _) | exact vD _ _))
    refine wpQuiet_nil ?_;intro _ hw';obtain⟨⟨dq,osq⟩,hw''⟩:=hw';subst hw'';go_wp2
    go_ret2
    exact⟨by rw [a5.out,a6.out]; rfl,a0.out _ _⟩
def oL (m:List Cn) (c:Cn):Except Int (List Cn):=match ng m c with
 | none=>.error 5
 | some m'=>if 5<m'.length then .error 7 else .ok m'
def XM (B:Nat) (r:Except Int (List Cn)) (W:ay) (e:Ending) (w':ay):Prop:=Below B W w'/\(match r with
 | .ok m'=>∃ v',e=aA (.tuple #[v',.nilIface])/\iJ w' B v' (m'.map r5)
 | .error k=>e=aA (.tuple #[aF V 0 0,.iface 211 (ah aj k)]))
theorem Ui {m:List Cn} {c:Cn} (h:lG m c.1=false) (h5:m.length=5):oL m c=.error 7:=by
 unfold oL;rw [Bd h];have:=xO m c.1;simp only;rw [if_pos (by simp; omega)]
theorem Uj {m:List Cn} {c:Cn} (h:lG m c.1=false) (h5:m.length<5):oL m c=.ok (m.take (kZ m c.1)++c::m.drop (kZ m c.1)):=by
 unfold oL;rw [Bd h];have:=xO m c.1;simp only;rw [if_neg (by simp; omega)]
theorem Gz:∀ (l:List C5) (k:Nat) (x:C5),k<l.length->flat EC (l.set k x)=((((( flat EC l).set (k * 5) (J x.1)).set (k * 5+1) (ah aj x.2.1)).set (k * 5+2) (ah aj x.2.2.1)).set (k * 5+3) (ah aj x.2.2.2.1)).set (k * 5+4) (J x.2.2.2.2)
 | [],k,x,h=>by simp at h
 | y::r,0,x,_=>by simp [flat,EC,cells5]
 | y::r,k+1,x,h=>by
  have h2:=Gz r k x (by simpa using h);have e:∀ j u (zs:List aK),(cells5 y++zs).set (5+j) u=cells5 y++zs.set j u:=fun j u zs=>by simp [cells5,Nat.add_comm 5 j]
  simp only [List.set_cons_succ,flat,h2];show cells5 y++_=_;rw [show (k+1) * 5=5+k * 5 by omega,show 5+k * 5+1=5+(k * 5+1) by omega,show 5+k * 5+2=5+(k * 5+2) by omega,show 5+k * 5+3=5+(k * 5+3) by omega,show 5+k * 5+4=5+(k * 5+4) by omega];show _=((((( cells5 y++flat EC r).set _ _).set _ _).set _ _).set _ _).set _ _;rw [e,e,e,e,e]
theorem GH {W:ay} {B g n cap k:Nat} {l:List C5} {x:C5} (h:iJ W B (aF (ak ⟨g,0,V⟩) n cap) l) (hn:n=l.length) (hk:k<n) :
  iJ (((((W.setCell ⟨g,k * 5,V⟩ (J x.1)).setCell ⟨g,k * 5+1,V⟩ (ah aj x.2.1)).setCell ⟨g,k * 5+2,V⟩ (ah aj x.2.2.1)).setCell ⟨g,k * 5+3,V⟩ (ah aj x.2.2.2.1)).setCell ⟨g,k * 5+4,V⟩ (J x.2.2.2.2)) B (aF (ak ⟨g,0,V⟩) n cap) (l.set k x):=by
 subst hn;have o1:=(U h (k * 5) (J x.1)).1;have o2:=(U o1 (k * 5+1) (ah aj x.2.1)).1;have o3:=(U o2 (k * 5+2) (ah aj x.2.2.1)).1;have o4:=(U o3 (k * 5+3) (ah aj x.2.2.2.1)).1;have o5:=(U o4 (k * 5+4) (J x.2.2.2.2)).1;rw [<- Gz l k x hk] at o5;show World.ownsRow _ _ _ _ _ (l.set k x).length _;rw [aL];exact o5
theorem xY {B:Nat} {W w:ay} (h:Below B W w) (g:Nat) (hB:B<=g) (o:Nat) (T a0 a3 a4 a5:aK):Below B W (((((w.setCell ⟨g,o,V⟩ T).setCell ⟨g,o+1,V⟩ a0).setCell ⟨g,o+2,V⟩ a3).setCell ⟨g,o+3,V⟩ a4).setCell ⟨g,o+4,V⟩ a5) :=
 ((((h.setCell hB _).setCell hB _).setCell hB _).setCell hB _).setCell hB _
theorem wm {W:ay} {b:Nat} {z:C5} (h:dK W b (cells5 z).toArray 91) (x:C5):dK (((((W.setCell ⟨b,0,V⟩ (J x.1)).setCell ⟨b,1,V⟩ (ah aj x.2.1)).setCell ⟨b,2,V⟩ (ah aj x.2.2.1)).setCell ⟨b,3,V⟩ (ah aj x.2.2.2.1)).setCell ⟨b,4,V⟩ (J x.2.2.2.2)) b (cells5 x).toArray 91:=by
 have h1:=heap_setCell_same W b 0 _ 91 (J x.1) h;have h2:=heap_setCell_same _ b 1 _ 91 (ah aj x.2.1) h1;have h3:=heap_setCell_same _ b 2 _ 91 (ah aj x.2.2.1) h2;have h4:=heap_setCell_same _ b 3 _ 91 (ah aj x.2.2.2.1) h3;have h5:=heap_setCell_same _ b 4 _ 91 (J x.2.2.2.2) h4;unfold dK;rw [h5];simp [cells5]
theorem acf {W:ay} {B:Nat} {v:aK} {l:List C5} (h:iJ W B v l) {b:Nat} (hb:W.heap.size<=b):v.ownBlock≠ak b:=by
 intro e;have:=(h.lt b e).2;omega
theorem XO (B:Nat) (v:aK) (m:List Cn) (c:Cn) (W:ay) (ho:iJ W B v (m.map r5)) (hr:iU m) (h5:m.length<=5) (hB:B<=W.heap.size) (ht:lG m c.1=false) :
  aM Z 170 #[v,cv (r5 c)] W (XM B (oL m c) W):=by
 have a4:=D (dQ W (cells5 (r5 c)).toArray 91);have T:=D ((aB W.heap.size W).alloc (O _) (aH (cells5 (r5 c)).toArray 91));have a0:=D (XK v m c (W.alloc (aH (cells5 (r5 c)).toArray 91)) ((Row.dJ ho).on T.out) hr (by omega));have a8:=D ho;have bJ:=D (show (m.map r5).length=m.length from L ..);have aE:=D (xO m c.1);obtain⟨ao,ac,rfl⟩:=(Row.dJ ho).len;rw [bJ.out] at *;rw [ht] at a0;have hbw:W.heap.size<(W.alloc (aH (cells5 (r5 c)).toArray 91)).heap.size:=by simp
 by_cases hf:m.length=5
 ·have Q:=D (Ui ht hf);generalize oL m c=q at *;have e5:((m.length:Int) == (5:Int))=true:=by simp; omega
  clear ho hf;simp only [r5] at a0 ⊢;go_enter aJ,aI;go_wp2_with fail;refine a0.out.mono ?_;rintro e2 w2 ⟨rfl,hb2⟩;have a3:=D (T.out.trans (hb2.mono T.out.size));clear hb2 a0 T a4;go_wp2
  go_ret2
  exact⟨a3.out.mono hB,by rw [Q.out]; rfl⟩
 ·have Q:=D (Uj ht (show m.length<5 by omega));have a5:=D (fun (w2:ay) (h2:iJ w2 B (aF ao m.length ac) (m.map r5)) (hB2:B<=w2.heap.size)=>NU B (aF ao m.length ac) (m.map r5) (kZ m c.1) (r5 c) w2.heap.size (w2.alloc (aH (cells5 (r5 c)).toArray 91)) (dI h2 ((aB _ _).alloc (O _) _)) (dQ w2 _ _) (acf h2 (O _)) (by rw [L]; exact aE.out) (by rw [L]; omega) (by simp; omega));generalize oL m c=q at *;have e5:((m.length:Int) == (5:Int))=false:=by rw [beq_eq_false_iff_ne]; omega
  clear ho hf;simp only [r5] at a0 ⊢;go_enter aJ,aI;go_wp2_with fail;refine a0.out.mono ?_;rintro e2 w2 ⟨rfl,hb2⟩;have a3:=D (T.out.trans (hb2.mono T.out.size));have a6:=D (dI a8.out a3.out);obtain⟨x0,x1,x2,x3,x4⟩:=fG (a4.out.on hb2);simp only [r5] at x0 x1 x2 x3 x4;clear hb2 a0 T a4;go_wp2_with fail;have C:=a5.out w2 a6.out (by have:=a3.out.size; omega);refine C.mono ?_;rintro e3 w3 ⟨v',rfl,ho3,hb3⟩;have b9:=D (((a3.out.mono hB).alloc (by have:=a3.out.size; omega) (aH (cells5 (r5 c)).toArray 91)).trans hb3);have a7:=D ho3;clear ho3 hb3 C a5 a6 x0 x1 x2 x3 x4;go_wp2
  go_ret2
  exact⟨b9.out,by rw [Q.out]; exact⟨v',rfl,by rw [List.map_append,List.map_cons,List.map_take,List.map_drop]; exact a7.out⟩⟩
theorem XP (B:Nat) (v:aK) (m:List Cn) (c:Cn) (W:ay) (ho:iJ W B v (m.map r5)) (hr:iU m) (h5:m.length<=5) (hB:B<=W.heap.size) (ht:lG m c.1=true) :
  aM Z 170 #[v,cv (r5 c)] W (XM B (oL m c) W):=by
 obtain⟨x,hx,hn,hi⟩:=vU ht;have d7:=D (dQ W (cells5 (r5 c)).toArray 91);have a3:=D ((aB W.heap.size W).alloc (O _) (aH (cells5 (r5 c)).toArray 91));have a0:=D (XK v m c (W.alloc (aH (cells5 (r5 c)).toArray 91)) ((Row.dJ ho).on a3.out) hr (by omega));rw [ht] at a0;have a4:=D (fun w=>Ki x c w hn);have Q:=D (show oL m c=match fH x.2 c.2 with
  | some k=>.ok (m.set (kZ m c.1) (x.1,k))
  | none=>.error 5 by
   unfold oL;rw [hi];cases fH x.2 c.2 with
   | none=>rfl
   | some k=>simp only [Option.map_some]; rw [if_neg (by rw [aL]; omega)])
 generalize oL m c=q at *;generalize fH x.2 c.2=r at *;have hkl:kZ m c.1<m.length:=(aC.1 hx).1;generalize hk:kZ m c.1=k at *;have e7:=D hkl;have dA:=D (show (m.map r5).length=m.length from L ..);rcases gB ho with⟨_,h2⟩|⟨g,cap,cur,rfl,hBg,hg,hlc,hcm,hsz,htk⟩
 ·have:=List.map_eq_nil_iff.1 h2;subst this;simp at hkl
 ·have fl:=AZ wF (m.map r5) k (r5 x) (by rw [aD,hx]; rfl);have cl:∀ j u,j<5->(cells5 (r5 x))[j]?=ak u->W.cell? ⟨g,k * 5+j,V⟩=ak u:=fun j u hj hu=>(aO ho (k * 5+j) (by rw [L]; show _<m.length * 5; omega)).trans ((fl j hj).trans hu);have a6:=D (fun (w2:ay) (hb:Below W.heap.size W w2)=>show w2.cell? ⟨g,k * 5,V⟩=ak (J x.1)/\w2.cell? ⟨g,k * 5+1,V⟩=ak (ah aj (kN x.2))/\w2.cell? ⟨g,k * 5+2,V⟩=ak (ah aj (kH x.2))/\w2.cell? ⟨g,k * 5+3,V⟩=ak (ah aj (kI x.2))/\w2.cell? ⟨g,k * 5+4,V⟩=ak (J (kT x.2)) from
   ⟨(hb.cell (show g<W.heap.size from hg.lt)).trans (cl 0 _ (by decide) rfl),(hb.cell (show g<W.heap.size from hg.lt)).trans (cl 1 _ (by decide) rfl),(hb.cell (show g<W.heap.size from hg.lt)).trans (cl 2 _ (by decide) rfl),(hb.cell (show g<W.heap.size from hg.lt)).trans (cl 3 _ (by decide) rfl),(hb.cell (show g<W.heap.size from hg.lt)).trans (cl 4 _ (by decide) rfl)⟩)
  have a5:=D ho;have dC:=D hg.lt;have dT:=D hBg;have dE:=D (show dK W g cur 91 from hg);rw [L] at a5 a0 ⊢;generalize m.length=n at *;have ix:=nT wF g k n cap (by omega);change ∀ w,(Instr.indexAt 34 (aF (ak ⟨g,0,V⟩) n cap) (ah aj k)).run Z w=.ok (aN (ak ⟨g,k * 5,V⟩)) w at ix;clear ho hr ht hx hi hk hg hlc hcm hsz htk fl cl hBg hn;simp only [r5] at a0 a4 ⊢;go_enter aJ,aI;go_wp2_with fail;refine a0.out.mono ?_;rintro e2 w2 ⟨rfl,hb2⟩;have T:=D (a3.out.trans (hb2.mono a3.out.size));obtain⟨x0,x1,x2,x3,x4⟩:=fG (d7.out.on hb2);obtain⟨p0,p1,p2,p3,p4⟩:=a6.out w2 T.out;have hw2:W.heap.size<w2.heap.size:=by have:=hb2.size; simp at this; omega
  have hg2:g<w2.heap.size:=by have:=dC.out; omega
  have gc1:∀ o,(w2.drew.alloc o).cell? ⟨g,k * 5,V⟩=ak (J x.1):=fun o=>((aB w2.heap.size w2.drew).alloc (O _) o).cell hg2 |>.trans p0;simp only [r5] at x0 x1 x2 x3 x4;clear hb2 a0 a3 d7 gc1;go_wp2_with fail
  rename_i K hK
  have TAIL:∀ (pb:Nat) (wf:ay) (y:C5) (a7 a8 aE b9 bJ bQ c7 c8 c9 cA cC cD cF cG cH cI cJ cL cM cN cP cQ cR cS cT cU cV cW cX cY d1 d3 d4 d5:aK),dK wf pb (cells5 y).toArray 91->Below W.heap.size W wf->(∀ k',r=ak k'->y=r5 (x.1,k'))->K ⟨#[aF (ak ⟨g,0,V⟩) n cap,cv (c.1,kN c.2,kH c.2,kI c.2,kT c.2),undef,aN (ak ⟨W.heap.size,0,V⟩),aF V 0 0,.nilIface,ah aj k,.bool true,aN (ak ⟨pb,0,V⟩),.bool r.isSome,a7,a8,aE,b9,bJ,bQ,c7,c8,c9,cA,cC,cD,cF,cG,cH,cI,cJ,cL,cM,cN,cP,cQ,cR,cS,cT,cU,cV,cW,cX,cY,d1,d3,d4,d5],[]⟩ wf:=by
   clear x0 x1 x2 x3 x4 p0 p1 p2 p3 p4 a4 T hw2 hg2;intro pb wf y a7 a8 aE b9 bJ bQ c7 c8 c9 cA cC cD cF cG cH cI cJ cL cM cN cP cQ cR cS cT cU cV cW cX cY d1 d3 d4 d5 hyb hbw hyk;obtain⟨y0,y1,y2,y3,y4⟩:=fG hyb;have OF:=dI a5.out hbw;have fz:=fun j=>(dE.out.on hbw).fr j;obtain⟨p0,p1,p2,p3,p4⟩:=a6.out wf hbw;have d9:=D hbw;have dS:=D OF;have e9:=D hyk;clear hyb hbw OF a6 a5 hyk;apply hK;clear hK;rcases r with _|k'
   ·have QQ:=D (show q=.error 5 from Q.out);clear Q;go_wp2
    go_ret2
    exact⟨d9.out.mono hB,by rw [QQ.out]; rfl⟩
   ·have QQ:=D (show q=.ok (m.set k (x.1,k')) from Q.out);clear Q;go_wp2
    go_ret2
    refine⟨xY (d9.out.mono hB) g dT.out _ _ _ _ _ _,?_⟩;rw [QQ.out];refine⟨aF (ak ⟨g,0,V⟩) n cap,rfl,?_⟩;rw [List.map_set,<- e9.out k' rfl];exact GH dS.out dA.out.symm e7.out
  clear hK
  go_region_with (go_at_call 133; refine (a4.out _).mono ?_; rintro e w3 ⟨⟨y,rfl,hy⟩,hb3⟩; (try (have ZB:=D ((dQ w2.drew (cells5 (⟨#[]⟩,0,0,0,⟨#[]⟩)).toArray 91).on hb3); obtain⟨z0,z1,z2,z3,z4⟩:=fG ZB.out; have fz:=fun k=>ZB.out.fr k; simp only [World.size_drew] at z0 z1 z2 z3 z4 fz)))
  all_goals simp only [Exit.then]
  all_goals first
   | exact TAIL w3.heap.size _ y _ _ _ _ _ _ _ _ _ _ _ _ _ _ _ _ _ _ _ _ _ _ _ _ _ _ _ _ _ _ _ _ _ _ (dQ w3 _ _) (((T.out.drew).trans (hb3.mono (by have:=T.out.size; simp; omega))).alloc (by have:=hb3.size; have:=T.out.size; simp at *; omega) _) hy
   | exact TAIL w2.heap.size _ y _ _ _ _ _ _ _ _ _ _ _ _ _ _ _ _ _ _ _ _ _ _ _ _ _ _ _ _ _ _ _ _ _ _ (wm ((dQ w2.drew (cells5 (⟨#[]⟩,0,0,0,⟨#[]⟩)).toArray 91).on hb3) y) (iR (((T.out.drew).alloc (by have:=T.out.size; simp; omega) _).trans (hb3.mono (by have:=T.out.size; simp; omega))) w2.heap.size (by have:=T.out.size; omega) _ _ _ _ _) hy
theorem XQ (B:Nat) (v:aK) (m:List Cn) (c:Cn) (W:ay) (ho:iJ W B v (m.map r5)) (hr:iU m) (h5:m.length<=5) (hB:B<=W.heap.size) :
  aM Z 170 #[v,cv (r5 c)] W (XM B (oL m c) W):=by
 cases h:lG m c.1
 ·exact XO B v m c W ho hr h5 hB h
 ·exact XP B v m c W ho hr h5 hB h
end Go.Proofs.YtghlpefopidlaaaGreat.Pr
