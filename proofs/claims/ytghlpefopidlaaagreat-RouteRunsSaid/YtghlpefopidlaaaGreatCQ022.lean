/-
  slices.BinarySearchF. Conditions as told.
-/
import Derived.Deep.LoopGhost
import Derived.Test.YtghlpefopidlaaaGreatCQ021
import Derived.Test.YtghlpefopidlaaaGreatCQ011
set_option maxRecDepth 100000
set_option maxHeartbeats 64000000
open _root_.Go renaming World->ay,Value->aK,Calls->aM
open Go.Ending renaming returned->aA
open Go.IntKind renaming i64->aj
open Go.Lib renaming hid->D
open Go.Obj renaming cells->aH
open Go.Op renaming bytesLess->au
open Go.Proofs.Tryz renaming prog->Z,ntmps170->aI,func170->aJ
open Go.RowKit.Below renaming refl->aB
open Go.Value renaming string->J,int->ah,slice->aF,pointer->aN
open Go.World.ownsRow renaming stored->U,cellAt->aO
open _root_.List renaming length_map->L,getElem?_eq_some_iff->aC,getElem?_map->aD,getElem?_eq_getElem->aG,length_set->aL
open _root_.Nat renaming le_refl->O
open _root_.Option renaming none->V,some->ak
namespace Go.Proofs.YtghlpefopidlaaaGreat.Pr
open Go.RowKit Go.Sort Pu Rw Va
theorem yM (a b:ByteArray) (w:ay):aM Z 202 #[J a,J b] w fun e w'=>e=aA (ah aj (uO a b))/\w'=w:=by
 go_enter Tryz.func202,Tryz.ntmps202;go_wp2_with fail;rw [run_callFunc_extern Tryz.func204 (by kernel_rfl) (by kernel_rfl) (by kernel_rfl) (e:=Extern.BytealgCompare.compare) (by kernel_rfl),Lib.run_compareString];simp only [Result.andThen];rw [Oper.upon_value];go_wp2;go_ret;exact⟨rfl,rfl⟩
theorem jO (a b:ByteArray) (w:ay):aM Z 197 #[J a,J b] w fun e w'=>e=aA (ah aj (uO a b))/\w'=w:=by
 go_enter Tryz.func197,Tryz.ntmps197;go_wp2_with fail;refine (yM a b w).mono ?_;rintro e w' ⟨rfl,rfl⟩;go_wp2;go_ret;exact⟨rfl,rfl⟩
theorem yN (c d:C5) (w:ay):aM Z 190 #[cv c,cv d] w fun e w'=>e=aA (ah aj (uO c.1 d.1))/\Below w.heap.size w w':=by
 go_enter Tryz.func190,Tryz.ntmps190;go_wp2_with fail;refine (jO c.1 d.1 _).mono ?_;rintro e w' ⟨rfl,rfl⟩;go_wp2;go_ret;exact⟨rfl,((aB w.heap.size w).alloc (O _) _).alloc (by simp) _⟩
theorem tu (c d:C5) (r:Int) (hr:uO c.1 d.1=r) (w:ay) (k:Nat) (os:Array Obj) :
  aM Z 190 #[cv c,cv d] (grow (redrawn w k) os) fun e w''=>e=aA (ah aj r)/\∃ p:Regrown,w''=grow (redrawn w p.d) p.os:=by
 subst hr;exact Calls.regrown_of (yN c d _)
theorem qO {W W1:ay} {v:aK} {l:List C5} {ao:Option Addr} {n c k:Nat} {x:C5} (h:fI W v l) (hv:v=aF ao n c) (hn:l.length=n) (hk:l[k]?=ak x) (hb:Below W.heap.size W W1) :
  ∃ p:Addr,(∀ w,(Instr.indexAt 34 (aF ao n c) (ah aj k)).run Z w=.ok (aN (ak p)) w) /\
   (∀ d os,(grow (redrawn W1 d) os).cell? p=ak (J x.1))/\(∀ d os,(grow (redrawn W1 d) os).cell? ⟨p.block,p.off+1,V⟩=ak (ah aj x.2.1))/\(∀ d os,(grow (redrawn W1 d) os).cell? ⟨p.block,p.off+2,V⟩=ak (ah aj x.2.2.1))/\(∀ d os,(grow (redrawn W1 d) os).cell? ⟨p.block,p.off+3,V⟩=ak (ah aj x.2.2.2.1))/\(∀ d os,(grow (redrawn W1 d) os).cell? ⟨p.block,p.off+4,V⟩=ak (J x.2.2.2.2)):=by
 obtain⟨p,h1,h2⟩:=Ml h hv hn hk;obtain⟨c0,c1,c2,c3,c4⟩:=h2 _ hb;exact⟨p,h1,cell_regrown c0,cell_regrown c1,cell_regrown c2,cell_regrown c3,cell_regrown c4⟩
theorem pU {W:ay} {b:Nat} {c:C5} (h:cZ W b (cells5 c).toArray 91):(∀ d os,(grow (redrawn W d) os).cell? ⟨b,0,V⟩=ak (J c.1))/\(∀ d os,(grow (redrawn W d) os).cell? ⟨b,1,V⟩=ak (ah aj c.2.1))/\(∀ d os,(grow (redrawn W d) os).cell? ⟨b,2,V⟩=ak (ah aj c.2.2.1))/\(∀ d os,(grow (redrawn W d) os).cell? ⟨b,3,V⟩=ak (ah aj c.2.2.2.1))/\(∀ d os,(grow (redrawn W d) os).cell? ⟨b,4,V⟩=ak (J c.2.2.2.2)) :=
 ⟨cell_regrown (h.cell 0),cell_regrown (h.cell 1),cell_regrown (h.cell 2),cell_regrown (h.cell 3),cell_regrown (h.cell 4)⟩
theorem Ej (v:aK) (l:List Cn) (c:Cn) (w:ay) (hv:fI w v (l.map r5)) (hr:je l) (hl:l.length<=100) :
  aM Z 189 #[v,cv (r5 c),.func (.func 190) #[] #[]] w fun e w'=>e=aA (.tuple #[ah aj (iL l c.1),.bool (iU l c.1)])/\Below w.heap.size w w':=by
 have HL:=D hv;have HR:=D hr;have LN:=D (show (l.map r5).length=l.length from L ..);have BX:=D (dG w (cells5 (r5 c)).toArray 91);have B1:=D ((aB w.heap.size w).alloc (O _) (aH (cells5 (r5 c)).toArray 91));obtain⟨ao,ac,rfl⟩:=hv.len;rw [L] at HL ⊢;obtain⟨n,hn⟩:∃ n,n=l.length:=⟨_,rfl⟩;rw [<- hn] at HL hl ⊢;have HN:=D hn;obtain⟨cnt,hc⟩:∃ k,k=iL l c.1:=⟨_,rfl⟩;obtain⟨th,ht⟩:∃ k,k=iU l c.1:=⟨_,rfl⟩;rw [<- hc,<- ht];have HC:=D hc;have HT:=D ht;clear hv hr hn hc ht;go_enter Tryz.func189,Tryz.ntmps189;go_wp2;change Code.wp _ _ _ _ (w.alloc (aH (cells5 (r5 c)).toArray 91));generalize w.alloc (aH (cells5 (r5 c)).toArray 91)=w1 at *
 go_loopg [9,10] n (fun kx s9 s10 wr=>∃ lo hi:Nat,s9=ah aj lo/\s10=ah aj hi/\lo<=hi/\hi<=n/\hi-lo<=kx/\Below w.heap.size w wr/\cZ wr w.heap.size (cells5 (r5 c)).toArray 91 /\
  (∀ (t:Nat) (y:Cn),t<lo->l[t]?=ak y->au y.1.toList c.1.toList=true)/\(∀ (t:Nat) (y:Cn),hi<=t->l[t]?=ak y->au y.1.toList c.1.toList=false))
 case atStart=>exact⟨0,n,rfl,rfl,Nat.zero_le _,O _,by omega,B1.out,BX.out,fun t y h=>by omega,fun t y h1 h2=>by have:=(aC.1 h2).1; have:=HN.out; omega⟩
 case round =>
  clear B1 BX;obtain⟨lo,hi,rfl,rfl,hlh,hin,hg,hb,hx,ha,hz⟩:=hrel;have B:=D hb;have X:=D hx;have AL:=D ha;have ZL:=D hz;clear hb hx ha hz;by_cases hlt:lo<hi
  ·obtain⟨y,hy⟩:∃ y,l[(lo+hi) / 2]?=ak y:=⟨_,aG (by have:=HN.out; omega)⟩;obtain⟨p,ix,p0,p1,p2,p3,p4⟩:=qO (x:=r5 y) HL.out rfl (LN.out.trans HN.out.symm) (by rw [aD,hy]; rfl) B.out;obtain⟨b0,b1,b2,b3,b4⟩:=pU X.out;obtain⟨r,hr⟩:∃ r,uO y.1 c.1=r:=⟨_,rfl⟩;have C:=tu (r5 y) (r5 c) r hr wr;have LE:=D (show decide (r<0)=au y.1.toList c.1.toList by rw [<- hr]; exact Az _ _);have Y:=D hy;simp only [r5] at p0 p1 p2 p3 p4 b0 b1 b2 b3 b4 C ⊢;clear hy hr;have e23:((lo:Int)+(hi:Int)) / 2=(((lo+hi) / 2:Nat):Int):=by omega
   generalize hm:(lo+hi) / 2=m at *;have BN:=D (fun dq osq=>B.out.trans ((below_regrown wr dq osq).mono B.out.size));have XN:=D (fun dq osq=>X.out.on (below_regrown wr dq osq));by_cases hneg:r<0
   ·have d0:decide (r<0)=true:=by simpa using hneg
    have LT:=D (show au y.1.toList c.1.toList=true by rw [<- LE.out]; exact d0);go_wp2;refine wp_region_quiet_below (by kernel_rfl) (by kernel_rfl) ?_
    repeat (go_big_quiet_step (first | (with_reducible exact C _ _) | exact lJ _ _))
    refine wpQuiet_nil ?_;intro _ hw';obtain⟨⟨dq,osq⟩,hw''⟩:=hw';subst hw'';clear ix p0 p1 p2 p3 p4 b0 b1 b2 b3 b4 C;go_wp2
    go_roundg (hi-(m+1))
    case measure=>omega
    case rel=>exact⟨m+1,hi,by go_num,rfl,by omega,hin,O _,BN.out _ _,XN.out _ _,fun t z h1 h2=>by
     rcases Nat.lt_or_ge t m with h3|h3
     ·exact sM HR.out (by omega) h2 Y.out LT.out
     ·obtain rfl:t=m:=by omega
      rw [Y.out] at h2;rw [<- Option.some.inj h2];exact LT.out,ZL.out⟩
   ·have d0:decide (r<0)=false:=by simpa using hneg
    have LT:=D (show au y.1.toList c.1.toList=false by rw [<- LE.out]; exact d0);go_wp2;refine wp_region_quiet_below (by kernel_rfl) (by kernel_rfl) ?_
    repeat (go_big_quiet_step (first | (with_reducible exact C _ _) | exact lJ _ _))
    refine wpQuiet_nil ?_;intro _ hw';obtain⟨⟨dq,osq⟩,hw''⟩:=hw';subst hw'';clear ix p0 p1 p2 p3 p4 b0 b1 b2 b3 b4 C;go_wp2
    go_roundg (m-lo)
    case measure=>omega
    case rel=>exact⟨lo,m,rfl,rfl,by omega,by omega,O _,BN.out _ _,XN.out _ _,AL.out,fun t z h1 h2=>by
     cases h:au z.1.toList c.1.toList
     ·rfl
     ·have:=sM HR.out h1 Y.out h2 h;rw [LT.out] at this;cases this⟩
  ·obtain rfl:hi=lo:=by omega
   have E:=D (zG l c.1 hi (by have:=HN.out; omega) AL.out (fun z hz=>ZL.out hi z (O _) hz));by_cases hn:hi<n
   ·obtain⟨y,hy⟩:∃ y,l[hi]?=ak y:=⟨_,aG (by have:=HN.out; omega)⟩;obtain⟨p,ix,p0,p1,p2,p3,p4⟩:=qO (x:=r5 y) HL.out rfl (LN.out.trans HN.out.symm) (by rw [aD,hy]; rfl) B.out;obtain⟨b0,b1,b2,b3,b4⟩:=pU X.out;obtain⟨r,hr⟩:∃ r,uO y.1 c.1=r:=⟨_,rfl⟩;have C:=tu (r5 y) (r5 c) r hr wr;have TH:=D (show th=(r == 0) by
     rw [HT.out,iU,E.out,hy,Bool.eq_iff_iff,beq_iff_eq,<- hr,AA,decide_eq_true_eq])
    simp only [r5] at p0 p1 p2 p3 p4 b0 b1 b2 b3 b4 C ⊢;have BN:=D (fun dq osq=>B.out.trans ((below_regrown wr dq osq).mono B.out.size));have CE:=D (show cnt=hi by rw [HC.out,E.out]);clear hy hr hlt;have g4:decide ((hi:Int)<(n:Int))=true:=by simp; omega
    go_wp2;refine wp_region_quiet_below (by kernel_rfl) (by kernel_rfl) ?_
    repeat (go_big_quiet_step (first | (with_reducible exact C _ _) | exact lJ _ _))
    refine wpQuiet_nil ?_;intro _ hw';obtain⟨⟨dq,osq⟩,hw''⟩:=hw';subst hw'';clear ix p0 p1 p2 p3 p4 b0 b1 b2 b3 b4 C;go_wp2
    go_ret2
    exact⟨by rw [TH.out,CE.out]; rfl,BN.out _ _⟩
   ·have TH:=D (show th=false by
     rw [HT.out,iU,E.out,List.getElem?_eq_none (by have:=HN.out; omega)])
    have CE:=D (show cnt=hi by rw [HC.out,E.out]);have BN:=D (fun dq osq=>B.out.trans ((below_regrown wr dq osq).mono B.out.size));have g4:decide ((hi:Int)<(n:Int))=false:=by simp; omega
    clear hlt;go_wp2;refine wp_region_quiet_below (by kernel_rfl) (by kernel_rfl) ?_
    repeat (go_big_quiet_step (first | (with_reducible exact C _ _) | exact lJ _ _))
    refine wpQuiet_nil ?_;intro _ hw';obtain⟨⟨dq,osq⟩,hw''⟩:=hw';subst hw'';go_wp2
    go_ret2
    exact⟨by rw [TH.out,CE.out]; rfl,BN.out _ _⟩
def jg (m:List Cn) (c:Cn):Except Int (List Cn):=match mU m c with
 | none=>.error 5
 | some m'=>if 5<m'.length then .error 7 else .ok m'
def El (B:Nat) (r:Except Int (List Cn)) (W:ay) (e:Ending) (w':ay):Prop:=Below B W w'/\(match r with
 | .ok m'=>∃ v',e=aA (.tuple #[v',.nilIface])/\fV w' B v' (m'.map r5)
 | .error k=>e=aA (.tuple #[aF V 0 0,.iface 211 (ah aj k)]))
theorem Bn {m:List Cn} {c:Cn} (h:iU m c.1=false) (h5:m.length=5):jg m c=.error 7:=by
 unfold jg;rw [zH h];have:=qg m c.1;simp only;rw [if_pos (by simp; omega)]
theorem Bo {m:List Cn} {c:Cn} (h:iU m c.1=false) (h5:m.length<5):jg m c=.ok (m.take (iL m c.1)++c::m.drop (iL m c.1)):=by
 unfold jg;rw [zH h];have:=qg m c.1;simp only;rw [if_neg (by simp; omega)]
theorem tC:∀ (l:List C5) (k:Nat) (x:C5),k<l.length->flat EC (l.set k x)=((((( flat EC l).set (k * 5) (J x.1)).set (k * 5+1) (ah aj x.2.1)).set (k * 5+2) (ah aj x.2.2.1)).set (k * 5+3) (ah aj x.2.2.2.1)).set (k * 5+4) (J x.2.2.2.2)
 | [],k,x,h=>by simp at h
 | y::r,0,x,_=>by simp [flat,EC,cells5]
 | y::r,k+1,x,h=>by
  have h2:=tC r k x (by simpa using h);have e:∀ j u (zs:List aK),(cells5 y++zs).set (5+j) u=cells5 y++zs.set j u:=fun j u zs=>by simp [cells5,Nat.add_comm 5 j]
  simp only [List.set_cons_succ,flat,h2];show cells5 y++_=_;rw [show (k+1) * 5=5+k * 5 by omega,show 5+k * 5+1=5+(k * 5+1) by omega,show 5+k * 5+2=5+(k * 5+2) by omega,show 5+k * 5+3=5+(k * 5+3) by omega,show 5+k * 5+4=5+(k * 5+4) by omega];show _=((((( cells5 y++flat EC r).set _ _).set _ _).set _ _).set _ _).set _ _;rw [e,e,e,e,e]
theorem Bp {W:ay} {B g n cap k:Nat} {l:List C5} {x:C5} (h:fV W B (aF (ak ⟨g,0,V⟩) n cap) l) (hn:n=l.length) (hk:k<n) :
  fV (((((W.setCell ⟨g,k * 5,V⟩ (J x.1)).setCell ⟨g,k * 5+1,V⟩ (ah aj x.2.1)).setCell ⟨g,k * 5+2,V⟩ (ah aj x.2.2.1)).setCell ⟨g,k * 5+3,V⟩ (ah aj x.2.2.2.1)).setCell ⟨g,k * 5+4,V⟩ (J x.2.2.2.2)) B (aF (ak ⟨g,0,V⟩) n cap) (l.set k x):=by
 subst hn;have o1:=(U h (k * 5) (J x.1)).1;have o2:=(U o1 (k * 5+1) (ah aj x.2.1)).1;have o3:=(U o2 (k * 5+2) (ah aj x.2.2.1)).1;have o4:=(U o3 (k * 5+3) (ah aj x.2.2.2.1)).1;have o5:=(U o4 (k * 5+4) (J x.2.2.2.2)).1;rw [<- tC l k x hk] at o5;show World.ownsRow _ _ _ _ _ (l.set k x).length _;rw [aL];exact o5
theorem vk {B:Nat} {W w:ay} (h:Below B W w) (g:Nat) (hB:B<=g) (o:Nat) (v0 v1 v2 v3 v4:aK):Below B W (((((w.setCell ⟨g,o,V⟩ v0).setCell ⟨g,o+1,V⟩ v1).setCell ⟨g,o+2,V⟩ v2).setCell ⟨g,o+3,V⟩ v3).setCell ⟨g,o+4,V⟩ v4) :=
 ((((h.setCell hB _).setCell hB _).setCell hB _).setCell hB _).setCell hB _
theorem oU {W:ay} {b:Nat} {z:C5} (h:cZ W b (cells5 z).toArray 91) (x:C5):cZ (((((W.setCell ⟨b,0,V⟩ (J x.1)).setCell ⟨b,1,V⟩ (ah aj x.2.1)).setCell ⟨b,2,V⟩ (ah aj x.2.2.1)).setCell ⟨b,3,V⟩ (ah aj x.2.2.2.1)).setCell ⟨b,4,V⟩ (J x.2.2.2.2)) b (cells5 x).toArray 91:=by
 have h1:=heap_setCell_same W b 0 _ 91 (J x.1) h;have h2:=heap_setCell_same _ b 1 _ 91 (ah aj x.2.1) h1;have h3:=heap_setCell_same _ b 2 _ 91 (ah aj x.2.2.1) h2;have h4:=heap_setCell_same _ b 3 _ 91 (ah aj x.2.2.2.1) h3;have h5:=heap_setCell_same _ b 4 _ 91 (J x.2.2.2.2) h4;unfold cZ;rw [h5];simp [cells5]
theorem Ic {W:ay} {B:Nat} {v:aK} {l:List C5} (h:fV W B v l) {b:Nat} (hb:W.heap.size<=b):v.ownBlock≠ak b:=by
 intro e;have:=(h.lt b e).2;omega
theorem Em (B:Nat) (v:aK) (m:List Cn) (c:Cn) (W:ay) (ho:fV W B v (m.map r5)) (hr:je m) (h5:m.length<=5) (hB:B<=W.heap.size) (ht:iU m c.1=false) :
  aM Z 170 #[v,cv (r5 c)] W (El B (jg m c) W):=by
 have BX:=D (dG W (cells5 (r5 c)).toArray 91);have B1:=D ((aB W.heap.size W).alloc (O _) (aH (cells5 (r5 c)).toArray 91));have BS:=D (Ej v m c (W.alloc (aH (cells5 (r5 c)).toArray 91)) ((Row.dx ho).on B1.out) hr (by omega));have OW:=D ho;have LN:=D (show (m.map r5).length=m.length from L ..);have CL:=D (qg m c.1);obtain⟨ao,ac,rfl⟩:=(Row.dx ho).len;rw [LN.out] at *;rw [ht] at BS;have hbw:W.heap.size<(W.alloc (aH (cells5 (r5 c)).toArray 91)).heap.size:=by simp
 by_cases hf:m.length=5
 ·have Q:=D (Bn ht hf);generalize jg m c=q at *;have e5:((m.length:Int) == (5:Int))=true:=by simp; omega
  clear ho hf;simp only [r5] at BS ⊢;go_enter aJ,aI;go_wp2_with fail;refine BS.out.mono ?_;rintro e2 w2 ⟨rfl,hb2⟩;have B2:=D (B1.out.trans (hb2.mono B1.out.size));clear hb2 BS B1 BX;go_wp2
  go_ret2
  exact⟨B2.out.mono hB,by rw [Q.out]; rfl⟩
 ·have Q:=D (Bo ht (show m.length<5 by omega));have IN:=D (fun (w2:ay) (h2:fV w2 B (aF ao m.length ac) (m.map r5)) (hB2:B<=w2.heap.size)=>yB B (aF ao m.length ac) (m.map r5) (iL m c.1) (r5 c) w2.heap.size (w2.alloc (aH (cells5 (r5 c)).toArray 91)) (dw h2 ((aB _ _).alloc (O _) _)) (dG w2 _ _) (Ic h2 (O _)) (by rw [L]; exact CL.out) (by rw [L]; omega) (by simp; omega));generalize jg m c=q at *;have e5:((m.length:Int) == (5:Int))=false:=by rw [beq_eq_false_iff_ne]; omega
  clear ho hf;simp only [r5] at BS ⊢;go_enter aJ,aI;go_wp2_with fail;refine BS.out.mono ?_;rintro e2 w2 ⟨rfl,hb2⟩;have B2:=D (B1.out.trans (hb2.mono B1.out.size));have O2:=D (dw OW.out B2.out);obtain⟨x0,x1,x2,x3,x4⟩:=fC (BX.out.on hb2);simp only [r5] at x0 x1 x2 x3 x4;clear hb2 BS B1 BX;go_wp2_with fail;have C:=IN.out w2 O2.out (by have:=B2.out.size; omega);refine C.mono ?_;rintro e3 w3 ⟨v',rfl,ho3,hb3⟩;have B3:=D (((B2.out.mono hB).alloc (by have:=B2.out.size; omega) (aH (cells5 (r5 c)).toArray 91)).trans hb3);have O3:=D ho3;clear ho3 hb3 C IN O2 x0 x1 x2 x3 x4;go_wp2
  go_ret2
  exact⟨B3.out,by rw [Q.out]; exact⟨v',rfl,by rw [List.map_append,List.map_cons,List.map_take,List.map_drop]; exact O3.out⟩⟩
theorem Eo (B:Nat) (v:aK) (m:List Cn) (c:Cn) (W:ay) (ho:fV W B v (m.map r5)) (hr:je m) (h5:m.length<=5) (hB:B<=W.heap.size) (ht:iU m c.1=true) :
  aM Z 170 #[v,cv (r5 c)] W (El B (jg m c) W):=by
 obtain⟨x,hx,hn,hi⟩:=Ay ht;have BX:=D (dG W (cells5 (r5 c)).toArray 91);have B1:=D ((aB W.heap.size W).alloc (O _) (aH (cells5 (r5 c)).toArray 91));have BS:=D (Ej v m c (W.alloc (aH (cells5 (r5 c)).toArray 91)) ((Row.dx ho).on B1.out) hr (by omega));rw [ht] at BS;have CB:=D (fun w=>wN x c w hn);have Q:=D (show jg m c=match fE x.2 c.2 with
  | some k=>.ok (m.set (iL m c.1) (x.1,k))
  | none=>.error 5 by
   unfold jg;rw [hi];cases fE x.2 c.2 with
   | none=>rfl
   | some k=>simp only [Option.map_some]; rw [if_neg (by rw [aL]; omega)])
 generalize jg m c=q at *;generalize fE x.2 c.2=r at *;have hkl:iL m c.1<m.length:=(aC.1 hx).1;generalize hk:iL m c.1=k at *;have HK:=D hkl;have ML:=D (show (m.map r5).length=m.length from L ..);rcases dY ho with⟨_,h2⟩|⟨g,cap,cur,rfl,hBg,hg,hlc,hcm,hsz,htk⟩
 ·have:=List.map_eq_nil_iff.1 h2;subst this;simp at hkl
 ·have fl:=uK qC (m.map r5) k (r5 x) (by rw [aD,hx]; rfl);have cl:∀ j u,j<5->(cells5 (r5 x))[j]?=ak u->W.cell? ⟨g,k * 5+j,V⟩=ak u:=fun j u hj hu=>(aO ho (k * 5+j) (by rw [L]; show _<m.length * 5; omega)).trans ((fl j hj).trans hu);have GC:=D (fun (w2:ay) (hb:Below W.heap.size W w2)=>show w2.cell? ⟨g,k * 5,V⟩=ak (J x.1)/\w2.cell? ⟨g,k * 5+1,V⟩=ak (ah aj (kN x.2))/\w2.cell? ⟨g,k * 5+2,V⟩=ak (ah aj (mI x.2))/\w2.cell? ⟨g,k * 5+3,V⟩=ak (ah aj (mJ x.2))/\w2.cell? ⟨g,k * 5+4,V⟩=ak (J (kT x.2)) from
   ⟨(hb.cell (show g<W.heap.size from hg.lt)).trans (cl 0 _ (by decide) rfl),(hb.cell (show g<W.heap.size from hg.lt)).trans (cl 1 _ (by decide) rfl),(hb.cell (show g<W.heap.size from hg.lt)).trans (cl 2 _ (by decide) rfl),(hb.cell (show g<W.heap.size from hg.lt)).trans (cl 3 _ (by decide) rfl),(hb.cell (show g<W.heap.size from hg.lt)).trans (cl 4 _ (by decide) rfl)⟩)
  have OW:=D ho;have GL:=D hg.lt;have BG:=D hBg;have Td:=D (show cZ W g cur 91 from hg);rw [L] at OW BS ⊢;generalize m.length=n at *;have ix:=jX qC g k n cap (by omega);change ∀ w,(Instr.indexAt 34 (aF (ak ⟨g,0,V⟩) n cap) (ah aj k)).run Z w=.ok (aN (ak ⟨g,k * 5,V⟩)) w at ix;clear ho hr ht hx hi hk hg hlc hcm hsz htk fl cl hBg hn;simp only [r5] at BS CB ⊢;go_enter aJ,aI;go_wp2_with fail;refine BS.out.mono ?_;rintro e2 w2 ⟨rfl,hb2⟩;have B2:=D (B1.out.trans (hb2.mono B1.out.size));obtain⟨x0,x1,x2,x3,x4⟩:=fC (BX.out.on hb2);obtain⟨p0,p1,p2,p3,p4⟩:=GC.out w2 B2.out;have hw2:W.heap.size<w2.heap.size:=by have:=hb2.size; simp at this; omega
  have hg2:g<w2.heap.size:=by have:=GL.out; omega
  have L9:∀ o,(w2.drew.alloc o).cell? ⟨g,k * 5,V⟩=ak (J x.1):=fun o=>((aB w2.heap.size w2.drew).alloc (O _) o).cell hg2 |>.trans p0;simp only [r5] at x0 x1 x2 x3 x4;clear hb2 BS B1 BX L9;go_wp2_with fail
  rename_i K hK
  have TAIL:∀ (pb:Nat) (wf:ay) (y:C5) (u10 u11 u12 u13 u14 u15 u16 u17 u18 u19 u20 u21 u22 u23 u24 u25 u26 u27 u28 u29 u30 u31 u32 u33 u34 u35 u36 u37 u38 u39 u40 u41 u42 u43:aK),cZ wf pb (cells5 y).toArray 91->Below W.heap.size W wf->(∀ k',r=ak k'->y=r5 (x.1,k'))->K ⟨#[aF (ak ⟨g,0,V⟩) n cap,cv (c.1,kN c.2,mI c.2,mJ c.2,kT c.2),undef,aN (ak ⟨W.heap.size,0,V⟩),aF V 0 0,.nilIface,ah aj k,.bool true,aN (ak ⟨pb,0,V⟩),.bool r.isSome,u10,u11,u12,u13,u14,u15,u16,u17,u18,u19,u20,u21,u22,u23,u24,u25,u26,u27,u28,u29,u30,u31,u32,u33,u34,u35,u36,u37,u38,u39,u40,u41,u42,u43],[]⟩ wf:=by
   clear x0 x1 x2 x3 x4 p0 p1 p2 p3 p4 CB B2 hw2 hg2;intro pb wf y u10 u11 u12 u13 u14 u15 u16 u17 u18 u19 u20 u21 u22 u23 u24 u25 u26 u27 u28 u29 u30 u31 u32 u33 u34 u35 u36 u37 u38 u39 u40 u41 u42 u43 hyb hbw hyk;obtain⟨y0,y1,y2,y3,y4⟩:=fC hyb;have OF:=dw OW.out hbw;have fz:=fun j=>(Td.out.on hbw).fr j;obtain⟨p0,p1,p2,p3,p4⟩:=GC.out wf hbw;have HB:=D hbw;have HO:=D OF;have HY:=D hyk;clear hyb hbw OF GC OW hyk;apply hK;clear hK;rcases r with _|k'
   ·have QQ:=D (show q=.error 5 from Q.out);clear Q;go_wp2
    go_ret2
    exact⟨HB.out.mono hB,by rw [QQ.out]; rfl⟩
   ·have QQ:=D (show q=.ok (m.set k (x.1,k')) from Q.out);clear Q;go_wp2
    go_ret2
    refine⟨vk (HB.out.mono hB) g BG.out _ _ _ _ _ _,?_⟩;rw [QQ.out];refine⟨aF (ak ⟨g,0,V⟩) n cap,rfl,?_⟩;rw [List.map_set,<- HY.out k' rfl];exact Bp HO.out ML.out.symm HK.out
  clear hK
  go_region_with (go_at_call 133; refine (CB.out _).mono ?_; rintro e w3 ⟨⟨y,rfl,hy⟩,hb3⟩; (try (have ZB:=D ((dG w2.drew (cells5 (⟨#[]⟩,0,0,0,⟨#[]⟩)).toArray 91).on hb3); obtain⟨z0,z1,z2,z3,z4⟩:=fC ZB.out; have fz:=fun k=>ZB.out.fr k; simp only [World.size_drew] at z0 z1 z2 z3 z4 fz)))
  all_goals simp only [Exit.then]
  all_goals first
   | exact TAIL w3.heap.size _ y _ _ _ _ _ _ _ _ _ _ _ _ _ _ _ _ _ _ _ _ _ _ _ _ _ _ _ _ _ _ _ _ _ _ (dG w3 _ _) (((B2.out.drew).trans (hb3.mono (by have:=B2.out.size; simp; omega))).alloc (by have:=hb3.size; have:=B2.out.size; simp at *; omega) _) hy
   | exact TAIL w2.heap.size _ y _ _ _ _ _ _ _ _ _ _ _ _ _ _ _ _ _ _ _ _ _ _ _ _ _ _ _ _ _ _ _ _ _ _ (oU ((dG w2.drew (cells5 (⟨#[]⟩,0,0,0,⟨#[]⟩)).toArray 91).on hb3) y) (gZ (((B2.out.drew).alloc (by have:=B2.out.size; simp; omega) _).trans (hb3.mono (by have:=B2.out.size; simp; omega))) w2.heap.size (by have:=B2.out.size; omega) _ _ _ _ _) hy
theorem Ep (B:Nat) (v:aK) (m:List Cn) (c:Cn) (W:ay) (ho:fV W B v (m.map r5)) (hr:je m) (h5:m.length<=5) (hB:B<=W.heap.size) :
  aM Z 170 #[v,cv (r5 c)] W (El B (jg m c) W):=by
 cases h:iU m c.1
 ·exact Em B v m c W ho hr h5 hB h
 ·exact Eo B v m c W ho hr h5 hB h
end Go.Proofs.YtghlpefopidlaaaGreat.Pr
