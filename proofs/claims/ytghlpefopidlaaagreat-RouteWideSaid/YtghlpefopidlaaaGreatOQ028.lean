/-
  of, wider, one of pa. Conditions as told.
-/
import Derived.Test.YtghlpefopidlaaaGreatOQ022
import Derived.Test.YtghlpefopidlaaaGreatOQ025
import Derived.Test.YtghlpefopidlaaaGreatOQ021
set_option maxRecDepth 100000
set_option maxHeartbeats 64000000
open Go.IntKind renaming i64->V
open Go.Lib renaming hid->D,compact->L,compactUpTo->aj
open Go.Obj renaming cells->ak
open Go.Sort renaming ahead->ah
open Go.Value renaming slice->J,int->O,string->U
open _root_.List renaming replicate->ay,length_map->aC,getElem?_take->aF,mem_singleton->aG,length_append->aH,getElem?_map->aI
open _root_.Nat renaming le_refl->au,lt_or_ge->aA,le_trans->aB,mul_le_mul_right->aD,le_of_lt->aK
open _root_.Option renaming none->Z,some->aJ
namespace Go.Proofs.YtghlpefopidlaaaGreat
namespace Rl
open Go.RowKit Go.Sort Pu Rw Pr Va
abbrev z5:C5:=(⟨#[]⟩,0,0,0,⟨#[]⟩)
def RF:Option Cn->Value
 | some y=>.tuple #[cv (r5 y),.bool true]
 | none=>.tuple #[cv z5,.bool false]
theorem RH (pv:Value) (p:List Cn) (n:ByteArray) (w:World) (hp:gq w pv (p.map r5)) (_h100:p.length<=100) :
  Calls Tryz.prog 86 #[pv,U n] w fun e w'=>e=.returned (RF (Na p n))/\Below w.heap.size w w':=by
 have HP:=D hp;obtain⟨ao,ac,rfl⟩:=hp.len;rw [aC] at HP ⊢;generalize hm:p.length=m at *;have HM:=D hm;clear hp hm;have B0:=D (show Below w.heap.size w (w.alloc (ak #[U ⟨#[]⟩,O V 0,O V 0,O V 0,U ⟨#[]⟩] 91)) from (Below.refl _ _).alloc (au _) _);have Z0:=D (show dx (w.alloc (ak #[U ⟨#[]⟩,O V 0,O V 0,O V 0,U ⟨#[]⟩] 91)) w.heap.size (cells5 z5).toArray 91 from dK w _ _);go_enter Tryz.func86,Tryz.ntmps86;go_wp2;generalize w.alloc (ak #[U ⟨#[]⟩,O V 0,O V 0,O V 0,U ⟨#[]⟩] 91)=w1 at B0 Z0 ⊢
 go_loopw [10] (fun i wr=>∃ k:Nat,k<=m/\i=O V k/\Below w.heap.size w wr/\dx wr w.heap.size (cells5 z5).toArray 91/\∀ (j:Nat) (y:Cn),j<k->p[j]?=aJ y->y.1≠n) (fun i _=>m-(intOf i).toNat)
 case atStart=>exact⟨0,Nat.zero_le _,rfl,B0.out,Z0.out,fun j y h=>by omega⟩
 case round =>
  obtain⟨k,hk,rfl,hb,ht,hall⟩:=hrel;have HB:=D hb;have HT:=D ht;have AL:=D hall;clear hb hall ht;by_cases hlt:k<m
  ·obtain⟨⟨xn,xk⟩,hx⟩:∃ x,p[k]?=aJ x:=⟨_,List.getElem?_eq_getElem (by rw [HM.out]; exact hlt)⟩;obtain⟨q,ix,px⟩:=Ue (x:=r5 (xn,xk)) HP.out rfl (by rw [aC]; exact HM.out) (by rw [aI,hx]; rfl);obtain⟨p0,p1,p2,p3,p4⟩:=px _ HB.out;have HX:=D hx;have B4:=D (HB.out.alloc HB.out.size (ak #[U xn,O V (kN xk),O V (lN xk),O V (lQ xk),U (kT xk)] 91));have T4:=D (HT.out.more (ak #[U xn,O V (kN xk),O V (lN xk),O V (lQ xk),U (kT xk)] 91));clear hx px;simp only [r5] at p0 p1 p2 p3 p4;by_cases he:xn=n
   ·have hn:(xn.toList == n.toList)=true:=by rw [he]; exact beq_self_eq_true _
    have R:=D (UJ HX.out he AL.out);clear he;obtain⟨c0,c1,c2,c3,c4⟩:=fU HT.out;have f0:=HT.out.fr 0;have f1:=HT.out.fr 1;have f2:=HT.out.fr 2;have f3:=HT.out.fr 3;have f4:=HT.out.fr 4;have Yg:=HT.out.lt;simp only at c0 c1 c2 c3 c4;go_wp2;have T5:=(rM HT.out (xn,kN xk,lN xk,lQ xk,kT xk)).more (ak #[U xn,O V (kN xk),O V (lN xk),O V (lQ xk),U (kT xk)] 91);have B5:=(iW HB.out w.heap.size (au _) (U xn) (O V (kN xk)) (O V (lN xk)) (O V (lQ xk)) (U (kT xk))).alloc (iW HB.out w.heap.size (au _) (U xn) (O V (kN xk)) (O V (lN xk)) (O V (lQ xk)) (U (kT xk))).size (ak #[U xn,O V (kN xk),O V (lN xk),O V (lQ xk),U (kT xk)] 91);generalize World.alloc _ (ak #[U xn,O V (kN xk),O V (lN xk),O V (lQ xk),U (kT xk)] 91)=w6 at T5 B5 ⊢;obtain⟨d0,d1,d2,d3,d4⟩:=fU T5;simp only at d0 d1 d2 d3 d4;refine bodyPost_ret (v:=RF (aJ (xn,xk))) (by simp [results,Tryz.results86,go_sem,d0,d1,d2,d3,d4,RF,r5]) rfl ⟨by rw [R.out],B5⟩
   ·have hn:(xn.toList == n.toList)=false:=by rw [beq_eq_false_iff_ne]; exact fun h=>he (qm h)
    have HE:=D he;clear he;go_wp2
    go_roundw
    case rel=>exact⟨k+1,by omega,by go_num,B4.out,T4.out,fun j y hj hy=>by
     rcases aA j k with h3|h3
     ·exact AL.out j y h3 hy
     ·obtain rfl:j=k:=by omega
      have e:=HX.out;rw [hy] at e;rw [Option.some.inj e];exact HE.out⟩
    case measure=>simp [intOf]; omega
  ·obtain rfl:k=m:=by omega
   have R:=D (NS (p:=p) (n:=n) (fun j y hj hy=>AL.out j y (by rw [<- HM.out]; exact hj) hy));obtain⟨c0,c1,c2,c3,c4⟩:=fU HT.out;have f0:=HT.out.fr 0;have f1:=HT.out.fr 1;have f2:=HT.out.fr 2;have f3:=HT.out.fr 3;have f4:=HT.out.fr 4;have Yg:=HT.out.lt;simp only at c0 c1 c2 c3 c4;go_wp2;have T5:=rM HT.out z5;have B5:=iW HB.out w.heap.size (au _) (U ⟨#[]⟩) (O V 0) (O V 0) (O V 0) (U ⟨#[]⟩);simp only at T5;generalize World.setCell _ _ (U ⟨#[]⟩)=w6 at T5 B5 ⊢;obtain⟨d0,d1,d2,d3,d4⟩:=fU T5;simp only at d0 d1 d2 d3 d4;refine bodyPost_ret (v:=RF Z) (by simp [results,Tryz.results86,go_sem,d0,d1,d2,d3,d4,RF]) rfl ⟨by rw [R.out],B5⟩
theorem Il (n:ByteArray) (c d:Kd) (w:World) (hc:fD c=true) (hd:fD d=true) :
  Calls Tryz.prog 87 #[cv (r5 (n,c)),cv (r5 (n,d))] w fun e w'=>e=.returned (.bool (iU d c))/\Below w.heap.size w w':=by
 obtain⟨ba,bb,hb⟩:=JQ w (r5 (n,c)) (r5 (n,d));have BB:=D bb;have B:=D hb;have CB:=D (Al (n,c) (n,d) ((w.alloc (ak (cells5 (r5 (n,c))).toArray 91)).alloc (ak (cells5 (r5 (n,d))).toArray 91)) rfl);have WS:=D (fun k (h:fE c d=aJ k)=>Dv (n:=n) hc hd h);have WN:=D (fun (h:fE c d=Z)=>Dw hd h);simp only at CB;generalize fE c d=r at *;generalize iU d c=i at *;clear ba bb hb hc hd;simp only [r5] at CB ⊢;go_enter Tryz.func87,Tryz.ntmps87;go_wp2_with fail;refine CB.out.mono ?_;rintro e w2 ⟨⟨y,rfl,hy⟩,hb2⟩;have B2:=D (B.out.trans (hb2.mono B.out.size));obtain⟨b0,b1,b2,b3,b4⟩:=fU (BB.out.on hb2);simp only [r5] at b0 b1 b2 b3 b4;have B3:=D (B2.out.alloc B2.out.size (ak #[U y.1,O V y.2.1,O V y.2.2.1,O V y.2.2.2.1,U y.2.2.2.2] 91));have HY:=D hy;have hw2:w.heap.size+1<w2.heap.size:=by have:=hb2.size; simp at this; omega
 clear hb2 CB BB B hy;rcases r with _|k
 ·have E:=D (WN.out rfl);clear WN WS;go_wp2;go_ret;exact⟨eO E.out.symm,B3.out⟩
 ·have E:=D (show JE y (r5 (n,d))=i by rw [HY.out k rfl]; exact WS.out k rfl);obtain⟨y0,y1,y2,y3,y4⟩:=y;clear WN WS HY B3;go_wp2
  all_goals go_ret
  all_goals exact⟨eO (by rw [<- E.out]; simp [JE,r5, *]),B2.out.alloc B2.out.size _⟩
end Rl
namespace At
open Go.RowKit Va
abbrev V3:=Bool×Int×ByteArray
/-! ### the publications that numbers make -/
end At
namespace At
open Go.RowKit Go.Sort Va In
end At
namespace Rl
open Go.RowKit Pu Rw Pr
end Rl
namespace Av
open Go.RowKit Rw YtghlpefopidlaaaGreat.Nm Pr Bk Go.Sort
theorem KN {α:Type} [Inhabited α] (enc:α->Value) (d:Array α) (cur:Array Value) (h:d.size<=cur.size):(putCells enc 0 d cur).toList.take d.size=d.toList.map enc:=by
 apply List.ext_getElem?;intro j;rw [aF];by_cases hj:j<d.size
 ·have hc:j<cur.size:=by omega
  simp [putCells,hj,hc]
 ·simp [hj]
theorem uW {α β:Type} [Inhabited β] {E:Ek α} (K:E.Ok) {w:World} {B g cap:Nat} {l l':List α} (h:Own E w B (J (aJ ⟨g,0,Z⟩) l.length cap) l) (enc:β->Value) (d:Array β) (hd:d.toList.map enc=flat E l') (hl:l'.length=l.length) (n:Nat) (os:Array Obj) :
  Own E (grow (putRow enc (ah w n) g 0 d) os) B (J (aJ ⟨g,0,Z⟩) l.length cap) l'/\w.grownBy (grow (putRow enc (ah w n) g 0 d) os) (aJ g):=by
 have hds:d.size=l.length * E.n:=by
  rw [<- hl,<- dz K l',<- hd];simp
 rcases eT h with⟨e,_⟩|⟨g',cap',cur,e,h1,h2,h3,h4,h5,h6⟩
 ·cases e
 obtain⟨rfl,rfl⟩:g=g'/\cap=cap':=by simpa using e
 have hlt:=lt_of_heap h2;have hb:(grow (putRow enc (ah w n) g 0 d) os).heap[g]?=aJ (ak (putCells enc 0 d cur) E.t (0,0)):=by
  rw [heap_grow_old _ _ (by simp [putRow,mapBlock,ah]; exact hlt)];unfold dx at h2;simp only [putRow,mapBlock,ah,Array.getElem?_modify,if_true,h2]
  rfl
 have hfit:d.size<=cur.size:=by
  rw [hds,h5];exact aD _ h3
 refine⟨⟨by rw [dz K],Or.inr ⟨g,cap,_,by rw [hl],h1,hb,by rw [hl]; exact h3,h4,by simp [putCells]; exact h5,?_⟩⟩,⟨rfl,rfl,rfl,by simp [putRow,mapBlock,ah],fun k hk hne=>?_⟩⟩
 ·rw [hl,<- hds,KN enc d cur hfit,hd]
 ·rw [heap_grow_old _ _ (by simp [putRow,mapBlock,ah]; exact hk)];have hkg:g≠k:=fun e=>hne (by rw [e]);simp [putRow,mapBlock,ah,Array.getElem?_modify,hkg]
theorem xV {α:Type} {E:Ek α} {w:World} {B g cap:Nat} {l:List α} (K:E.Ok) {β:Type} [Inhabited β] (enc:β->Value) (d:Array β) (hd:d.toList.map enc=flat E l) (h:Own E w B (J (aJ ⟨g,0,Z⟩) l.length cap) l):Holds enc w g 0 d/\g<w.heap.size:=by
 rcases eT h with⟨e,_⟩|⟨g',cap',cur,e,h1,h2,h3,h4,h5,h6⟩
 ·cases e
 obtain⟨rfl,rfl⟩:g=g'/\cap=cap':=by simpa using e
 refine⟨fun j hj=>?_,h2.lt⟩;rw [Nat.zero_add];refine⟨?_,h2.fr j⟩;rw [h2.cell j];have hsz:d.size=l.length * E.n:=by
  rw [<- dz K l,<- hd];simp
 have h7:(cur.toList.take (l.length * E.n))[j]?=(d.toList.map enc)[j]?:=by rw [h6,hd]
 rw [aF,if_pos (by omega)] at h7;rw [Array.getElem?_toList] at h7;rw [h7,aI,Array.getElem?_toList,getElem!_pos d j hj,Array.getElem?_eq_getElem hj]
 rfl
theorem Im (w:World) (B:Nat) (v:Value) (l:List Int) (h:um w B v l) (hlen:l.length<=900):Calls Tryz.prog 40 #[v] w fun e w'=>e=.returned (.tuple #[])/\∃ l':List Int,um w' B v l'/\l'.Perm l/\l'.Pairwise (·<=·)/\w.grownBy w' v.ownBlock:=by
 rcases eT h with⟨rfl,rfl⟩|⟨g,cap,cur,rfl,h1,h2,h3,h4,h5,h6⟩
 ·have hc:=Any.slices_Sort_int_none Tryz.sortI Z 0 w;refine Calls.mono hc ?_;rintro e w' ⟨rfl,rfl⟩;exact⟨rfl,[],h,List.Perm.refl _,List.Pairwise.nil,Rw.mW _ _⟩
 ·obtain⟨hh,hlt⟩:=xV Nm.Ng (O V) l.toArray (by rw [zX]) h;have hc:=Any.slices_Sort_int Tryz.sortI g 0 cap l w hh hlt (by omega);refine Calls.mono hc ?_;rintro e w' ⟨rfl,n,os,rfl⟩;have hs:=uW Nm.Ng (l':=l.mergeSort fun x y=>decide (x<=y)) h (O V) (l.mergeSort fun x y=>decide (x<=y)).toArray (by rw [zX]) (List.length_mergeSort l) n os;refine⟨rfl,_,hs.1,List.mergeSort_perm _ _,?_,hs.2⟩;have hp:=List.pairwise_mergeSort (le:=fun x y:Int=>decide (x<=y)) (fun a b c h1 h2=>by simp at h1 h2 ⊢; omega) (fun a b=>by simp; omega) l;exact hp.imp (fun {a b} hab=>by simpa using hab)
theorem Bl (d:Array Int) (n:Nat) (hs:∀ i j,i<=j->j<n->d[i]!<=d[j]!):∀ m,m<=n->(∀ x∈aj d m,∃ j,j<m/\d[j]! = x)/\(∀ j,j<m->d[j]!∈aj d m)/\(aj d m).Pairwise (·<·)
 | 0,_=>⟨fun x h=>by simp [aj] at h,fun j h=>by omega,by simp [aj]⟩
 | m+1,hm=>by
  obtain⟨h1,h2,h3⟩:=Bl d n hs m (by omega);rw [Lib.compactUpTo_succ];cases hk:Lib.keeps d m with
  | false =>
   simp only [Bool.false_eq_true,if_false,List.append_nil];have hk':m≠0/\d[m]! = d[m-1]!:=by
    have h:=of_decide_eq_false hk;rw [not_or] at h;exact⟨h.1,Classical.not_not.1 h.2⟩
   refine⟨fun x hx=>?_,fun j hj=>?_,h3⟩
   ·obtain⟨j,hj,e⟩:=h1 x hx;exact⟨j,by omega,e⟩
   ·rcases aA j m with h|h
    ·exact h2 j h
    ·obtain rfl:j=m:=by omega
     rw [hk'.2];exact h2 _ (by omega)
  | true =>
   simp only [if_true];have hk':m=0\/d[m]!≠d[m-1]!:=of_decide_eq_true hk;refine⟨fun x hx=>?_,fun j hj=>?_,?_⟩
   ·rcases List.mem_append.1 hx with h|h
    ·obtain⟨j,hj,e⟩:=h1 x h;exact⟨j,by omega,e⟩
    ·exact⟨m,by omega,(aG.1 h).symm⟩
   ·rcases aA j m with h|h
    ·exact List.mem_append_left _ (h2 j h)
    ·obtain rfl:j=m:=by omega
     exact List.mem_append_right _ (by simp)
   ·rw [List.pairwise_append];refine⟨h3,List.pairwise_singleton _ _,fun a ha b hb=>?_⟩;obtain⟨j,hj,rfl⟩:=h1 a ha;rw [aG.1 hb];have a1:=hs j (m-1) (by omega) (by omega);have a2:=hs (m-1) m (by omega) (by omega);rcases hk' with h|h
    ·omega
    ·omega
theorem DN (l:List Int) (hs:l.Pairwise (·<=·)):(L l).Pairwise (·<·)/\(∀ x,x∈L l↔x∈l)/\(L l).length<=l.length:=by
 have hd:∀ i j,i<=j->j<l.length->l.toArray[i]!<=l.toArray[j]!:=by
  intro i j hij hj;rw [getElem!_pos l.toArray i (by simp; omega),getElem!_pos l.toArray j (by simpa using hj)];rcases aA i j with h|h
  ·have:=List.pairwise_iff_getElem.1 hs i j (by omega) hj h;simpa using this
  ·obtain rfl:i=j:=by omega
   exact Int.le_refl _
 obtain⟨h1,h2,h3⟩:=Bl l.toArray l.length hd l.length (au _);refine⟨h3,fun x=>⟨fun hx=>?_,fun hx=>?_⟩,?_⟩
 ·obtain⟨j,hj,rfl⟩:=h1 x hx;rw [getElem!_pos l.toArray j (by simpa using hj)];simp
 ·obtain⟨j,hj,rfl⟩:=List.mem_iff_getElem.1 hx;have:=h2 j hj;rw [getElem!_pos l.toArray j (by simpa using hj)] at this;simpa [L] using this
 ·unfold L aj;rw [aC];exact aB (List.length_filter_le _ _) (by simp)
theorem KR (w:World) (B:Nat) (v:Sl) (l:List Int) (h:um w B (dN v) l) (hs:l.Pairwise (·<=·)) (hlen:l.length<=900):Calls Tryz.prog 41 #[dN v] w fun e w'=>(∃ v':Sl,e=.returned (dN v')/\∃ l':List Int,um w' B (dN v') l'/\l'.Pairwise (·<·)/\∀ x,x∈l'↔x∈l)/\w.grownBy w' (dN v).ownBlock:=by
 obtain⟨vo,vn,vc⟩:=v;rcases eT h with⟨h0,rfl⟩|⟨g,cap,cur,h0,h1,h2,h3,h4,h5,h6⟩
 ·obtain⟨rfl,rfl,rfl⟩:vo=Z/\vn=0/\vc=0:=by simpa using h0
  have hc:=Any.slices_Compact_int_empty Tryz.cptI Z 0 w;refine Calls.mono hc ?_;rintro e w' ⟨rfl,rfl⟩;exact⟨⟨(Z,0,0),rfl,[],h,List.Pairwise.nil,fun _=>Iff.rfl⟩,Rw.mW _ _⟩
 ·obtain⟨rfl,rfl,rfl⟩:vo=aJ ⟨g,0,Z⟩/\vn=l.length/\vc=cap:=by simpa using h0
  obtain⟨hh,hlt⟩:=xV Nm.Ng (O V) l.toArray (by rw [zX]) h;have hc:=Any.slices_Compact_int Tryz.cptI g 0 vc l w hh (by omega) h3;obtain⟨c1,c2,c3⟩:=DN l hs;refine Calls.mono hc ?_;rintro e w' ⟨rfl,n,rfl⟩;have ht:=uW Nm.Ng (l':=L l++ay (l.length-(L l).length) 0) h (O V) (L l++ay (l.length-(L l).length) 0).toArray (by rw [zX]) (by rw [aH,List.length_replicate]; omega) n #[];have hg:grow (putRow (O V) (ah w n) g 0 (L l++ay (l.length-(L l).length) 0).toArray) #[]=putRow (O V) (ah w n) g 0 (L l++ay (l.length-(L l).length) 0).toArray:=grow_empty _;rw [hg] at ht;refine⟨⟨(aJ ⟨g,0,Z⟩,(L l).length,vc),rfl,L l,?_,c1,c2⟩,ht.2⟩;rcases eT ht.1 with⟨e,_⟩|⟨g',cap',cur',e,k1,k2,k3,k4,k5,k6⟩
  ·cases e
  ·obtain⟨rfl,_,rfl⟩:g=g'/\l.length=_/\vc=cap':=by simpa using e
   refine jR Nm.Ng rfl k1 k2 (aB c3 h3) k4 k5 ?_;have k7:=congrArg (List.take ((L l).length * EI.n)) k6;rw [List.take_take,kF Nm.Ng,Nat.min_eq_left (aD _ (by rw [aH]; omega)),List.take_left'] at k7
   ·exact k7
   ·rfl
abbrev xW (me:Int) (near:List Int):Br:=⟨me,near,[],[],[],[]⟩
theorem Bn (me:Int) (v:Sl) (l:List Int) (w:World) (hv:Gq w (dN v) l) (hl:l.length<=900) :
  Calls Tryz.prog 9 #[O V me,dN v] w fun e w'=>(∃ (l':List Int) (nv:Sl),e=.returned (nO me nv (Z,0,0) (Z,0,0) (Z,0,0) (Z,0,0))/\lW w' (xW me l') nv (Z,0,0) (Z,0,0) (Z,0,0) (Z,0,0)/\(∃ B,um w' B (dN nv) l')/\l'.Pairwise (·<·)/\∀ x,x∈l'↔x∈l)/\Below w.heap.size w w':=by
 have n0:=iM w (ak #[O V 0,J Z 0 0,J Z 0 0,J Z 0 0,J Z 0 0,J Z 0 0] 30);have X:=D (dK w #[O V 0,J Z 0 0,J Z 0 0,J Z 0 0,J Z 0 0,J Z 0 0] 30);have C:=D (uF v l _ (hv.on n0) hl);have B0:=D n0;have HL:=D hl;obtain⟨vo,vn,vc⟩:=v;clear hv hl n0;go_enter Tryz.func9,Tryz.ntmps9;go_wp2_with fail;generalize w.alloc (ak #[O V 0,J Z 0 0,J Z 0 0,J Z 0 0,J Z 0 0,J Z 0 0] 30)=W at *;refine C.out.mono ?_;rintro e1 w1 ⟨⟨⟨p1,p2,p3⟩,rfl,ho⟩,hb⟩;have B1:=D (B0.out.trans (hb.mono B0.out.size));have X1:=D (X.out.on hb);have hlt:w.heap.size<W.heap.size:=X.out.lt;have C2:=D (Im w1 W.heap.size _ l ho HL.out);have OT:=D (fun g hg=>(ho.lt g hg).1);have HW:=D hlt;clear hb ho C X;go_wp2_with fail;refine C2.out.mono ?_;rintro e2 w2 ⟨rfl,l2,ho2,hp2,hs2,hg2⟩;have B2:=D (B1.out.grown hg2 B1.out.size (fun j hj=>aB (aK HW.out) (OT.out j hj)));have X2:=D (show dx w2 w.heap.size _ _ from (hg2.block _ X1.out.lt (fun e=>by have:=OT.out _ e.symm; have:=HW.out; omega)).trans X1.out);have C3:=D (KR w2 W.heap.size (p1,p2,p3) l2 ho2 hs2 (by rw [hp2.length_eq]; exact HL.out));have PM:=D hp2;have ZN:=D (fun g hg=>(ho2.lt g hg).1);clear ho2 hp2 hs2 hg2 C2 OT X1;go_wp2_with fail;refine C3.out.mono ?_;rintro e3 w3 ⟨⟨⟨t1,t2,t3⟩,rfl,l3,ho3,hs3,ZO⟩,hg3⟩;have B3:=D (B2.out.grown hg3 B2.out.size (fun j hj=>aB (aK HW.out) (ZN.out j hj)));have Y:=show dx w3 w.heap.size _ _ from (hg3.block _ X2.out.lt (fun e=>by have:=ZN.out _ e.symm; have:=HW.out; omega)).trans X2.out;obtain⟨y0,y1,y2,y3,y4,y5⟩:=Y.gQ;obtain⟨f0,f1,f2,f3,f4,f5⟩:=Y.nS;have zz:=Y.lt;have FB:=D (dP Y (O V me) (J t1 t2 t3) (J Z 0 0) (J Z 0 0) (J Z 0 0) (J Z 0 0));have FL:=D (dD (b:=w.heap.size) B3.out (au _) (O V me) (J t1 t2 t3) (J Z 0 0) (J Z 0 0) (J Z 0 0) (J Z 0 0));have FO:=D (Hf ho3 w.heap.size HW.out (O V me) (J t1 t2 t3) (J Z 0 0) (J Z 0 0) (J Z 0 0) (J Z 0 0));have Q:=D (show l3.Pairwise (·<·)/\∀ x,x∈l3↔x∈l from ⟨hs3,fun x=>(ZO x).trans PM.out.mem_iff⟩);clear ho3 hs3 ZO hg3 Y X2 C3 B2 B1 B0;go_wp2_with fail;obtain⟨v0,v1,v2,v3,v4,v5⟩:=FB.out.gQ;refine bodyPost_ret (v:=.agg #[O V me,J t1 t2 t3,J Z 0 0,J Z 0 0,J Z 0 0,J Z 0 0]) (by simp [results,Tryz.results9,go_sem,v0,v1,v2,v3,v4,v5]) rfl ?_;exact⟨⟨l3,(t1,t2,t3),rfl,⟨Row.dB FO.out,⟨[],ji _,.nil⟩,ji _,⟨[],ji _,.nil⟩,⟨[],ji _,.nil⟩⟩,⟨_,FO.out⟩,Q.out.1,Q.out.2⟩,FL.out⟩
end Av
namespace Bk
open Go.RowKit Go.Sort Rw YtghlpefopidlaaaGreat.Nm Pr
end Bk
namespace Bk
open Go.RowKit Rw YtghlpefopidlaaaGreat.Nm Pr
end Bk
namespace Bk
open Go.RowKit Go.Sort Rw YtghlpefopidlaaaGreat.Nm Pr
end Bk
namespace Av
open Go.RowKit Go.ChangeShapes Go.WideShapes Bk
end Av
end Go.Proofs.YtghlpefopidlaaaGreat
