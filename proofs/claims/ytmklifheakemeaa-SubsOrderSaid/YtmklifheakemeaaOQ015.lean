/-
  Find of package adve. Conditions as told.
-/
import Derived.Test.YtmklifheakemeaaOQ013
import Derived.Test.YtmklifheakemeaaOQ014
import Derived.Deep.LoopGhost
import Derived.Maps.OwnSet
import Derived.DeepKeys4
import Derived.KernelRfl
set_option maxRecDepth 100000
set_option maxHeartbeats 64000000
open _root_.Go renaming Value->ay,World->aL,Calls->aQ
open Go.IntKind renaming i64->V
open Go.Lib renaming hid->L,compact->U,compactUpTo->aj
open Go.Obj renaming cells->ak
open Go.Sort renaming ahead->ah
open Go.Value renaming slice->J,int->O,bool->aP
open _root_.List renaming replicate->au,getElem?_eq_getElem->aA,getElem?_toArray->aF,mem_cons_of_mem->aH,getElem?_take->aI,mem_singleton->aJ,length_append->aK,length_map->aM
open _root_.Nat renaming lt_or_ge->aC,le_trans->aD,mul_le_mul_right->aG,le_of_lt->aN,le_refl->aO
open _root_.Option renaming none->Z,some->aB
namespace Go.Proofs.Ytmklifheakemeaa
namespace Av
open Go.RowKit Go.Sort Rw Ytmklifheakemeaa.Nm Pr Bk
def fK (l:List Ad) (x:dW):Option Ad:=l.find? fun a=>decide (a.id=x)
theorem pz {l:List Ad} {x:dW} (h:∀ (j:Nat) (a:Ad),l[j]?=aB a->a.id≠x):fK l x=Z:=by
 unfold fK;rw [List.find?_eq_none];intro a ha;obtain⟨j,hj⟩:=List.mem_iff_getElem?.1 ha;simpa using h j a hj
theorem mV:∀ {l:List Ad} {x:dW} {k:Nat} {a:Ad},l[k]?=aB a->a.id=x->(∀ (j:Nat) (z:Ad),j<k->l[j]?=aB z->z.id≠x)->fK l x=aB a
 | [],_,_,_,h,_,_=>by simp at h
 | b::l,x,0,a,h,hx,_=>by
  obtain rfl:b=a:=by simpa using h
  simp [fK,hx]
 | b::l,x,k+1,a,h,hx,hall=>by
  have hb:=hall 0 b (by omega) rfl;have ih:=mV (l:=l) (x:=x) (k:=k) (a:=a) (by simpa using h) hx fun j z hj hz=>hall (j+1) z (by omega) (by simpa using hz);unfold fK at *;rw [List.find?_cons_of_neg (by simpa using hb)];exact ih
def KN (W:aL) (o:Option Ad) (w:aL) (e:Ending) (w':aL):Prop:=(match o with
 | none=>e=.returned (.tuple #[jv (0,0,(Z,0,0),0),aP false])
 | some a=>∃ r:iN,e=.returned (.tuple #[jv r,aP true])/\oQ w' r a)/\Below W.heap.size w w'
theorem Ba (me:Int) (nv sv ev ov:ay) (av:Sl) (l:List iN) (al:List Ad) (x:dW) (w:aL) (hs:vR w (dO av) l) (hA:dV (oQ w) l al) (hf:∀ a∈al,a.p.length<=900) :
  aQ Try.prog 28 #[.agg #[O V me,nv,dO av,sv,ev,ov],mO x] w (KN w (fK al x) w):=by
 obtain⟨c,d⟩:=x;obtain⟨so,sn,sc⟩:=av;obtain⟨ao,ac,hv⟩:=hs.len;have hv:J so sn sc=J ao l.length ac:=hv;obtain⟨rfl,rfl,rfl⟩:so=ao/\sn=l.length/\sc=ac:=by simpa using hv
 obtain⟨h0,h1,h2⟩:=iC w #[O V me,nv,J so l.length sc,sv,ev,ov] #[O V c,O V d] 31 25;have h3:=gK ((w.alloc (ak #[O V me,nv,J so l.length sc,sv,ev,ov] 31)).alloc (ak #[O V c,O V d] 25)) (ak #[O V 0,O V 0,J Z 0 0,O V 0] 37);have h4:=dI ((w.alloc (ak #[O V me,nv,J so l.length sc,sv,ev,ov] 31)).alloc (ak #[O V c,O V d] 25)) #[O V 0,O V 0,J Z 0 0,O V 0] 37;have hsz:((w.alloc (ak #[O V me,nv,J so l.length sc,sv,ev,ov] 31)).alloc (ak #[O V c,O V d] 25)).heap.size=w.heap.size+1+1:=by simp
 rw [hsz] at h4;have B:=L (h0.trans (h3.mono h0.size));have HS:=L (hs.on B.out);have HA:=L (hA.mono fun _ _ h=>h.on B.out);have X2:=L (h1.on h3);have X3:=L (h2.on h3);have X4:=L h4;have HF:=L hf;have lm:=hs.most;unfold maxLen at lm;obtain⟨n,hn⟩:∃ n,n=l.length:=⟨_,rfl⟩;have q3:=X2.out.cell 2;simp only [aF,List.getElem?_cons_zero,List.getElem?_cons_succ] at q3;rw [<- hn] at HS X2 X3 X4 HA lm q3 B ⊢;have HN:=L hn.symm;obtain⟨fo,hfo⟩:∃ o,o=fK al (c,d):=⟨_,rfl⟩;rw [<- hfo];have FO:=L hfo;clear h0 h1 h2 h3 h4 hs hv hn hA hf hsz hfo;go_enter Try.func28,Try.ntmps28;go_upto_region 1 with fail;generalize ((w.alloc (ak #[O V me,nv,J so n sc,sv,ev,ov] 31)).alloc (ak #[O V c,O V d] 25)).alloc (ak #[O V 0,O V 0,J Z 0 0,O V 0] 37)=W at *;go_wp2
 go_loopw [11] (fun i wr=>∃ k:Nat,k<=n/\i=O V k/\Below W.heap.size W wr/\∀ (j:Nat) (y:iN),j<k->l[j]?=aB y->(y.1,y.2.1)≠(c,d)) (fun i _=>n-(intOf i).toNat)
 case atStart=>exact⟨0,Nat.zero_le _,rfl,Below.refl _ _,fun j y h=>by omega⟩
 case round =>
  obtain⟨k,hk,rfl,hbe,hall⟩:=hrel;have BE:=L hbe;have AL:=L hall;clear hbe hall;by_cases hlt:k<n
  ·obtain⟨y,hy⟩:∃ y,l[k]?=aB y:=⟨_,aA (by rw [HN.out]; exact hlt)⟩;obtain⟨p,ix,px⟩:=NA HS.out rfl HN.out hy;obtain⟨p0,p1,p2,p3⟩:=px wr BE.out;obtain⟨y1,y2,⟨yo,yn,yc⟩,y4⟩:=y;simp only at p0 p1 p2 p3;have NB:=L (gK wr (ak #[O V y1,O V y2,J yo yn yc,O V y4] 37));obtain⟨x0,x1⟩:=((X3.out.on BE.out).on NB.out).cs2;have hw3:IntKind.i64.wrap ((k:Int)+1)=(k:Int)+1:=IntWalk.i64_in _ (by omega);obtain⟨r,hr⟩:∃ r,(y1 == c && y2 == d)=r:=⟨_,rfl⟩;have he:=vS y1 y2 c d r hr;have HY:=L hy;have HR:=L hr;clear px hy hr;cases r
   ·go_wp2
    go_roundw
    case rel=>exact⟨k+1,by omega,by go_num,BE.out.trans (NB.out.mono BE.out.size),fun j y' hj h1=>by
     rcases aC j k with h3|h3
     ·exact AL.out j y' h3 h1
     ·obtain rfl:j=k:=by omega
      have e1:=HY.out;rw [h1] at e1;rw [Option.some.inj e1];intro e;obtain⟨rfl,rfl⟩:y1=c/\y2=d:=by simpa using e
      have:=HR.out;simp at this⟩
    case measure=>simp [intOf]; omega
   ·obtain⟨a,ha⟩:∃ a,al[k]?=aB a:=⟨_,aA (by rw [<- HA.out.len,HN.out]; exact hlt)⟩;obtain⟨z,hz1,hz2⟩:=HA.out.at k a ha;rw [HY.out] at hz1;obtain rfl:=Option.some.inj hz1;have BA:=L (BE.out.trans (NB.out.mono BE.out.size));have C:=L (o8 (y1,y2,(yo,yn,yc),y4) a.p _ (hz2.2.2.on BA.out) (HF.out a (List.mem_of_getElem? ha)));have HZ:=L hz2;have h8:=HR.out;obtain⟨rfl,rfl⟩:y1=c/\y2=d:=by simpa using h8
    have FA:=L (show fo=aB a by
     rw [FO.out];refine mV ha hz2.1.symm fun j z hj hzz=>?_;obtain⟨u,hu1,hu2⟩:=HA.out.at j z hzz;rw [<- hu2.1];exact AL.out j u hj hu1)
    have NM:=(X4.out.on BE.out).on NB.out;clear hz1 hz2 ha h8;go_wp2_with fail;refine C.out.mono ?_;rintro e w1 ⟨⟨⟨u1,u2,u3⟩,rfl,ho⟩,hb⟩;have Y1:=NM.on hb;have B1:=L (BA.out.trans (hb.mono BA.out.size));obtain⟨r0,r1,r2,r3⟩:=Y1.Ak;obtain⟨t0,t1,t2,t3⟩:=Y1.Nw;have zz:=Y1.lt;have hs2:w.heap.size+1+1<(wr.alloc (ak #[O V y1,O V y2,J yo yn yc,O V y4] 37)).heap.size:=NM.lt;have FB:=L (o7 Y1 (O V y1) (O V y2) (J u1 u2 u3) (O V y4));have BL:=L (mD (b:=w.heap.size+1+1) (B.out.trans (B1.out.mono B.out.size)) (by omega) (O V y1) (O V y2) (J u1 u2 u3) (O V y4));have FW:=L (uG ho (w.heap.size+1+1) hs2 (O V y1) (O V y2) (J u1 u2 u3) (O V y4));clear Y1 ho hb hs2 NM;go_wp2_with fail;obtain⟨v0,v1,v2,v3⟩:=FB.out.Ak;refine bodyPost_ret (v:=.tuple #[.agg #[O V y1,O V y2,J u1 u2 u3,O V y4],aP true]) (by simp [results,Try.results28,go_sem,v0,v1,v2,v3]) rfl ?_;rw [FA.out];exact⟨⟨(y1,y2,(u1,u2,u3),y4),rfl,HZ.out.1,HZ.out.2.1,Row.dG FW.out⟩,BL.out⟩
  ·obtain rfl:k=n:=by omega
   have FA:=L (show fo=Z by
    rw [FO.out];refine pz fun j z hzz=>?_;obtain⟨u,hu1,hu2⟩:=HA.out.at j z hzz;rw [<- hu2.1];exact AL.out j u (by rw [<- HN.out]; exact (List.getElem?_eq_some_iff.1 hu1).1) hu1)
   have Y1:=X4.out.on BE.out;obtain⟨r0,r1,r2,r3⟩:=Y1.Ak;obtain⟨t0,t1,t2,t3⟩:=Y1.Nw;have zz:=Y1.lt;have FB:=L (o7 Y1 (O V 0) (O V 0) (J Z 0 0) (O V 0));have BL:=L (mD (b:=w.heap.size+1+1) (B.out.trans (BE.out.mono B.out.size)) (by omega) (O V 0) (O V 0) (J Z 0 0) (O V 0));clear Y1;go_wp2_with fail;obtain⟨v0,v1,v2,v3⟩:=FB.out.Ak;refine bodyPost_ret (v:=.tuple #[.agg #[O V 0,O V 0,J Z 0 0,O V 0],aP false]) (by simp [results,Try.results28,go_sem,v0,v1,v2,v3]) rfl ?_;rw [FA.out];exact⟨rfl,BL.out⟩
end Av
namespace Bk
open Go.RowKit Rw Ytmklifheakemeaa.Nm Pr
def gD {κ:Type} [DecidableEq κ]:List κ->κ->Int
 | [],_=>-1
 | a::l,x=>if a=x then 0 else if gD l x=-1 then -1 else gD l x+1
theorem pE {κ:Type} [DecidableEq κ] (l:List κ) (x:κ) (h:∀ (j:Nat) (y:κ),l[j]?=aB y->y≠x):gD l x=-1:=by
 induction l with
 | nil=>rfl
 | cons a l ih=>rw [gD,if_neg (h 0 a rfl),ih fun j y hj=>h (j+1) y (by simpa using hj),if_pos rfl]
theorem Bb {κ:Type} [DecidableEq κ] (l:List κ) (k:Nat) (x:κ) (h:l[k]?=aB x) (hall:∀ (j:Nat) (z:κ),j<k->l[j]?=aB z->z≠x):gD l x=k:=by
 induction l generalizing k with
 | nil=>simp at h
 | cons a l ih =>
  cases k with
  | zero =>
   obtain rfl:a=x:=by simpa using h
   rw [gD,if_pos rfl]
   rfl
  | succ k =>
   have h2:=ih k (by simpa using h) fun j z hj hz=>hall (j+1) z (by omega) (by simpa using hz);rw [gD,if_neg (hall 0 a (by omega) rfl),h2,if_neg (by omega)];omega
theorem kJ {κ:Type} [DecidableEq κ] (l:List κ) (x:κ):gD l x=-1\/∃ k:Nat,gD l x=k/\l[k]?=aB x:=by
 induction l with
 | nil=>exact Or.inl rfl
 | cons a l ih =>
  rw [gD];by_cases h:a=x
  ·rw [if_pos h];exact Or.inr ⟨0,rfl,by rw [h]; rfl⟩
  ·rw [if_neg h];rcases ih with h2|⟨k,h2,h3⟩
   ·rw [if_pos h2];exact Or.inl rfl
   ·rw [if_neg (by omega),h2];exact Or.inr ⟨k+1,by omega,by simpa using h3⟩
abbrev uH (e:fE):Id×Id:=((e.1,e.2.1),(e.2.2.1,e.2.2.2.1))
end Bk
namespace Pr
open Go.RowKit Go.Sort Pu Rw Va
end Pr
namespace Av
open Go.RowKit Rw Bk Go.Maps Go.ChangeMaps
end Av
namespace Av
open Go.RowKit Rw Ytmklifheakemeaa.Nm Pr Bk Go.Sort
theorem Bc {α:Type} [Inhabited α] (enc:α->ay) (d:Array α) (cur:Array ay) (h:d.size<=cur.size):(putCells enc 0 d cur).toList.take d.size=d.toList.map enc:=by
 apply List.ext_getElem?;intro j;rw [aI];by_cases hj:j<d.size
 ·have hc:j<cur.size:=by omega
  simp [putCells,hj,hc]
 ·simp [hj]
theorem pF {α β:Type} [Inhabited β] {E:Ek α} (K:E.Ok) {w:aL} {B g cap:Nat} {l l':List α} (h:Own E w B (J (aB ⟨g,0,Z⟩) l.length cap) l) (enc:β->ay) (d:Array β) (hd:d.toList.map enc=flat E l') (hl:l'.length=l.length) (n:Nat) (os:Array Obj) :
  Own E (grow (putRow enc (ah w n) g 0 d) os) B (J (aB ⟨g,0,Z⟩) l.length cap) l'/\w.grownBy (grow (putRow enc (ah w n) g 0 d) os) (aB g):=by
 have hds:d.size=l.length * E.n:=by
  rw [<- hl,<- dx K l',<- hd];simp
 rcases eX h with⟨e,_⟩|⟨g',cap',cur,e,h1,h2,h3,h4,h5,h6⟩
 ·cases e
 obtain⟨rfl,rfl⟩:g=g'/\cap=cap':=by simpa using e
 have hlt:=lt_of_heap h2;have hb:(grow (putRow enc (ah w n) g 0 d) os).heap[g]?=aB (ak (putCells enc 0 d cur) E.t (0,0)):=by
  rw [heap_grow_old _ _ (by simp [putRow,mapBlock,ah]; exact hlt)];unfold dz at h2;simp only [putRow,mapBlock,ah,Array.getElem?_modify,if_true,h2]
  rfl
 have hfit:d.size<=cur.size:=by
  rw [hds,h5];exact aG _ h3
 refine⟨⟨by rw [dx K],Or.inr ⟨g,cap,_,by rw [hl],h1,hb,by rw [hl]; exact h3,h4,by simp [putCells]; exact h5,?_⟩⟩,⟨rfl,rfl,rfl,by simp [putRow,mapBlock,ah],fun k hk hne=>?_⟩⟩
 ·rw [hl,<- hds,Bc enc d cur hfit,hd]
 ·rw [heap_grow_old _ _ (by simp [putRow,mapBlock,ah]; exact hk)];have hkg:g≠k:=fun e=>hne (by rw [e]);simp [putRow,mapBlock,ah,Array.getElem?_modify,hkg]
theorem qW {α:Type} {E:Ek α} {w:aL} {B g cap:Nat} {l:List α} (K:E.Ok) {β:Type} [Inhabited β] (enc:β->ay) (d:Array β) (hd:d.toList.map enc=flat E l) (h:Own E w B (J (aB ⟨g,0,Z⟩) l.length cap) l):Holds enc w g 0 d/\g<w.heap.size:=by
 rcases eX h with⟨e,_⟩|⟨g',cap',cur,e,h1,h2,h3,h4,h5,h6⟩
 ·cases e
 obtain⟨rfl,rfl⟩:g=g'/\cap=cap':=by simpa using e
 refine⟨fun j hj=>?_,h2.lt⟩;rw [Nat.zero_add];refine⟨?_,h2.fr j⟩;rw [h2.cell j];have hsz:d.size=l.length * E.n:=by
  rw [<- dx K l,<- hd];simp
 have h7:(cur.toList.take (l.length * E.n))[j]?=(d.toList.map enc)[j]?:=by rw [h6,hd]
 rw [aI,if_pos (by omega)] at h7;rw [Array.getElem?_toList] at h7;rw [h7,List.getElem?_map,Array.getElem?_toList,getElem!_pos d j hj,Array.getElem?_eq_getElem hj]
 rfl
theorem yU (w:aL) (B:Nat) (v:ay) (l:List Int) (h:oK w B v l) (hlen:l.length<=900):aQ Try.prog 26 #[v] w fun e w'=>e=.returned (.tuple #[])/\∃ l':List Int,oK w' B v l'/\l'.Perm l/\l'.Pairwise (·<=·)/\w.grownBy w' v.ownBlock:=by
 rcases eX h with⟨rfl,rfl⟩|⟨g,cap,cur,rfl,h1,h2,h3,h4,h5,h6⟩
 ·have hc:=Any.slices_Sort_int_none Try.sortI Z 0 w;refine Calls.mono hc ?_;rintro e w' ⟨rfl,rfl⟩;exact⟨rfl,[],h,List.Perm.refl _,List.Pairwise.nil,Rw.mh _ _⟩
 ·obtain⟨hh,hlt⟩:=qW Nm.Ez (O V) l.toArray (by rw [tV]) h;have hc:=Any.slices_Sort_int Try.sortI g 0 cap l w hh hlt (by omega);refine Calls.mono hc ?_;rintro e w' ⟨rfl,n,os,rfl⟩;have hs:=pF Nm.Ez (l':=l.mergeSort fun x y=>decide (x<=y)) h (O V) (l.mergeSort fun x y=>decide (x<=y)).toArray (by rw [tV]) (List.length_mergeSort l) n os;refine⟨rfl,_,hs.1,List.mergeSort_perm _ _,?_,hs.2⟩;have hp:=List.pairwise_mergeSort (le:=fun x y:Int=>decide (x<=y)) (fun a b c h1 h2=>by simp at h1 h2 ⊢; omega) (fun a b=>by simp; omega) l;exact hp.imp (fun {a b} hab=>by simpa using hab)
theorem uI (d:Array Int) (n:Nat) (hs:∀ i j,i<=j->j<n->d[i]!<=d[j]!):∀ m,m<=n->(∀ x∈aj d m,∃ j,j<m/\d[j]! = x)/\(∀ j,j<m->d[j]!∈aj d m)/\(aj d m).Pairwise (·<·)
 | 0,_=>⟨fun x h=>by simp [aj] at h,fun j h=>by omega,by simp [aj]⟩
 | m+1,hm=>by
  obtain⟨h1,h2,h3⟩:=uI d n hs m (by omega);rw [Lib.compactUpTo_succ];cases hk:Lib.keeps d m with
  | false =>
   simp only [Bool.false_eq_true,if_false,List.append_nil];have hk':m≠0/\d[m]! = d[m-1]!:=by
    have h:=of_decide_eq_false hk;rw [not_or] at h;exact⟨h.1,Classical.not_not.1 h.2⟩
   refine⟨fun x hx=>?_,fun j hj=>?_,h3⟩
   ·obtain⟨j,hj,e⟩:=h1 x hx;exact⟨j,by omega,e⟩
   ·rcases aC j m with h|h
    ·exact h2 j h
    ·obtain rfl:j=m:=by omega
     rw [hk'.2];exact h2 _ (by omega)
  | true =>
   simp only [if_true];have hk':m=0\/d[m]!≠d[m-1]!:=of_decide_eq_true hk;refine⟨fun x hx=>?_,fun j hj=>?_,?_⟩
   ·rcases List.mem_append.1 hx with h|h
    ·obtain⟨j,hj,e⟩:=h1 x h;exact⟨j,by omega,e⟩
    ·exact⟨m,by omega,(aJ.1 h).symm⟩
   ·rcases aC j m with h|h
    ·exact List.mem_append_left _ (h2 j h)
    ·obtain rfl:j=m:=by omega
     exact List.mem_append_right _ (by simp)
   ·rw [List.pairwise_append];refine⟨h3,List.pairwise_singleton _ _,fun a ha b hb=>?_⟩;obtain⟨j,hj,rfl⟩:=h1 a ha;rw [aJ.1 hb];have a1:=hs j (m-1) (by omega) (by omega);have a2:=hs (m-1) m (by omega) (by omega);rcases hk' with h|h
    ·omega
    ·omega
theorem wE (l:List Int) (hs:l.Pairwise (·<=·)):(U l).Pairwise (·<·)/\(∀ x,x∈U l↔x∈l)/\(U l).length<=l.length:=by
 have hd:∀ i j,i<=j->j<l.length->l.toArray[i]!<=l.toArray[j]!:=by
  intro i j hij hj;rw [getElem!_pos l.toArray i (by simp; omega),getElem!_pos l.toArray j (by simpa using hj)];rcases aC i j with h|h
  ·have:=List.pairwise_iff_getElem.1 hs i j (by omega) hj h;simpa using this
  ·obtain rfl:i=j:=by omega
   exact Int.le_refl _
 obtain⟨h1,h2,h3⟩:=uI l.toArray l.length hd l.length (aO _);refine⟨h3,fun x=>⟨fun hx=>?_,fun hx=>?_⟩,?_⟩
 ·obtain⟨j,hj,rfl⟩:=h1 x hx;rw [getElem!_pos l.toArray j (by simpa using hj)];simp
 ·obtain⟨j,hj,rfl⟩:=List.mem_iff_getElem.1 hx;have:=h2 j hj;rw [getElem!_pos l.toArray j (by simpa using hj)] at this;simpa [U] using this
 ·unfold U aj;rw [aM];exact aD (List.length_filter_le _ _) (by simp)
theorem Bd (w:aL) (B:Nat) (v:Sl) (l:List Int) (h:oK w B (dO v) l) (hs:l.Pairwise (·<=·)) (hlen:l.length<=900):aQ Try.prog 27 #[dO v] w fun e w'=>(∃ v':Sl,e=.returned (dO v')/\∃ l':List Int,oK w' B (dO v') l'/\l'.Pairwise (·<·)/\∀ x,x∈l'↔x∈l)/\w.grownBy w' (dO v).ownBlock:=by
 obtain⟨vo,vn,vc⟩:=v;rcases eX h with⟨h0,rfl⟩|⟨g,cap,cur,h0,h1,h2,h3,h4,h5,h6⟩
 ·obtain⟨rfl,rfl,rfl⟩:vo=Z/\vn=0/\vc=0:=by simpa using h0
  have hc:=Any.slices_Compact_int_empty Try.cptI Z 0 w;refine Calls.mono hc ?_;rintro e w' ⟨rfl,rfl⟩;exact⟨⟨(Z,0,0),rfl,[],h,List.Pairwise.nil,fun _=>Iff.rfl⟩,Rw.mh _ _⟩
 ·obtain⟨rfl,rfl,rfl⟩:vo=aB ⟨g,0,Z⟩/\vn=l.length/\vc=cap:=by simpa using h0
  obtain⟨hh,hlt⟩:=qW Nm.Ez (O V) l.toArray (by rw [tV]) h;have hc:=Any.slices_Compact_int Try.cptI g 0 vc l w hh (by omega) h3;obtain⟨c1,c2,c3⟩:=wE l hs;refine Calls.mono hc ?_;rintro e w' ⟨rfl,n,rfl⟩;have ht:=pF Nm.Ez (l':=U l++au (l.length-(U l).length) 0) h (O V) (U l++au (l.length-(U l).length) 0).toArray (by rw [tV]) (by rw [aK,List.length_replicate]; omega) n #[];have hg:grow (putRow (O V) (ah w n) g 0 (U l++au (l.length-(U l).length) 0).toArray) #[]=putRow (O V) (ah w n) g 0 (U l++au (l.length-(U l).length) 0).toArray:=grow_empty _;rw [hg] at ht;refine⟨⟨(aB ⟨g,0,Z⟩,(U l).length,vc),rfl,U l,?_,c1,c2⟩,ht.2⟩;rcases eX ht.1 with⟨e,_⟩|⟨g',cap',cur',e,k1,k2,k3,k4,k5,k6⟩
  ·cases e
  ·obtain⟨rfl,_,rfl⟩:g=g'/\l.length=_/\vc=cap':=by simpa using e
   refine jI Nm.Ez rfl k1 k2 (aD c3 h3) k4 k5 ?_;have k7:=congrArg (List.take ((U l).length * EI.n)) k6;rw [List.take_take,jJ Nm.Ez,Nat.min_eq_left (aG _ (by rw [aK]; omega)),List.take_left'] at k7
   ·exact k7
   ·rfl
abbrev jN (me:Int) (near:List Int):Br:=⟨me,near,[],[],[],[]⟩
theorem pG (me:Int) (v:Sl) (l:List Int) (w:aL) (hv:qz w (dO v) l) (hl:l.length<=900) :
  aQ Try.prog 6 #[O V me,dO v] w fun e w'=>(∃ (l':List Int) (nv:Sl),e=.returned (iJ me nv (Z,0,0) (Z,0,0) (Z,0,0) (Z,0,0))/\jK w' (jN me l') nv (Z,0,0) (Z,0,0) (Z,0,0) (Z,0,0)/\(∃ B,oK w' B (dO nv) l')/\l'.Pairwise (·<·)/\∀ x,x∈l'↔x∈l)/\Below w.heap.size w w':=by
 have n0:=gK w (ak #[O V 0,J Z 0 0,J Z 0 0,J Z 0 0,J Z 0 0,J Z 0 0] 31);have X:=L (dI w #[O V 0,J Z 0 0,J Z 0 0,J Z 0 0,J Z 0 0,J Z 0 0] 31);have C:=L (oW v l _ (hv.on n0) hl);have B0:=L n0;have HL:=L hl;obtain⟨vo,vn,vc⟩:=v;clear hv hl n0;go_enter Try.func6,Try.ntmps6;go_wp2_with fail;generalize w.alloc (ak #[O V 0,J Z 0 0,J Z 0 0,J Z 0 0,J Z 0 0,J Z 0 0] 31)=W at *;refine C.out.mono ?_;rintro e1 w1 ⟨⟨⟨p1,p2,p3⟩,rfl,ho⟩,hb⟩;have B1:=L (B0.out.trans (hb.mono B0.out.size));have X1:=L (X.out.on hb);have hlt:w.heap.size<W.heap.size:=X.out.lt;have C2:=L (yU w1 W.heap.size _ l ho HL.out);have OT:=L (fun g hg=>(ho.lt g hg).1);have HW:=L hlt;clear hb ho C X;go_wp2_with fail;refine C2.out.mono ?_;rintro e2 w2 ⟨rfl,l2,ho2,hp2,hs2,hg2⟩;have B2:=L (B1.out.grown hg2 B1.out.size (fun j hj=>aD (aN HW.out) (OT.out j hj)));have X2:=L (show dz w2 w.heap.size _ _ from (hg2.block _ X1.out.lt (fun e=>by have:=OT.out _ e.symm; have:=HW.out; omega)).trans X1.out);have C3:=L (Bd w2 W.heap.size (p1,p2,p3) l2 ho2 hs2 (by rw [hp2.length_eq]; exact HL.out));have PM:=L hp2;have PD:=L (fun g hg=>(ho2.lt g hg).1);clear ho2 hp2 hs2 hg2 C2 OT X1;go_wp2_with fail;refine C3.out.mono ?_;rintro e3 w3 ⟨⟨⟨t1,t2,t3⟩,rfl,l3,ho3,hs3,PG⟩,hg3⟩;have B3:=L (B2.out.grown hg3 B2.out.size (fun j hj=>aD (aN HW.out) (PD.out j hj)));have Y:=show dz w3 w.heap.size _ _ from (hg3.block _ X2.out.lt (fun e=>by have:=PD.out _ e.symm; have:=HW.out; omega)).trans X2.out;obtain⟨y0,y1,y2,y3,y4,y5⟩:=Y.gZ;obtain⟨f0,f1,f2,f3,f4,f5⟩:=Y.qy;have zz:=Y.lt;have FB:=L (dY Y (O V me) (J t1 t2 t3) (J Z 0 0) (J Z 0 0) (J Z 0 0) (J Z 0 0));have FL:=L (dM (b:=w.heap.size) B3.out (aO _) (O V me) (J t1 t2 t3) (J Z 0 0) (J Z 0 0) (J Z 0 0) (J Z 0 0));have FO:=L (yM ho3 w.heap.size HW.out (O V me) (J t1 t2 t3) (J Z 0 0) (J Z 0 0) (J Z 0 0) (J Z 0 0));have Q:=L (show l3.Pairwise (·<·)/\∀ x,x∈l3↔x∈l from ⟨hs3,fun x=>(PG x).trans PM.out.mem_iff⟩);clear ho3 hs3 PG hg3 Y X2 C3 B2 B1 B0;go_wp2_with fail;obtain⟨v0,v1,v2,v3,v4,v5⟩:=FB.out.gZ;refine bodyPost_ret (v:=.agg #[O V me,J t1 t2 t3,J Z 0 0,J Z 0 0,J Z 0 0,J Z 0 0]) (by simp [results,Try.results6,go_sem,v0,v1,v2,v3,v4,v5]) rfl ?_;exact⟨⟨l3,(t1,t2,t3),rfl,⟨Row.dG FO.out,⟨[],iK _,.nil⟩,iK _,⟨[],iK _,.nil⟩,⟨[],iK _,.nil⟩⟩,⟨_,FO.out⟩,Q.out.1,Q.out.2⟩,FL.out⟩
end Av
namespace Rg
open Go.RowKit
def nK (bl:List ay):List Nat->List ay->List ay
 | d::D,v::vs=>(nK bl D vs).set d v
 | _,_=>bl
theorem pI (bl:List ay):∀ (D:List Nat) (vs:List ay),(nK bl D vs).length=bl.length
 | [],_=>rfl
 | _::_,[]=>rfl
 | d::D,v::vs=>by
  show ((nK bl D vs).set d v).length=_;rw [List.length_set];exact pI bl D vs
theorem pJ (bl:List ay) (f:Nat->ay) (j:Nat):∀ (D:List Nat),(∀ d∈D,d<bl.length)->(nK bl D (D.map f))[j]?=if j∈D then aB (f j) else bl[j]?
 | [],_=>by rfl
 | d::D,h=>by
  have ih:=pJ bl f j D fun x hx=>h x (aH _ hx);show ((nK bl D (D.map f)).set d (f d))[j]?=_;by_cases e:d=j
  ·subst e;rw [List.getElem?_set_self (by rw [pI]; exact h d (by simp)),if_pos (by simp)]
  ·rw [List.getElem?_set_ne e,ih];by_cases hj:j∈D
   ·rw [if_pos hj,if_pos (aH _ hj)]
   ·rw [if_neg hj,if_neg fun q=>(List.mem_cons.1 q).elim (fun q=>e q.symm) hj]
theorem uJ {a:Act} {bl:List ay} (D:List Nat) (df:a.defers=[]) (sz:a.tmps.size=bl.length) (hD:∀ d∈D,d<bl.length) (kp:∀ j,j ∉ D->a.tmps[j]?=bl[j]?) :
  ∃ vs:List ay,vs.length=D.length/\a=⟨(nK bl D vs).toArray,[]⟩:=by
 obtain⟨tmps,defers⟩:=a;have hd:defers=[]:=df;have hs:tmps.size=bl.length:=sz;have hk:∀ j,j ∉ D->tmps[j]?=bl[j]?:=kp;subst hd;refine⟨D.map fun d=>(tmps[d]?).getD (aP false),by rw [aM],?_⟩;refine congrArg (fun x=>(⟨x,[]⟩:Act)) (Array.ext_getElem? fun j=>?_)
 conv=>rhs; rw [aF]
 rw [pJ bl _ j D hD];by_cases hj:j∈D
 ·rw [if_pos hj,Array.getElem?_eq_getElem (by rw [hs]; exact hD j hj)]
  rfl
 ·rw [if_neg hj];exact hk j hj
end Rg
end Go.Proofs.Ytmklifheakemeaa
