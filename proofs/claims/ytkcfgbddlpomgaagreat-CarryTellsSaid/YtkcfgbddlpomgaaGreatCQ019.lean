/-
  slices.Sort and slic. Conditions as told.
-/
import Derived.Test.YtkcfgbddlpomgaaGreatCQ014
import Derived.Test.YtkcfgbddlpomgaaGreatCQ015
import Derived.Deep.RegionWith
set_option maxRecDepth 100000
set_option maxHeartbeats 64000000
open _root_.Array renaming length_toList->aC,getElem?_modify->aQ,getElem?_toList->aR
open _root_.Bool renaming true->aB
open _root_.Go renaming World->aj,bodyPost_ret->aH,Value->aI,Calls->aX,Act->bn
open Go.Ending renaming returned->aL
open Go.Lib renaming hid->J,compact->O,compactUpTo->ak
open Go.Proofs.Tryz renaming results109->au,ntmps109->aD,prog->aF,func109->aG,sortI->bg,cptI->bA
open Go.Proofs.YtkcfgbddlpomgaaGreat.Rg renaming get_put->X,done->aP,size_put->aS,gy->aZ,dD->bf,cZ->bC
open Go.Region renaming binds->aA
open Go.Sort renaming ahead->ah
open Go.Value renaming slice->U,pointer->Z,int->aJ,bool->aK
open _root_.List renaming replicate->aN,getElem?_eq_some_iff->aO,getElem?_take->aT,mem_singleton->aU,length_append->aV,all_eq_true->aW,mem_range->aY
open _root_.Option renaming some->Y,none->ay
open _root_.Or renaming inr->aM,inl->bD
namespace Go.Proofs.YtkcfgbddlpomgaaGreat
namespace Av
open Go.RowKit Rw YtkcfgbddlpomgaaGreat.Nm Pr Bk Go.Sort
theorem QO {α:Type} [Inhabited α] (enc:α->aI) (d:Array α) (cur:Array aI) (h:d.size<=cur.size):(putCells enc 0 d cur).toList.take d.size=d.toList.map enc:=by
 apply List.ext_getElem?;intro j;rw [aT];by_cases hj:j<d.size
 ·have hc:j<cur.size:=by omega
  simp [putCells,hj,hc]
 ·simp [hj]
theorem ze {α β:Type} [Inhabited β] {E:Ek α} (K:E.Ok) {w:aj} {B g cap:Nat} {l l':List α} (h:Own E w B (U (Y ⟨g,0,ay⟩) l.length cap) l) (enc:β->aI) (d:Array β) (hd:d.toList.map enc=flat E l') (hl:l'.length=l.length) (n:Nat) (os:Array Obj) :
  Own E (grow (putRow enc (ah w n) g 0 d) os) B (U (Y ⟨g,0,ay⟩) l.length cap) l'/\w.grownBy (grow (putRow enc (ah w n) g 0 d) os) (Y g):=by
 have hds:d.size=l.length * E.n:=by
  rw [<- hl,<- dU K l',<- hd];simp
 rcases iP h with⟨e,_⟩|⟨g',cap',cur,e,h1,h2,h3,h4,h5,h6⟩
 ·cases e
 obtain⟨rfl,rfl⟩:g=g'/\cap=cap':=by simpa using e
 have hlt:=lt_of_heap h2;have hb:(grow (putRow enc (ah w n) g 0 d) os).heap[g]?=Y (.cells (putCells enc 0 d cur) E.t (0,0)):=by
  rw [heap_grow_old _ _ (by simp [putRow,mapBlock,ah]; exact hlt)];unfold dG at h2;simp only [putRow,mapBlock,ah,aQ,if_true,h2]
  rfl
 have hfit:d.size<=cur.size:=by
  rw [hds,h5];exact Nat.mul_le_mul_right _ h3
 refine⟨⟨by rw [dU K],aM ⟨g,cap,_,by rw [hl],h1,hb,by rw [hl]; exact h3,h4,by simp [putCells]; exact h5,?_⟩⟩,⟨rfl,rfl,rfl,by simp [putRow,mapBlock,ah],fun k hk hne=>?_⟩⟩
 ·rw [hl,<- hds,QO enc d cur hfit,hd]
 ·rw [heap_grow_old _ _ (by simp [putRow,mapBlock,ah]; exact hk)];have hkg:g≠k:=fun e=>hne (by rw [e]);simp [putRow,mapBlock,ah,aQ,hkg]
theorem Ch {α:Type} {E:Ek α} {w:aj} {B g cap:Nat} {l:List α} (K:E.Ok) {β:Type} [Inhabited β] (enc:β->aI) (d:Array β) (hd:d.toList.map enc=flat E l) (h:Own E w B (U (Y ⟨g,0,ay⟩) l.length cap) l):Holds enc w g 0 d/\g<w.heap.size:=by
 rcases iP h with⟨e,_⟩|⟨g',cap',cur,e,h1,h2,h3,h4,h5,h6⟩
 ·cases e
 obtain⟨rfl,rfl⟩:g=g'/\cap=cap':=by simpa using e
 refine⟨fun j hj=>?_,h2.lt⟩;rw [Nat.zero_add];refine⟨?_,h2.fr j⟩;rw [h2.cell j];have hsz:d.size=l.length * E.n:=by
  rw [<- dU K l,<- hd];simp
 have h7:(cur.toList.take (l.length * E.n))[j]?=(d.toList.map enc)[j]?:=by rw [h6,hd]
 rw [aT,if_pos (by omega)] at h7;rw [aR] at h7;rw [h7,List.getElem?_map,aR,getElem!_pos d j hj,Array.getElem?_eq_getElem hj]
 rfl
theorem Ci (w:aj) (B:Nat) (v:aI) (l:List Int) (h:mq w B v l) (hlen:l.length<=900):aX aF 75 #[v] w fun e w'=>e=aL (.tuple #[])/\∃ l':List Int,mq w' B v l'/\l'.Perm l/\l'.Pairwise (·<=·)/\w.grownBy w' v.ownBlock:=by
 rcases iP h with⟨rfl,rfl⟩|⟨g,cap,cur,rfl,h1,h2,h3,h4,h5,h6⟩
 ·have hc:=Any.slices_Sort_int_none bg ay 0 w;refine Calls.mono hc ?_;rintro e w' ⟨rfl,rfl⟩;exact⟨rfl,[],h,List.Perm.refl _,List.Pairwise.nil,Rw.qC _ _⟩
 ·obtain⟨hh,hlt⟩:=Ch Nm.I4 (aJ .i64) l.toArray (by rw [Fu]) h;have hc:=Any.slices_Sort_int bg g 0 cap l w hh hlt (by omega);refine Calls.mono hc ?_;rintro e w' ⟨rfl,n,os,rfl⟩;have hs:=ze Nm.I4 (l':=l.mergeSort fun x y=>decide (x<=y)) h (aJ .i64) (l.mergeSort fun x y=>decide (x<=y)).toArray (by rw [Fu]) (List.length_mergeSort l) n os;refine⟨rfl,_,hs.1,List.mergeSort_perm _ _,?_,hs.2⟩;have hp:=List.pairwise_mergeSort (le:=fun x y:Int=>decide (x<=y)) (fun a b c h1 h2=>by simp at h1 h2 ⊢; omega) (fun a b=>by simp; omega) l;exact hp.imp (fun {a b} hab=>by simpa using hab)
theorem Gj (d:Array Int) (n:Nat) (hs:∀ i j,i<=j->j<n->d[i]!<=d[j]!):∀ m,m<=n->(∀ x∈ak d m,∃ j,j<m/\d[j]! = x)/\(∀ j,j<m->d[j]!∈ak d m)/\(ak d m).Pairwise (·<·)
 | 0,_=>⟨fun x h=>by simp [ak] at h,fun j h=>by omega,by simp [ak]⟩
 | m+1,hm=>by
  obtain⟨h1,h2,h3⟩:=Gj d n hs m (by omega);rw [Lib.compactUpTo_succ];cases hk:Lib.keeps d m with
  | false =>
   simp only [Bool.false_eq_true,if_false,List.append_nil];have hk':m≠0/\d[m]! = d[m-1]!:=by
    have h:=of_decide_eq_false hk;rw [not_or] at h;exact⟨h.1,Classical.not_not.1 h.2⟩
   refine⟨fun x hx=>?_,fun j hj=>?_,h3⟩
   ·obtain⟨j,hj,e⟩:=h1 x hx;exact⟨j,by omega,e⟩
   ·rcases Nat.lt_or_ge j m with h|h
    ·exact h2 j h
    ·obtain rfl:j=m:=by omega
     rw [hk'.2];exact h2 _ (by omega)
  | true =>
   simp only [if_true];have hk':m=0\/d[m]!≠d[m-1]!:=of_decide_eq_true hk;refine⟨fun x hx=>?_,fun j hj=>?_,?_⟩
   ·rcases List.mem_append.1 hx with h|h
    ·obtain⟨j,hj,e⟩:=h1 x h;exact⟨j,by omega,e⟩
    ·exact⟨m,by omega,(aU.1 h).symm⟩
   ·rcases Nat.lt_or_ge j m with h|h
    ·exact List.mem_append_left _ (h2 j h)
    ·obtain rfl:j=m:=by omega
     exact List.mem_append_right _ (by simp)
   ·rw [List.pairwise_append];refine⟨h3,List.pairwise_singleton _ _,fun a ha b hb=>?_⟩;obtain⟨j,hj,rfl⟩:=h1 a ha;rw [aU.1 hb];have a1:=hs j (m-1) (by omega) (by omega);have a2:=hs (m-1) m (by omega) (by omega);rcases hk' with h|h
    ·omega
    ·omega
theorem Jt (l:List Int) (hs:l.Pairwise (·<=·)):(O l).Pairwise (·<·)/\(∀ x,x∈O l↔x∈l)/\(O l).length<=l.length:=by
 have hd:∀ i j,i<=j->j<l.length->l.toArray[i]!<=l.toArray[j]!:=by
  intro i j hij hj;rw [getElem!_pos l.toArray i (by simp; omega),getElem!_pos l.toArray j (by simpa using hj)];rcases Nat.lt_or_ge i j with h|h
  ·have:=List.pairwise_iff_getElem.1 hs i j (by omega) hj h;simpa using this
  ·obtain rfl:i=j:=by omega
   exact Int.le_refl _
 obtain⟨h1,h2,h3⟩:=Gj l.toArray l.length hd l.length (Nat.le_refl _);refine⟨h3,fun x=>⟨fun hx=>?_,fun hx=>?_⟩,?_⟩
 ·obtain⟨j,hj,rfl⟩:=h1 x hx;rw [getElem!_pos l.toArray j (by simpa using hj)];simp
 ·obtain⟨j,hj,rfl⟩:=List.mem_iff_getElem.1 hx;have:=h2 j hj;rw [getElem!_pos l.toArray j (by simpa using hj)] at this;simpa [O] using this
 ·unfold O ak;rw [List.length_map];exact Nat.le_trans (List.length_filter_le _ _) (by simp)
theorem Gl (w:aj) (B:Nat) (v:Sl) (l:List Int) (h:mq w B (dK v) l) (hs:l.Pairwise (·<=·)) (hlen:l.length<=900):aX aF 76 #[dK v] w fun e w'=>(∃ v':Sl,e=aL (dK v')/\∃ l':List Int,mq w' B (dK v') l'/\l'.Pairwise (·<·)/\∀ x,x∈l'↔x∈l)/\w.grownBy w' (dK v).ownBlock:=by
 obtain⟨vo,vn,vc⟩:=v;rcases iP h with⟨h0,rfl⟩|⟨g,cap,cur,h0,h1,h2,h3,h4,h5,h6⟩
 ·obtain⟨rfl,rfl,rfl⟩:vo=ay/\vn=0/\vc=0:=by simpa using h0
  have hc:=Any.slices_Compact_int_empty bA ay 0 w;refine Calls.mono hc ?_;rintro e w' ⟨rfl,rfl⟩;exact⟨⟨(ay,0,0),rfl,[],h,List.Pairwise.nil,fun _=>Iff.rfl⟩,Rw.qC _ _⟩
 ·obtain⟨rfl,rfl,rfl⟩:vo=Y ⟨g,0,ay⟩/\vn=l.length/\vc=cap:=by simpa using h0
  obtain⟨hh,hlt⟩:=Ch Nm.I4 (aJ .i64) l.toArray (by rw [Fu]) h;have hc:=Any.slices_Compact_int bA g 0 vc l w hh (by omega) h3;obtain⟨c1,c2,c3⟩:=Jt l hs;refine Calls.mono hc ?_;rintro e w' ⟨rfl,n,rfl⟩;have ht:=ze Nm.I4 (l':=O l++aN (l.length-(O l).length) 0) h (aJ .i64) (O l++aN (l.length-(O l).length) 0).toArray (by rw [Fu]) (by rw [aV,List.length_replicate]; omega) n #[];have hg:grow (putRow (aJ .i64) (ah w n) g 0 (O l++aN (l.length-(O l).length) 0).toArray) #[]=putRow (aJ .i64) (ah w n) g 0 (O l++aN (l.length-(O l).length) 0).toArray:=grow_empty _;rw [hg] at ht;refine⟨⟨(Y ⟨g,0,ay⟩,(O l).length,vc),rfl,O l,?_,c1,c2⟩,ht.2⟩;rcases iP ht.1 with⟨e,_⟩|⟨g',cap',cur',e,k1,k2,k3,k4,k5,k6⟩
  ·cases e
  ·obtain⟨rfl,_,rfl⟩:g=g'/\l.length=_/\vc=cap':=by simpa using e
   refine uD Nm.I4 rfl k1 k2 (Nat.le_trans c3 h3) k4 k5 ?_;have k7:=congrArg (List.take ((O l).length * EI.n)) k6;rw [List.take_take,vP Nm.I4,Nat.min_eq_left (Nat.mul_le_mul_right _ (by rw [aV]; omega)),List.take_left'] at k7
   ·exact k7
   ·rfl
end Av
namespace Wr
open YtkcfgbddlpomgaaGreat.Nm At Pr
def Nt (c:C5):Bool:=Fb c.1 && (if c.2.1=1 then decide (c.2.2.2.2.size=0) && decide (c.2.2.1<=c.2.2.2.1) else if c.2.1=2 then decide (c.2.2.1=0) && (decide (c.2.2.2.1=0) && decide (c.2.2.2.2.size<=12)) else if c.2.1=3 then decide (c.2.2.1=0) && (decide (c.2.2.2.1=0) && decide (c.2.2.2.2.size<=11)) else false)
def ab0 (p x:C5):Bool:=Op.bytesLess p.1.toList x.1.toList
def QT (l:List C5) (k:Nat):Bool:=match l[k]? with
 | some x=>Nt x && (k == 0 || (match l[k-1]? with
  | some p=>ab0 p x
  | none=>aB))
 | none=>aB
def jd (l:List C5):Bool:=(List.range l.length).all (QT l) && decide (l.length<=5)
theorem Ju (l:List C5) (h:∀ j,j<l.length->QT l j=aB):jd l=decide (l.length<=5):=by
 unfold jd;rw [aW.2 fun j hj=>h j (aY.1 hj),Bool.true_and]
end Wr
namespace Pr
open Go.RowKit Go.Sort Pu Rw Va
end Pr
namespace Avp
open Go.RowKit Go.Sort Rw YtkcfgbddlpomgaaGreat.Nm At Pr Wr Va
end Avp
namespace Bk
open Go.RowKit Go.Sort Rw YtkcfgbddlpomgaaGreat.Nm
end Bk
namespace Bk
open Go.RowKit Rw YtkcfgbddlpomgaaGreat.Nm Pr
noncomputable def XA:Code:=((Tryz.f57.body.bind (eu 9)).getD .skip)
structure P9 (base:bn) (v0 v2:aI) (p:aI) (W W':aj) (L:Array Bool) (a:bn) (x:aj):Prop where
 df:a.defers=base.defers
 sz:a.tmps.size=base.tmps.size
 kp:∀ j,j≠112->j≠113->j≠114->j≠5->a.tmps[j]?=base.tmps[j]?
 t0:aP L 0->a.tmps[112]?=Y v0
 t1:aP L 1->a.tmps[113]?=Y p
 t2:aP L 2->a.tmps[114]?=Y v2
 t4:aP L 4->a.tmps[5]?=Y v2
 w0:¬ aP L 3->x=W.drew
 w1:aP L 3->x=W'
 c3:aP L 3->aP L 0
theorem wG (Q:Exit->bn->aj->Prop) (W:aj) (b2 b3 b4:Nat) (me:Int) (o1 o2 o3 o4 o5:Option Addr) (n1 c1 n2 c2 n3 c3 n4 c4 n5 c5:Nat) (e0 e1 e2 e3 e4 e5 z0 z1 z2 z3 z4 z5:aI) (up:Bool) (u0 u1 u5 u6 u7 u8 u9 u10 u11 u12 u13 u14 u15 u16 u17 u18 u19 u20 u21 u22 u23 u24 u25 u26 u27 u28 u29 u30 u31 u32 u33 u34 u35 u36 u37 u38 u39 u40 u41 u42 u43 u44 u45 u46 u47 u48 u49 u50 u51 u52 u53 u54 u55 u56 u57 u58 u59 u60 u61 u62 u63 u64 u65 u66 u67 u68 u69 u70 u71 u72 u73 u74 u75 u76 u77 u78 u79 u80 u81 u82 u83 u84 u85 u86 u87 u88 u89 u90 u91 u92 u93 u94 u95 u96 u97 u98 u99 u100 u101 u102 u103 u104 u105 u106 u107 u108 u109 u110 u111 u112 u113 u114:aI)
  (h2:dG W b2 #[aJ .i64 me,U o1 n1 c1,U o2 n2 c2,U o3 n3 c3,U o4 n4 c4,U o5 n5 c5] 33) (h3:dG W b3 #[e0,e1,e2,e3,e4,e5,aK up] 68) (h4:dG W b4 #[z0,z1,z2,z3,z4,z5] 33) (hne:b3≠b4)
  (hQ:∀ (a:bn) (x:aj),a.defers=[]->a.tmps[4]?=Y (Z (Y ⟨b4,0,ay⟩))->a.tmps[5]?=Y (aK up)->x=gM W.drew b4 (aJ .i64 me) (U o1 n1 c1) (U o2 n2 c2) (U o3 n3 c3) (U o4 n4 c4) (U o5 n5 c5)->Q .normal a x) :
  Code.wp aF XA Q ⟨(u0::u1::Z (Y ⟨b2,0,ay⟩)::Z (Y ⟨b3,0,ay⟩)::Z (Y ⟨b4,0,ay⟩)::u5::u6::u7::u8::u9::u10::u11::u12::u13::u14::u15::u16::u17::u18::u19::u20::u21::u22::u23::u24::u25::u26::u27::u28::u29::u30::u31::u32::u33::u34::u35::u36::u37::u38::u39::u40::u41::u42::u43::u44::u45::u46::u47::u48::u49::u50::u51::u52::u53::u54::u55::u56::u57::u58::u59::u60::u61::u62::u63::u64::u65::u66::u67::u68::u69::u70::u71::u72::u73::u74::u75::u76::u77::u78::u79::u80::u81::u82::u83::u84::u85::u86::u87::u88::u89::u90::u91::u92::u93::u94::u95::u96::u97::u98::u99::u100::u101::u102::u103::u104::u105::u106::u107::u108::u109::u110::u111::u112::u113::u114::[]).toArray,[]⟩ W:=by
 have HQ:=J hQ;have H2:=J h2.drew;have H3:=J h3.drew;have H4:=J h4.drew;have X3:=J (show dG (gM W.drew b4 (aJ .i64 me) (U o1 n1 c1) (U o2 n2 c2) (U o3 n3 c3) (U o4 n4 c4) (U o5 n5 c5)) b3 #[e0,e1,e2,e3,e4,e5,aK up] 68 from (dB W.drew b4 (aJ .i64 me) (U o1 n1 c1) (U o2 n2 c2) (U o3 n3 c3) (U o4 n4 c4) (U o5 n5 c5) b3 hne).trans h3.drew);clear hQ h2 h3 h4 hne;unfold XA
 conv=>arg 2; whnf
 obtain⟨base,hbase⟩:∃ b:bn,b=⟨(u0::u1::Z (Y ⟨b2,0,ay⟩)::Z (Y ⟨b3,0,ay⟩)::Z (Y ⟨b4,0,ay⟩)::u5::u6::u7::u8::u9::u10::u11::u12::u13::u14::u15::u16::u17::u18::u19::u20::u21::u22::u23::u24::u25::u26::u27::u28::u29::u30::u31::u32::u33::u34::u35::u36::u37::u38::u39::u40::u41::u42::u43::u44::u45::u46::u47::u48::u49::u50::u51::u52::u53::u54::u55::u56::u57::u58::u59::u60::u61::u62::u63::u64::u65::u66::u67::u68::u69::u70::u71::u72::u73::u74::u75::u76::u77::u78::u79::u80::u81::u82::u83::u84::u85::u86::u87::u88::u89::u90::u91::u92::u93::u94::u95::u96::u97::u98::u99::u100::u101::u102::u103::u104::u105::u106::u107::u108::u109::u110::u111::u112::u113::u114::[]).toArray,[]⟩:=⟨_,rfl⟩;have b2t:base.tmps[2]?=Y (Z (Y ⟨b2,0,ay⟩)):=by rw [hbase]; rfl
 have b3t:base.tmps[3]?=Y (Z (Y ⟨b3,0,ay⟩)):=by rw [hbase]; rfl
 have b4t:base.tmps[4]?=Y (Z (Y ⟨b4,0,ay⟩)):=by rw [hbase]; rfl
 have bsz:base.tmps.size=115:=by rw [hbase]; rfl
 have bdf:base.defers=[]:=by rw [hbase]
 rw [<- hbase];clear hbase;generalize hW':gM W.drew b4 (aJ .i64 me) (U o1 n1 c1) (U o2 n2 c2) (U o3 n3 c3) (U o4 n4 c4) (U o5 n5 c5)=W' at *;refine Rg.qE (fun L a x=>P9 base (.agg #[aJ .i64 me,U o1 n1 c1,U o2 n2 c2,U o3 n3 c3,U o4 n4 c4,U o5 n5 c5]) (aK up) (Z (Y ⟨b3,6,ay⟩)) W W' L a x) (by kernel_rfl) (by kernel_rfl) ?_ ?_ ?_
 ·exact⟨rfl,rfl,fun _ _ _ _ _=>rfl,fun h=>absurd h (aZ _ _),fun h=>absurd h (aZ _ _),fun h=>absurd h (aZ _ _),fun h=>absurd h (aZ _ _),fun _=>rfl,fun h=>absurd h (aZ _ _),fun h=>absurd h (aZ _ _)⟩
 ·intro L a x i o hsz I ho hnd nQ;have hi:i<5:=(aO.1 ho).1;have hL:L.size=5:=hsz;have Ay:i<L.size:=by omega
  have k2:a.eval (.tmp 2)=Z (Y ⟨b2,0,ay⟩):=bf ((I.kp 2 (by decide) (by decide) (by decide) (by decide)).trans b2t);have k3:a.eval (.tmp 3)=Z (Y ⟨b3,0,ay⟩):=bf ((I.kp 3 (by decide) (by decide) (by decide) (by decide)).trans b3t);have k4:a.eval (.tmp 4)=Z (Y ⟨b4,0,ay⟩):=bf ((I.kp 4 (by decide) (by decide) (by decide) (by decide)).trans b4t);have asz:a.tmps.size=115:=I.sz.trans bsz;have self:∀ (d:Nat) (v:aI),d<115->(a.put (Y d) v).tmps[d]?=Y v:=fun d v hd=>by
   have:d<a.tmps.size:=by omega
   simp [Act.put,this]
  have ds:=fun j=>Rg.gP Ay j;rcases (by omega:i=0\/i=1\/i=2\/i=3\/i=4) with rfl|rfl|rfl|rfl|rfl
  ·cases ho;have hx:x=W.drew:=I.w0 fun h=>hnd (I.c3 h);exact bC rfl rfl (Rg.dR a.eval _ 33 (.tmp 2) rfl (by rw [k2,hx]; exact wm H2.out)) ⟨I.df,(aS a _ _).trans I.sz,fun j j1 j2 j3 j4=>(X _ _ _ j (by omega)).trans (I.kp j j1 j2 j3 j4),fun _=>self 112 _ (by decide),fun h=>(X _ _ _ 113 (by decide)).trans (I.t1 (((ds 1).1 h).resolve_left (by decide))),fun h=>(X _ _ _ 114 (by decide)).trans (I.t2 (((ds 2).1 h).resolve_left (by decide))),fun h=>(X _ _ _ 5 (by decide)).trans (I.t4 (((ds 4).1 h).resolve_left (by decide))),fun h=>I.w0 fun h3=>h ((ds 3).2 (aM h3)),fun h=>I.w1 (((ds 3).1 h).resolve_left (by decide)),fun h=>(ds 0).2 (bD rfl)⟩
  ·cases ho;exact bC rfl rfl (Rg.dJ a.eval _ 68 (.tmp 3) 4 rfl (by rw [k3]; simp [go_sem])) ⟨I.df,(aS a _ _).trans I.sz,fun j j1 j2 j3 j4=>(X _ _ _ j (by omega)).trans (I.kp j j1 j2 j3 j4),fun h=>(X _ _ _ 112 (by decide)).trans (I.t0 (((ds 0).1 h).resolve_left (by decide))),fun _=>self 113 _ (by decide),fun h=>(X _ _ _ 114 (by decide)).trans (I.t2 (((ds 2).1 h).resolve_left (by decide))),fun h=>(X _ _ _ 5 (by decide)).trans (I.t4 (((ds 4).1 h).resolve_left (by decide))),fun h=>I.w0 fun h3=>h ((ds 3).2 (aM h3)),fun h=>I.w1 (((ds 3).1 h).resolve_left (by decide)),fun h=>(ds 0).2 (aM (I.c3 (((ds 3).1 h).resolve_left (by decide))))⟩
  ·cases ho;have k113:a.eval (.tmp 113)=Z (Y ⟨b3,6,ay⟩):=bf (I.t1 (nQ ⟨1,.data⟩ (by simp) rfl));have hc:x.cell? ⟨b3,6,ay⟩=Y (aK up):=by
    by_cases h3:aP L 3
    ·rw [I.w1 h3]; exact X3.out.cell 6
    ·rw [I.w0 h3]; exact H3.out.cell 6
   exact bC rfl rfl (Rg.dR a.eval _ 4 (.tmp 113) rfl (by rw [k113]; simp [go_sem,hc])) ⟨I.df,(aS a _ _).trans I.sz,fun j j1 j2 j3 j4=>(X _ _ _ j (by omega)).trans (I.kp j j1 j2 j3 j4),fun h=>(X _ _ _ 112 (by decide)).trans (I.t0 (((ds 0).1 h).resolve_left (by decide))),fun h=>(X _ _ _ 113 (by decide)).trans (I.t1 (((ds 1).1 h).resolve_left (by decide))),fun _=>self 114 _ (by decide),fun h=>(X _ _ _ 5 (by decide)).trans (I.t4 (((ds 4).1 h).resolve_left (by decide))),fun h=>I.w0 fun h3=>h ((ds 3).2 (aM h3)),fun h=>I.w1 (((ds 3).1 h).resolve_left (by decide)),fun h=>(ds 0).2 (aM (I.c3 (((ds 3).1 h).resolve_left (by decide))))⟩
  ·cases ho;have hx:x=W.drew:=I.w0 hnd;refine Rg.fI 33 (.tmp 4) (.tmp 112) rfl rfl rfl rfl k4 (bf (I.t0 (nQ ⟨0,.data⟩ (by simp) rfl))) (w':=W') (by rw [hx,<- hW']; exact sH H4.out me _ _ _ _ _ _ _ _ _ _ _ _ _ _ _) ?_;exact⟨I.df,I.sz,I.kp,fun h=>I.t0 (((ds 0).1 h).resolve_left (by decide)),fun h=>I.t1 (((ds 1).1 h).resolve_left (by decide)),fun h=>I.t2 (((ds 2).1 h).resolve_left (by decide)),fun h=>I.t4 (((ds 4).1 h).resolve_left (by decide)),fun h=>absurd ((ds 3).2 (bD rfl)) h,fun _=>rfl,fun _=>(ds 0).2 (aM (nQ ⟨0,.data⟩ (by simp) rfl))⟩
  ·cases ho;have k114:a.eval (.tmp 114)=aK up:=bf (I.t2 (nQ ⟨2,.data⟩ (by simp) rfl));exact bC rfl rfl (Rg.kM a.eval _ (.tmp 114) rfl x) (by rw [k114]; exact⟨I.df,(aS a _ _).trans I.sz,fun j j1 j2 j3 j4=>(X _ _ _ j (by omega)).trans (I.kp j j1 j2 j3 j4),fun h=>(X _ _ _ 112 (by decide)).trans (I.t0 (((ds 0).1 h).resolve_left (by decide))),fun h=>(X _ _ _ 113 (by decide)).trans (I.t1 (((ds 1).1 h).resolve_left (by decide))),fun h=>(X _ _ _ 114 (by decide)).trans (I.t2 (((ds 2).1 h).resolve_left (by decide))),fun _=>self 5 _ (by decide),fun h=>I.w0 fun h3=>h ((ds 3).2 (aM h3)),fun h=>I.w1 (((ds 3).1 h).resolve_left (by decide)),fun h=>(ds 0).2 (aM (I.c3 (((ds 3).1 h).resolve_left (by decide))))⟩)
 ·intro L a x I hd;exact HQ.out a x (I.df.trans bdf) ((I.kp 4 (by decide) (by decide) (by decide) (by decide)).trans b4t) (I.t4 (hd 4 (by decide))) ((I.w1 (hd 3 (by decide))))
end Bk
namespace Rg
open Go.RowKit
structure XC (i N:Nat) (dst:Nat->Option Nat) (last:Nat->Nat) (V:Nat->aI->aj->Prop) (base:bn) (o:Oper) (a:bn) (w:aj):Prop where
 kp:∀ j u,(∀ k,k<N->dst k≠Y j)->base.tmps[j]?=Y u->a.eval (.tmp j)=u
 at_:∀ e∈o.after,aA .any e=aB->(last e.on=i\/N<=last e.on)->∀ d,dst e.on=Y d->V e.on (a.eval (.tmp d)) w
 st:∀ e∈o.after,aA .any e=aB->(last e.on=i\/N<=last e.on)->∃ v,V e.on v w
theorem Cj (a:bn) (d:Option Nat) (v:aI) (j:Nat) (hj:d≠Y j):(a.put d v).tmps[j]?=a.tmps[j]?:=by
 cases d with
 | none=>rfl
 | some d=>exact get_put _ _ _ _ (fun e=>hj (by rw [e]))
theorem QU (a:bn) (d:Option Nat) (v:aI):(a.put d v).tmps.size=a.tmps.size:=by
 cases d with
 | none=>rfl
 | some d=>exact size_put _ _ _
theorem put_defers (a:bn) (d:Option Nat) (v:aI):(a.put d v).defers=a.defers:=by
 cases d <;> rfl
structure PhD (l:List Oper) (N:Nat) (dst:Nat->Option Nat) (last:Nat->Nat) (V:Nat->aI->aj->Prop) (F:(Nat->Prop)->aj->Prop) (base:bn) (L:Array Bool) (a:bn) (x:aj):Prop where
 cl:∀ i o,done L i->l[i]?=Y o->∀ e∈o.after,aA .any e=aB->done L e.on
 df:a.defers=base.defers
 sz:a.tmps.size=base.tmps.size
 kp:∀ j,(∀ i,i<N->dst i≠Y j)->a.tmps[j]?=base.tmps[j]?
 fr:F (done L) x
 no:∀ i,N<=i->¬ done L i
 val:∃ vs:Nat->aI,∀ i,i<N->done L i->(∀ d,dst i=Y d->a.tmps[d]?=Y (vs i))/\(¬ done L (last i)->V i (vs i) x)
theorem wY {P:Program} {Q:Exit->bn->aj->Prop} {id:Nat} {base:bn} {w:aj} {l:List Oper} (N:Nat) (dst:Nat->Option Nat) (last:Nat->Nat) (V:Nat->aI->aj->Prop) (F:(Nat->Prop)->aj->Prop)
  (hm:P.follows .mixedOrders=aB) (hf:MN l.toArray=aB) (hN:l.length=N) (hinj:∀ i j d,i<N->j<N->dst i=Y d->dst j=Y d->i=j) (hs:∀ i d,i<N->dst i=Y d->d<base.tmps.size) (h0:F (fun _=>False) w.drew)
  (hop:∀ i o,i<N->l[i]?=Y o->∀ a w' (D:Nat->Prop),¬ D i->(∀ j oj,D j->l[j]?=Y oj->∀ e∈oj.after,aA .any e=aB->D e.on)->(∀ e∈o.after,aA .any e=aB->D e.on)->F D w'->XC i N dst last V base o a w'->∀ K:bn->aj->Prop,(∀ v w'',V i v w''->F (fun j=>j=i\/D j) w''->(∀ j u,j<N->D j->¬ D (last j)->last j≠i->j≠i->V j u w'->V j u w'')->K (a.put (dst i) v) w'')->wpOp P l.toArray Q i K a w')
  (hend:∀ a w',a.defers=base.defers->a.tmps.size=base.tmps.size->(∀ j,(∀ i,i<N->dst i≠Y j)->a.tmps[j]?=base.tmps[j]?)->(∃ vs:Nat->aI,∀ i,i<N->(∀ d,dst i=Y d->a.tmps[d]?=Y (vs i))/\(N<=last i->V i (vs i) w'))->(∃ D:Nat->Prop,(∀ i,i<N->D i)/\F D w')->Q .normal a w'):(Code.region id l.toArray aB).wp P Q base w:=by
 refine qE (fun L a x=>PhD l N dst last V F base L a x) hm hf ?_ ?_ ?_
 ·exact⟨fun i o h=>absurd h (gy _ _),rfl,rfl,fun _ _=>rfl,by rw [show done (Array.replicate l.length false)=fun _=>False from funext fun i=>propext ⟨fun h=>gy _ _ h,False.elim⟩]; exact h0,fun i _=>gy _ _,fun _=>.bool aB,fun i _ h=>absurd h (gy _ _)⟩
 ·intro L a x i o hsz I ho hnd nQ;have hi:i<l.length:=(aO.1 ho).1;have Ay:i<L.size:=by omega
  have hiM:i<N:=by omega
  obtain⟨vs,q1⟩:=I.val;have hon:∀ e∈o.after,aA .any e=aB->e.on<N:=fun e he hb=>by
   have h7:=aW.1 hf i (aY.2 (by simpa using hi));have ho':(l.toArray)[i]?=Y o:=by simpa using ho
   rw [ho'] at h7;have h8:=Array.all_eq_true'.1 h7 e he;rw [hb] at h8;have:e.on<i:=by simpa using h8
   omega
  have lv:∀ e∈o.after,aA .any e=aB->(last e.on=i\/N<=last e.on)->V e.on (vs e.on) x:=fun e he hbd hl=>by
   refine (q1 e.on (hon e he hbd) (nQ e he hbd)).2 ?_;rcases hl with hl|hl
   ·rw [hl]; exact hnd
   ·exact I.no _ hl
  have seen:XC i N dst last V base o a x:=⟨fun j u hj hu=>dD (by rw [I.kp j hj]; exact hu),fun e he hbd hl d hd=>by
   rw [dD ((q1 e.on (hon e he hbd) (nQ e he hbd)).1 d hd)];exact lv e he hbd hl,fun e he hbd hl=>⟨_,lv e he hbd hl⟩⟩
  refine hop i o hiM ho a x (done L) hnd I.cl nQ I.fr seen _ fun v w'' hvw hfw hpr=>?_;refine⟨fun k q hk hq e he hb=>?_,by rw [put_defers]; exact I.df,by rw [QU]; exact I.sz,fun j hj=>?_,by rw [show done (L.setIfInBounds i aB)=fun j=>j=i\/done L j from funext fun j=>propext (gP Ay j)]; exact hfw,fun k hk hd=>?_,fun k=>if k=i then v else vs k,fun k Vj hk=>?_⟩
  ·rw [gP Ay] at hk ⊢;rcases hk with rfl|hk
   ·rw [hq] at ho;cases ho;exact aM (nQ e he hb)
   ·exact aM (I.cl k q hk hq e he hb)
  ·rw [Cj _ _ _ _ (hj i hiM)];exact I.kp j hj
  ·rcases (gP Ay k).1 hd with h9|h9
   ·omega
   ·exact I.no k hk h9
  ·by_cases e:k=i
   ·subst e;simp only [if_true];refine⟨fun d hd=>?_,fun _=>hvw⟩;have h9:d<a.tmps.size:=by rw [I.sz]; exact hs k d Vj hd
    rw [hd];simp [Act.put,h9]
   ·simp only [if_neg e];rcases (gP Ay k).1 hk with h9|h9
    ·exact absurd h9 e
    ·obtain⟨p1,p2⟩:=q1 k Vj h9;refine⟨fun d hd=>?_,fun hn=>?_⟩
     ·rw [Cj _ _ _ _ (fun h=>e (hinj k i d Vj hiM hd h))];exact p1 d hd
     ·have n1:last k≠i:=fun e3=>hn ((gP Ay _).2 (bD e3));have n2:¬ done L (last k):=fun e3=>hn ((gP Ay _).2 (aM e3));exact hpr k _ Vj h9 n2 n1 e (p2 n2)
 ·intro L a x I hd;obtain⟨vs,q1⟩:=I.val;exact hend a x I.df I.sz I.kp ⟨vs,fun k hk=>⟨(q1 k hk (hd k (by omega))).1,fun hl=>(q1 k hk (hd k (by omega))).2 (I.no _ hl)⟩⟩ ⟨done L,fun i hi=>hd i (by omega),I.fr⟩
end Rg
namespace Rl
open Go.RowKit Go.Sort Pu Rw Pr Va
theorem pG {n:ByteArray} {r:Option Kd} {b:Bool} {k:Kd} {w w':aj} {e:Ending} (hr:r=if b=aB then Y k else ay) (he:e=aL (.tuple #[cv (r5 (n,k)),aK b])) (h:Below w.heap.size w w'):Kq n r w e w':=by
 subst hr he;exact ZW b k h
theorem ab1 {s t:ByteArray} (h:t.size<=s.size):eX (.pr s) (.pr t)=if pfx t s=aB then Y (.pr s) else ay:=by
 simp only [eX];by_cases h1:pfx s t=aB
 ·rw [if_pos h1];have e1:=(fE _ _).1 h1;have e2:s=t:=rD (e1.eq_of_length_le (by rw [aC,aC]; exact h));subst e2;rw [if_pos (nM s)]
 ·rw [if_neg h1]
theorem ab2 {s t:ByteArray} (h:¬ t.size<=s.size):eX (.pr s) (.pr t)=if pfx s t=aB then Y (.pr t) else ay:=by
 simp only [eX];by_cases h1:pfx s t=aB
 ·rw [if_pos h1,if_pos h1]
 ·have h2:¬ pfx t s=aB:=fun h2=>by
   have:=((fE _ _).1 h2).length_le;rw [aC,aC] at this;exact h this
  rw [if_neg h1,if_neg h1,if_neg h2]
theorem QV (n:ByteArray) (s t:ByteArray) (w:aj):aX aF 109 #[cv (r5 (n,(.tx s))),cv (r5 (n,(.tx t)))] w (Kq n (eX (.tx s) (.tx t)) w):=by
 obtain⟨ba,bb,bz,hb⟩:=Gc w (r5 (n,(.tx s))) (r5 (n,(.tx t))) (⟨#[]⟩,0,0,0,⟨#[]⟩);have B:=J hb;have BA:=J ba;have BB:=J bb;have BZ:=J bz;obtain⟨q,hq⟩:∃ q,dP (.tx t) (aB,0,s)=q:=⟨_,rfl⟩;have HR:=J (show eX (.tx s) (.tx t)=if q=aB then Y (.tx s) else ay by rw [<- hq]; rw [lY]; simp only [eX,beq_iff_eq]);have HC:=J (fun W=>qG (n,.tx t) aB 0 s W);simp only [hq] at HC;generalize eX (.tx s) (.tx t)=r at *;clear ba bb bz hb hq;simp only [r5,kN,jg,jh,kT] at *;go_enter aG,aD;go_wp2_with fail
 go_region_with (go_at_call 67; refine (HC.out _).mono ?_; rintro e w3 ⟨rfl,hb3⟩; have ZB:=J (BZ.out.drew.on hb3); have AB:=J (BA.out.drew.on hb3); have DB:=J (BB.out.drew.on hb3); obtain⟨z0,z1,z2,z3,z4⟩:=eH ZB.out; obtain⟨a0,a1,a2,a3,a4⟩:=eH AB.out; obtain⟨d0,d1,d2,d3,d4⟩:=eH DB.out; have fz:=fun k=>ZB.out.fr k; simp only at z0 z1 z2 z3 z4 a0 a1 a2 a3 a4 d0 d1 d2 d3 d4)
 all_goals try simp only [Exit.then]
 all_goals try apply_assumption
 all_goals try go_wp2
 all_goals refine aH (v:=.tuple #[cv (r5 (n,(.tx s))),aK q]) (by simp [results,au,go_sem,z0,z1,z2,z3,z4,r5,kN,jg,jh,kT]) rfl ?_
 all_goals exact pG HR.out rfl (gW (B.out.drew.trans (hb3.mono B.out.drew.size)) (w.heap.size+1+1) (by omega) _ _ _ _ _)
theorem QW (n:ByteArray) (s t:ByteArray) (w:aj):aX aF 109 #[cv (r5 (n,(.tx s))),cv (r5 (n,(.pr t)))] w (Kq n (eX (.tx s) (.pr t)) w):=by
 obtain⟨ba,bb,bz,hb⟩:=Gc w (r5 (n,(.tx s))) (r5 (n,(.pr t))) (⟨#[]⟩,0,0,0,⟨#[]⟩);have B:=J hb;have BA:=J ba;have BB:=J bb;have BZ:=J bz;obtain⟨q,hq⟩:∃ q,dP (.pr t) (aB,0,s)=q:=⟨_,rfl⟩;have HR:=J (show eX (.tx s) (.pr t)=if q=aB then Y (.tx s) else ay by rw [<- hq]; rw [kF]; rfl);have HC:=J (fun W=>qG (n,.pr t) aB 0 s W);simp only [hq] at HC;generalize eX (.tx s) (.pr t)=r at *;clear ba bb bz hb hq;simp only [r5,kN,jg,jh,kT] at *;go_enter aG,aD;go_wp2_with fail
 go_region_with (go_at_call 67; refine (HC.out _).mono ?_; rintro e w3 ⟨rfl,hb3⟩; have ZB:=J (BZ.out.drew.on hb3); have AB:=J (BA.out.drew.on hb3); have DB:=J (BB.out.drew.on hb3); obtain⟨z0,z1,z2,z3,z4⟩:=eH ZB.out; obtain⟨a0,a1,a2,a3,a4⟩:=eH AB.out; obtain⟨d0,d1,d2,d3,d4⟩:=eH DB.out; have fz:=fun k=>ZB.out.fr k; simp only at z0 z1 z2 z3 z4 a0 a1 a2 a3 a4 d0 d1 d2 d3 d4)
 all_goals try simp only [Exit.then]
 all_goals try apply_assumption
 all_goals try go_wp2
 all_goals refine aH (v:=.tuple #[cv (r5 (n,(.tx s))),aK q]) (by simp [results,au,go_sem,z0,z1,z2,z3,z4,r5,kN,jg,jh,kT]) rfl ?_
 all_goals exact pG HR.out rfl (gW (B.out.drew.trans (hb3.mono B.out.drew.size)) (w.heap.size+1+1) (by omega) _ _ _ _ _)
theorem QY (n:ByteArray) (s t:ByteArray) (w:aj):aX aF 109 #[cv (r5 (n,(.pr s))),cv (r5 (n,(.tx t)))] w (Kq n (eX (.pr s) (.tx t)) w):=by
 obtain⟨ba,bb,bz,hb⟩:=Gc w (r5 (n,(.pr s))) (r5 (n,(.tx t))) (⟨#[]⟩,0,0,0,⟨#[]⟩);have B:=J hb;have BA:=J ba;have BB:=J bb;have BZ:=J bz;obtain⟨q,hq⟩:∃ q,dP (.pr s) (aB,0,t)=q:=⟨_,rfl⟩;have HR:=J (show eX (.pr s) (.tx t)=if q=aB then Y (.tx t) else ay by rw [<- hq]; rw [kF]; rfl);have HC:=J (fun W=>qG (n,.pr s) aB 0 t W);simp only [hq] at HC;generalize eX (.pr s) (.tx t)=r at *;clear ba bb bz hb hq;simp only [r5,kN,jg,jh,kT] at *;go_enter aG,aD;go_wp2_with fail
 go_region_with (go_at_call 67; refine (HC.out _).mono ?_; rintro e w3 ⟨rfl,hb3⟩; have ZB:=J (BZ.out.drew.on hb3); have AB:=J (BA.out.drew.on hb3); have DB:=J (BB.out.drew.on hb3); obtain⟨z0,z1,z2,z3,z4⟩:=eH ZB.out; obtain⟨a0,a1,a2,a3,a4⟩:=eH AB.out; obtain⟨d0,d1,d2,d3,d4⟩:=eH DB.out; have fz:=fun k=>ZB.out.fr k; simp only at z0 z1 z2 z3 z4 a0 a1 a2 a3 a4 d0 d1 d2 d3 d4)
 all_goals try simp only [Exit.then]
 all_goals try apply_assumption
 all_goals try go_wp2
 all_goals refine aH (v:=.tuple #[cv (r5 (n,(.tx t))),aK q]) (by simp [results,au,go_sem,z0,z1,z2,z3,z4,r5,kN,jg,jh,kT]) rfl ?_
 all_goals exact pG HR.out rfl (gW (B.out.drew.trans (hb3.mono B.out.drew.size)) (w.heap.size+1+1) (by omega) _ _ _ _ _)
theorem QZ (n:ByteArray) (s t:ByteArray) (w:aj) (h:t.size<=s.size):aX aF 109 #[cv (r5 (n,(.pr s))),cv (r5 (n,(.pr t)))] w (Kq n (eX (.pr s) (.pr t)) w):=by
 obtain⟨ba,bb,bz,hb⟩:=Gc w (r5 (n,(.pr s))) (r5 (n,(.pr t))) (⟨#[]⟩,0,0,0,⟨#[]⟩);have B:=J hb;have BA:=J ba;have BB:=J bb;have BZ:=J bz;obtain⟨q,hq⟩:∃ q,pfx t s=q:=⟨_,rfl⟩;have HR:=J (show eX (.pr s) (.pr t)=if q=aB then Y (.pr s) else ay by rw [<- hq]; exact ab1 h);have HC:=J (fun W=>(nU s t W).mono (fun e w' (h:e=aL (aK (pfx t s))/\w'=W)=>(show e=aL (aK (pfx t s))/\Below W.heap.size W w' from ⟨h.1,h.2 ▸ Below.refl _ _⟩)));simp only [hq] at HC;have e1:decide ((t.size:Int)<=(s.size:Int))=aB:=by simp; omega
 have e2:(t.size:Int)<=(s.size:Int):=by omega
 generalize eX (.pr s) (.pr t)=r at *;clear ba bb bz hb hq;simp only [r5,kN,jg,jh,kT] at *;go_enter aG,aD;go_wp2_with fail
 go_region_with (go_at_call 96; refine (HC.out _).mono ?_; rintro e w3 ⟨rfl,hb3⟩; have ZB:=J (BZ.out.drew.on hb3); have AB:=J (BA.out.drew.on hb3); have DB:=J (BB.out.drew.on hb3); obtain⟨z0,z1,z2,z3,z4⟩:=eH ZB.out; obtain⟨a0,a1,a2,a3,a4⟩:=eH AB.out; obtain⟨d0,d1,d2,d3,d4⟩:=eH DB.out; have fz:=fun k=>ZB.out.fr k; simp only at z0 z1 z2 z3 z4 a0 a1 a2 a3 a4 d0 d1 d2 d3 d4)
 all_goals try simp only [Exit.then]
 all_goals try apply_assumption
 all_goals try go_wp2
 all_goals refine aH (v:=.tuple #[cv (r5 (n,(.pr s))),aK q]) (by simp [results,au,go_sem,z0,z1,z2,z3,z4,r5,kN,jg,jh,kT]) rfl ?_
 all_goals exact pG HR.out rfl (gW (B.out.drew.trans (hb3.mono B.out.drew.size)) (w.heap.size+1+1) (by omega) _ _ _ _ _)
theorem Q0 (n:ByteArray) (s t:ByteArray) (w:aj) (h:¬ t.size<=s.size):aX aF 109 #[cv (r5 (n,(.pr s))),cv (r5 (n,(.pr t)))] w (Kq n (eX (.pr s) (.pr t)) w):=by
 obtain⟨ba,bb,bz,hb⟩:=Gc w (r5 (n,(.pr s))) (r5 (n,(.pr t))) (⟨#[]⟩,0,0,0,⟨#[]⟩);have B:=J hb;have BA:=J ba;have BB:=J bb;have BZ:=J bz;obtain⟨q,hq⟩:∃ q,pfx s t=q:=⟨_,rfl⟩;have HR:=J (show eX (.pr s) (.pr t)=if q=aB then Y (.pr t) else ay by rw [<- hq]; exact ab2 h);have HC:=J (fun W=>(nU t s W).mono (fun e w' (h:e=aL (aK (pfx s t))/\w'=W)=>(show e=aL (aK (pfx s t))/\Below W.heap.size W w' from ⟨h.1,h.2 ▸ Below.refl _ _⟩)));simp only [hq] at HC;have e1:decide ((t.size:Int)<=(s.size:Int))=false:=by simp; omega
 have e2:¬ ((t.size:Int)<=(s.size:Int)):=by omega
 generalize eX (.pr s) (.pr t)=r at *;clear ba bb bz hb hq;simp only [r5,kN,jg,jh,kT] at *;go_enter aG,aD;go_wp2_with fail
 go_region_with (go_at_call 96; refine (HC.out _).mono ?_; rintro e w3 ⟨rfl,hb3⟩; have ZB:=J (BZ.out.drew.on hb3); have AB:=J (BA.out.drew.on hb3); have DB:=J (BB.out.drew.on hb3); obtain⟨z0,z1,z2,z3,z4⟩:=eH ZB.out; obtain⟨a0,a1,a2,a3,a4⟩:=eH AB.out; obtain⟨d0,d1,d2,d3,d4⟩:=eH DB.out; have fz:=fun k=>ZB.out.fr k; simp only at z0 z1 z2 z3 z4 a0 a1 a2 a3 a4 d0 d1 d2 d3 d4)
 all_goals try simp only [Exit.then]
 all_goals try apply_assumption
 all_goals try go_wp2
 all_goals refine aH (v:=.tuple #[cv (r5 (n,(.pr t))),aK q]) (by simp [results,au,go_sem,z0,z1,z2,z3,z4,r5,kN,jg,jh,kT]) rfl ?_
 all_goals exact pG HR.out rfl (gW (B.out.drew.trans (hb3.mono B.out.drew.size)) (w.heap.size+1+1) (by omega) _ _ _ _ _)
theorem Q6 (n:ByteArray) (a b c d:Int) (w:aj):aX aF 109 #[cv (r5 (n,(.rg a b))),cv (r5 (n,(.rg c d)))] w (Kq n (eX (.rg a b) (.rg c d)) w):=by
 have R:=J (show eX (.rg a b) (.rg c d)=if max a c<=min b d then Y (.rg (max a c) (min b d)) else ay from rfl);have B:=J (Gc w (r5 (n,(.rg a b))) (r5 (n,(.rg c d))) (⟨#[]⟩,0,0,0,⟨#[]⟩)).2.2.2;generalize eX (.rg a b) (.rg c d)=r at *;simp only [r5,kN,jg,jh,kT] at *;go_enter aG,aD;go_wp2_with fail
 go_region
 all_goals simp only [Exit.then]
 all_goals apply_assumption
 have e1:(if a<c then c else a)=max a c:=by split <;> omega
 have e2:(if d<b then d else b)=min b d:=by split <;> omega
 try rw [e1]
 try rw [e2]
 clear e1 e2;generalize max a c=M at R ⊢;generalize min b d=N at R ⊢;have HR:=J (show r=if decide (M<=N)=aB then Y (.rg M N) else ay by rw [R.out]; simp);clear R;go_wp2_with fail
 go_region
 all_goals try simp only [Exit.then]
 all_goals try apply_assumption
 all_goals try go_wp2
 all_goals refine aH (v:=.tuple #[cv (r5 (n,(.rg M N))),aK (decide (M<=N))]) (by simp [results,au,go_sem,r5,kN,jg,jh,kT]) rfl ?_
 all_goals refine pG HR.out rfl ?_
 all_goals first
  | exact (b3 w _ _ _).drew.drew
  | exact (b3 w _ _ _).drew
  | exact (b3 w _ _ _)
end Rl
end Go.Proofs.YtkcfgbddlpomgaaGreat
