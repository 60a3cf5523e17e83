/-
  Pred of the statemen. Conditions as told.
-/
import Derived.Test.YtmklifheakemeaaGreatCQ013
import Derived.Test.YtmklifheakemeaaGreatCQ009
import Derived.Test.YtmklifheakemeaaGreatCQ010
set_option maxRecDepth 100000
set_option maxHeartbeats 64000000
open _root_.Bool renaming and_eq_true->Z,eq_iff_iff->aF,true->aN
open Go.IntKind renaming i64->au
open Go.Lib renaming hid->J
open Go.Obj renaming cells->aG
open Go.Operand renaming tmp->U
open Go.RowKit.Below renaming refl->L,heap_setCell->aB
open Go.Value renaming pointer->O,slice->aA,int->aH,string->aM
open Go.World renaming cell?_alloc_at->ay,cell?_alloc_lt->aI
open _root_.List renaming getElem?_toArray->Y,getElem?_eq_getElem->ah,getElem?_cons_zero->aj,getElem?_cons_succ->ak,mem_append->aD,find?_eq_none->aK,length_take->aL
open _root_.Nat renaming le_refl->aC
open _root_.Option renaming some->V,none->X
open _root_.Or renaming inr->aJ,inl->aO
namespace Go.Proofs.YtmklifheakemeaaGreat
namespace Pr
open Go.RowKit Pu Rw Va Kp In
def jF (has vals:List Int):Nat->List Cn
 | 0=>[]
 | i+1=>if i<has.length/\odd (has.getD i 0)=aN/\(jF has vals i).length<5 then jF has vals i++[(nm i,tX (tO vals i))] else jF has vals i
theorem OH (has vals:List Int):∀ k,(jF has vals k).length<=k
 | 0=>aC _
 | k+1=>by
  have h:=OH has vals k;simp only [jF]
  split
  ·simp; omega
  ·omega
theorem Js (has vals:List Int):∀ k,(jF has vals k).length<=5
 | 0=>by simp [jF]
 | k+1=>by
  have h:=Js has vals k;simp only [jF]
  split
  ·rename_i hc; simp; omega
  ·exact h
theorem uQ (has vals:List Int):∀ k,∀ x∈jF has vals k,∃ i,i<k/\x.1=nm i
 | 0,x,h=>by simp [jF] at h
 | k+1,x,h=>by
  simp only [jF] at h
  split at h
  ·rcases aD.1 h with h|h
   ·obtain⟨i,h1,h2⟩:=uQ has vals k x h;exact⟨i,by omega,h2⟩
   ·simp at h;exact⟨k,by omega,by rw [h]⟩
  ·obtain⟨i,h1,h2⟩:=uQ has vals k x h;exact⟨i,by omega,h2⟩
theorem Bu (has vals:List Int):∀ k,∀ x∈jF has vals k,iY x.2=aN
 | 0,x,h=>by simp [jF] at h
 | k+1,x,h=>by
  simp only [jF] at h
  split at h
  ·rcases aD.1 h with h|h
   ·exact Bu has vals k x h
   ·simp at h;rw [h]; exact Rb _
  ·exact Bu has vals k x h
theorem aav (i j:Nat) (h:i<j) (hj:j<7):Op.bytesLess (nm i).toList (nm j).toList=aN:=by
 rw [ByteArray.toList_eq,ByteArray.toList_eq];have:∀ j:Fin 7,∀ i:Fin 7,i.val<j.val->Op.bytesLess (nm i.val).data.toList (nm j.val).data.toList=aN:=by decide
 exact this ⟨j,hj⟩ ⟨i,by omega⟩ h
theorem Jt (has vals:List Int):∀ k,k<=7->jW (jF has vals k)
 | 0,_=>by simp [jF,jW]
 | k+1,hk=>by
  have h:=Jt has vals k (by omega);simp only [jF]
  split
  ·refine List.pairwise_append.2 ⟨h,List.pairwise_singleton _ _,fun x hx y hy=>?_⟩;obtain⟨i,h1,h2⟩:=uQ has vals k x hx;simp at hy;rw [hy,h2];exact aav i k h1 (by omega)
  ·exact h
theorem xq (w:World) (c:C5):fK (w.alloc (aG #[aM c.1,aH au c.2.1,aH au c.2.2.1,aH au c.2.2.2.1,aM c.2.2.2.2] 70)) (aA (V ⟨w.heap.size,0,X⟩) 1 1) [c] :=
 Row.dH (jm vI w [c] 1 rfl (by simp) _ rfl)
theorem Bv (hv vv:Value) (has vals:List Int) (w:World) (hh:jX w hv has) (hw:jX w vv vals) (lh:has.length<=maxLen) (lv:vals.length<=maxLen) :
  Calls Tryz.prog 16 #[.agg #[hv,vv]] w fun e w'=>∃ v,e=.returned v/\iq w' w.heap.size v ((jF has vals 7).map r5)/\Below w.heap.size w w':=by
 have HH:=J hh;have HW:=J hw;have LH:=J lh;have LV:=J lv;clear hh hw lh lv;go_enter Tryz.func16,Tryz.ntmps16;go_wp2_with fail;refine (QH _).mono ?_;rintro e1 w1 ⟨rfl,rfl⟩;go_wp2
 go_loopw [3,8] (fun lv i wr=>∃ k:Nat,k<=7/\i=aH au k/\iq wr (w.heap.size+2) lv ((jF has vals k).map r5) /\
  Below (w.heap.size+2) ((w.alloc (aG #[hv,vv] 49)).alloc (aG wV 9)) wr) (fun _ i _=>7-(intOf i).toNat)
 case atStart=>exact⟨0,by omega,rfl,jl _ _,L _ _⟩
 case round =>
  obtain⟨k,hk,rfl,hown,hb⟩:=hrel;have HO:=J hown;have HB:=J hb;have T0:Below w.heap.size w ((w.alloc (aG #[hv,vv] 49)).alloc (aG wV 9)):=((L _ _).alloc (aC _) _).alloc (by simp) _;have BW:=J (T0.trans (hb.mono (by omega)));have hsz:w.heap.size+2<=wr.heap.size:=by have:=hb.size; simp at this; omega
  clear T0;obtain⟨ro,aov,hrl⟩:=(Row.dH hown).len;rw [List.length_map] at hrl;have hl5:=OH has vals k;by_cases h7:k<7
  ·have n0:wr.cell? ⟨w.heap.size+1,k,X⟩=V (aM (nm k)):=by
    rw [hb.cell (p:=⟨w.heap.size+1,k,X⟩) (by simp),ay _ _ _ _ (by simp)]; exact ahy k h7
   have b0:wr.cell? ⟨w.heap.size,0,X⟩=V hv:=by
    rw [hb.cell (p:=⟨w.heap.size,0,X⟩) (by simp),aI _ _ _ (by simp),ay _ _ _ _ rfl]; rfl
   have b1:wr.cell? ⟨w.heap.size,1,X⟩=V vv:=by
    rw [hb.cell (p:=⟨w.heap.size,1,X⟩) (by simp),aI _ _ _ (by simp),ay _ _ _ _ rfl]; rfl
   have IH:=J (HH.out.on BW.out);obtain⟨ao,aow,hsh⟩:=HH.out.shape;clear hb hown;subst hsh;subst hrl;have hkk:(k:Int)<7:=by omega
   by_cases h1:k<has.length
   ·obtain⟨y,hy⟩:∃ y,has[k]?=V y:=⟨_,ah h1⟩;have hg:has.getD k 0=y:=by rw [List.getD_eq_getElem?_getD,hy]; rfl
    obtain⟨_,p,_,hix,hpc⟩:=IH.out.at_ k y hy;cases ho:odd y
    ·have T:=J (show jF has vals (k+1)=jF has vals k by simp only [jF]; rw [if_neg]; rintro⟨_,h2,_⟩; rw [hg,ho] at h2; cases h2);have hodd:(bits BinOp.and au y 1 == 1)=false:=ho;clear ho hy hg;go_wp2
     go_roundw
     case rel=>exact⟨k+1,by omega,by go_num,by rw [T.out]; exact HO.out,HB.out⟩
     case measure=>simp [intOf]; omega
    ·have hodd:(bits BinOp.and au y 1 == 1)=aN:=ho;by_cases h5:(jF has vals k).length<5
     ·have T:=J (show (jF has vals (k+1)).map r5=(jF has vals k).map r5++[r5 (nm k,tX (tO vals k))] by simp only [jF]; rw [if_pos ⟨h1,by rw [hg,ho],h5⟩,List.map_append]; rfl);have PK:=J (fun (W:World) (hW:Below w.heap.size w W)=>Tt vv vals k W (HW.out.on hW) LV.out (by omega));have bd:=Tv HW.out k;have KV:=J (fun W=>Bt (nm k) (tO vals k) W bd.1 bd.2);clear ho hy hg bd;go_wp2_with fail;refine (PK.out _ BW.out).mono ?_;rintro e1 w1 ⟨rfl,rfl⟩;go_wp2_with fail;refine (KV.out _).mono ?_;rintro e2 w2 ⟨rfl,hb2⟩;have B2:=J hb2;have O2:=J (dI HO.out hb2);have hs2:=hb2.size;clear hb2;generalize r5 (nm k,tX (tO vals k))=c at T ⊢;have O3a:=J (O2.out.alloc (aG #[aM c.1,aH au c.2.1,aH au c.2.2.1,aH au c.2.2.2.1,aM c.2.2.2.2] 70));obtain⟨v3,w3,r3,o3,g3⟩:=gY vI (w.heap.size+2) O3a.out (xq w2 c) (by simp; omega) (by simp) (by simp; omega) 32;have O3:=J o3;have hbel:Below (w.heap.size+2) wr w3:=((B2.out.mono hsz).alloc (by omega) _).grown g3 (by simp; omega) (fun j hj=>(O3a.out.lt j hj).1);have B3:=J (HB.out.trans hbel);clear o3 g3 hbel;go_wp2_with (first | (at_builtin; refine wpList_append_run rfl _ _ 32 rfl rfl rfl r3 ?_) | fail);clear r3;go_wp2
      go_roundw
      case rel=>exact⟨k+1,by omega,by go_num,by rw [T.out]; exact O3.out,B3.out⟩
      case measure=>simp [intOf]; omega
     ·have T:=J (show jF has vals (k+1)=jF has vals k by simp only [jF]; rw [if_neg]; rintro⟨_,_,h2⟩; exact h5 h2);clear ho hy hg;go_wp2
      go_roundw
      case rel=>exact⟨k+1,by omega,by go_num,by rw [T.out]; exact HO.out,HB.out⟩
      case measure=>simp [intOf]; omega
   ·have T:=J (show jF has vals (k+1)=jF has vals k by simp only [jF]; rw [if_neg]; rintro⟨h2,_⟩; exact h1 h2);go_wp2
    go_roundw
    case rel=>exact⟨k+1,by omega,by go_num,by rw [T.out]; exact HO.out,HB.out⟩
    case measure=>simp [intOf]; omega
  ·obtain rfl:k=7:=by omega
   clear hb hown;go_wp2;go_ret;exact⟨_,rfl,qQ (by omega) HO.out,BW.out⟩
def MV (c:Cn):Prop:=c.1.size<=100/\(kT c.2).size<=100/\(-9223372036854775808<=jQ c.2/\jQ c.2<=9223372036854775807)/\(-9223372036854775808<=jR c.2/\jR c.2<=9223372036854775807)
def Ut (l:List Cn):Prop:=l.length<=100/\∀ c∈l,MV c
structure NF (l:List Cn):Prop where
 rise:jW l
 five:l.length<=5
 good:∀ c∈l,vM c=aN
 small:∀ c∈l,MV c
theorem NF.iY {l:List Cn} (h:NF l):∀ c∈l,Pr.iY c.2=aN:=fun c hc=>by
 have:=h.good c hc;simp only [vM,Z] at this;exact this.2
theorem Uu (i:Nat) (h:i<7):kQ (nm i)=aN:=by
 match i,h with
 | 0,_=>decide
 | 1,_=>decide
 | 2,_=>decide
 | 3,_=>decide
 | 4,_=>decide
 | 5,_=>decide
 | 6,_=>decide
theorem aaw (i:Nat):(nm i).size=1:=rfl
theorem Uv (n:Int):(kT (tX n)).size<=100/\(-9223372036854775808<=jQ (tX n)/\jQ (tX n)<=9223372036854775807)/\(-9223372036854775808<=jR (tX n)/\jR (tX n)<=9223372036854775807):=by
 have h1:=Wi.jI (n.tdiv 4) 0 9 (by omega);have h2:=Wi.jI (n.tdiv 40) 0 9 (by omega);have ht:(tx6 n).size<=3:=I8 _;unfold tX lo9
 split
 ·refine⟨by show (0:Nat)<=100; omega,?_,?_⟩ <;> simp only [jQ,jR] <;> omega
 ·split
  ·refine⟨by show (tx6 n).size<=100; omega,?_,?_⟩ <;> simp only [jQ,jR] <;> omega
  ·refine⟨by show (tx6 n).size<=100; omega,?_,?_⟩ <;> simp only [jQ,jR] <;> omega
theorem yP (has vals:List Int):∀ k,∀ x∈jF has vals k,MV x
 | 0,x,h=>by simp [jF] at h
 | k+1,x,h=>by
  simp only [jF] at h
  split at h
  ·rcases aD.1 h with h|h
   ·exact yP has vals k x h
   ·simp at h;rw [h];exact⟨by show (nm k).size<=100; rw [aaw]; omega,Uv _⟩
  ·exact yP has vals k x h
theorem Uw (has vals:List Int):NF (jF has vals 7) :=
 ⟨Jt has vals 7 (aC _),Js has vals 7,fun c hc=>by
  obtain⟨i,h1,h2⟩:=uQ has vals 7 c hc;simp only [vM,Z];exact⟨by rw [h2]; exact Uu i h1,Bu has vals 7 c hc⟩,yP has vals 7⟩
theorem afM {a b:Cn} (h:r5 a=r5 b):a=b:=by
 obtain⟨n,a⟩:=a;obtain⟨m,b⟩:=b;simp only [r5,Prod.mk.injEq] at h;obtain⟨rfl,h1,h2,h3,h4⟩:=h;cases a <;> cases b <;> simp [kN,jQ,jR,kT] at h1 h2 h3 h4 <;> simp [*]
end Pr
namespace Bk
open Go.RowKit Rw YtmklifheakemeaaGreat.Nm Pr
def OJ (B b2 _:Nat) (so:Option Addr) (sn sc at_:Nat) (lo hiv:Value) (z:iH) (lt ld:List iH) (i:Nat) (v:Value) (x:World):Prop :=
 match i with
 | 0=>∃ g,v=aA (V ⟨g,0,X⟩) 0 0/\B<=g/\dJ x g #[] 66
 | 1=>v=O (V ⟨b2,4,X⟩)
 | 2=>v=aA so sn sc
 | 3=>v=aH au (at_:Int)
 | 4=>v=lo
 | 5=>kY x B v lt
 | 6=>v=nW z
 | 7=>kY x B v [z]
 | 8=>kY x B v (lt++[z])
 | 9=>v=O (V ⟨b2,4,X⟩)
 | 10=>v=aA so sn sc
 | 11=>v=aH au (at_:Int)
 | 12=>v=hiv
 | 13=>kY x B v (lt++[z]++ld)
 | 14=>v=O (V ⟨b2,4,X⟩)
 | _=>True
noncomputable def abC:Code:=((Tryz.f47.body.bind (eO 8)).getD .skip)
theorem Ux (B b2 b3:Nat) (so:Option Addr) (sn sc at_:Nat) (lo hiv:Value) (z:iH) (lt ld:List iH) (i:Nat) (v:Value) (x x':World) (h:OJ B b2 b3 so sn sc at_ lo hiv z lt ld i v x) (hb:Below x.heap.size x x'):OJ B b2 b3 so sn sc at_ lo hiv z lt ld i v x':=by
 by_cases hi:i<15
 ·rcases (by omega:i=0\/i=1\/i=2\/i=3\/i=4\/i=5\/i=6\/i=7\/i=8\/i=9\/i=10\/i=11\/i=12\/i=13\/i=14) with rfl|rfl|rfl|rfl|rfl|rfl|rfl|rfl|rfl|rfl|rfl|rfl|rfl|rfl|rfl
  ·obtain⟨g,h1,h2,h3⟩:=h;exact⟨g,h1,h2,h3.on hb⟩
  ·exact h
  ·exact h
  ·exact h
  ·exact h
  ·exact dI h hb
  ·exact h
  ·exact dI h hb
  ·exact dI h hb
  ·exact h
  ·exact h
  ·exact h
  ·exact h
  ·exact dI h hb
  ·exact h
 ·unfold OJ
  split <;> first | omega | trivial
theorem Rc (Q:Exit->Act->World->Prop) (W:World) (b2 b3:Nat) (me:Int) (y1 y2 y3 y5:Value) (so:Option Addr) (sn sc at_:Nat) (l:List iH) (z:iH) (u0 u1 u4 u5 u6 u8 u9 u10 u11 u12 u13 u14 u15 u16 u17 u18 u19 u20 u21 u22 u23 u24 u25 u26 u27 u28 u29 u30 u31 u32 u33 u34 u35 u36 u37 u38 u39 u40 u41 u42 u43 u44 u45 u46 u47 u48 u49 u50 u51 u52 u53 u54 u55 u56 u57 u58 u59 u60 u61 u62 u63 u64 u65 u66 u67 u68 u69 u70 u71 u72 u73 u74 u75 u76 u77 u78 u79 u80 u81 u82 u83 u84 u85 u86 u87 u88 u89 u90 u91 u92 u93 u94 u95 u96 u97 u98 u99 u100 u101 u102 u103 u104 u105 u106 u107 u108 u109 u110 u111 u112 u113 u114:Value)
  (h2:dJ W b2 #[aH au me,y1,y2,y3,aA so sn sc,y5] 28) (hx:∀ x,Below W.heap.size W x->∀ j u,(jO z)[j]?=V u->x.cell? ((⟨b3,0,X⟩:Addr).add j)=V u) (hs:lS W (aA so sn sc) l) (hat:at_<=l.length) (hlen:l.length<=900)
  (hQ:∀ (x:World) (v97 v98 v99 v100 v101 v102 v103 v104 v105 v106 v107 v108 v109 v110 v111:Value),dJ x b2 #[aH au me,y1,y2,y3,v110,y5] 28->kY x W.heap.size v110 (l.take at_++[z]++l.drop at_)->(∀ B,B<=b2->Below B W x)->(∀ c cs t,c≠b2->dJ W c cs t->dJ x c cs t)->(∀ k,k<W.heap.size->k≠b2->x.heap[k]?=W.heap[k]?)->Q .normal ⟨(u0::u1::O (V ⟨b2,0,X⟩)::O (V ⟨b3,0,X⟩)::u4::u5::u6::aH au (at_:Int)::u8::u9::u10::u11::u12::u13::u14::u15::u16::u17::u18::u19::u20::u21::u22::u23::u24::u25::u26::u27::u28::u29::u30::u31::u32::u33::u34::u35::u36::u37::u38::u39::u40::u41::u42::u43::u44::u45::u46::u47::u48::u49::u50::u51::u52::u53::u54::u55::u56::u57::u58::u59::u60::u61::u62::u63::u64::u65::u66::u67::u68::u69::u70::u71::u72::u73::u74::u75::u76::u77::u78::u79::u80::u81::u82::u83::u84::u85::u86::u87::u88::u89::u90::u91::u92::u93::u94::u95::u96::v97::v98::v99::v100::v101::v102::v103::v104::v105::v106::v107::v108::v109::v110::v111::u112::u113::u114::[]).toArray,[]⟩ x) :
  Code.wp Tryz.prog abC Q ⟨(u0::u1::O (V ⟨b2,0,X⟩)::O (V ⟨b3,0,X⟩)::u4::u5::u6::aH au (at_:Int)::u8::u9::u10::u11::u12::u13::u14::u15::u16::u17::u18::u19::u20::u21::u22::u23::u24::u25::u26::u27::u28::u29::u30::u31::u32::u33::u34::u35::u36::u37::u38::u39::u40::u41::u42::u43::u44::u45::u46::u47::u48::u49::u50::u51::u52::u53::u54::u55::u56::u57::u58::u59::u60::u61::u62::u63::u64::u65::u66::u67::u68::u69::u70::u71::u72::u73::u74::u75::u76::u77::u78::u79::u80::u81::u82::u83::u84::u85::u86::u87::u88::u89::u90::u91::u92::u93::u94::u95::u96::u97::u98::u99::u100::u101::u102::u103::u104::u105::u106::u107::u108::u109::u110::u111::u112::u113::u114::[]).toArray,[]⟩ W:=by
 have HQ:=J hQ;have H2:=J h2;have LX:=J hx;obtain⟨lo,DN,wU⟩:=wu nX hs at_ (by omega);obtain⟨hiv,DT,yK⟩:=qE nX hs (at_) hat;have LT:=J (show (l.take at_).length<=1000 by rw [aL]; omega);have T9:=J (show (l.take at_).length<=900 by rw [aL]; omega);have LD:=J (show (l.drop (at_)).length<=1000 by rw [List.length_drop]; omega);generalize l.take at_=lt at *;generalize l.drop (at_)=ld at *;have SL:=J DN;have SH:=J DT;have RL:=J wU;have RH:=J yK;clear hQ h2 hx hs DN DT wU yK hat hlen;have iO:=Ux W.heap.size b2 b3 so sn sc at_ lo hiv z lt ld;unfold abC
 conv=>arg 2; whnf
 have nd:∀ j,(j<97\/112<=j)->∀ i,i<15->(fun i=>97+i) i≠j:=by
  intro j hj i hi h;simp only at h;omega
 refine Rg.fQ 16 15 (fun i=>97+i) (fun i=>if i=0 then 5 else if i=5 then 8 else if i=7 then 8 else if i=8 then 13 else 15) (OJ W.heap.size b2 b3 so sn sc at_ lo hiv z lt ld) (by kernel_rfl) (by kernel_rfl) rfl (by decide) (fun i j _ _ h=>by have h2:97+i=97+j:=h; omega) (fun i hi=>by show 97+i<115; omega) ?_ (fun _=>Rg.jq 1 (by kernel_rfl)) (fun kk o h1 h2=>by omega) ?_
 ·intro i o hi ho a x D hnd hc hD hb seen K hK;clear HQ;rcases (by omega:i=0\/i=1\/i=2\/i=3\/i=4\/i=5\/i=6\/i=7\/i=8\/i=9\/i=10\/i=11\/i=12\/i=13\/i=14) with rfl|rfl|rfl|rfl|rfl|rfl|rfl|rfl|rfl|rfl|rfl|rfl|rfl|rfl|rfl
  ·cases ho;exact Rg.dD rfl rfl (Rg.jg a.eval _ 25 0 #[] rfl rfl (by simp [go_sem])) (hK (aA (V ⟨x.heap.size,0,X⟩) 0 0) (x.alloc (aG #[] 66)) ⟨x.heap.size,rfl,hb.size,dO x #[] 66⟩ ((L _ _).alloc hb.size _) fun j u _ _ _ _ _ h=>iO j u _ _ h ((L _ _).alloc (aC _) _))
  ·cases ho;have e2:a.eval (U 2)=O (V ⟨b2,0,X⟩):=seen.kp 2 _ (nd 2 (by omega)) rfl;exact Rg.dD rfl rfl (Rg.dW a.eval _ 28 (U 2) 4 rfl (by rw [e2]; simp [go_sem])) (hK _ _ rfl (L _ _) fun _ _ _ _ _ _ _ h=>h)
  ·cases ho;have e98:a.eval (U 98)=O (V ⟨b2,4,X⟩):=seen.at_ ⟨1,.data⟩ (by simp) rfl (aJ (by decide));have y:=(H2.out.on hb).cell 4;simp only [Y,aj,ak] at y;exact Rg.dD rfl rfl (Rg.dR a.eval _ 25 (U 98) rfl (by rw [e98]; simp [go_sem,y])) (hK _ _ rfl (L _ _) fun _ _ _ _ _ _ _ h=>h)
  ·cases ho;have e7:a.eval (U 7)=aH au (at_:Int):=seen.kp 7 _ (nd 7 (by omega)) rfl;exact Rg.dD rfl rfl (Rg.fV a.eval _ (U 7) rfl x) (hK _ _ e7 (L _ _) fun _ _ _ _ _ _ _ h=>h)
  ·cases ho;have e99:a.eval (U 99)=aA so sn sc:=seen.at_ ⟨2,.data⟩ (by simp) rfl (aJ (by decide));have e100:a.eval (U 100)=aH au (at_:Int):=seen.at_ ⟨3,.data⟩ (by simp) rfl (aJ (by decide));exact Rg.dD rfl rfl (Rg.kS a.eval _ 25 (U 99) X (V (U 100)) X rfl (by show (Instr.sliceAt 25 (a.eval (U 99)) X (V (a.eval (U 100))) X).run Tryz.prog x=.ok lo x; rw [e99,e100]; exact SL.out x)) (hK _ _ rfl (L _ _) fun _ _ _ _ _ _ _ h=>h)
  ·cases ho;obtain⟨g,q0,hBg,hbx⟩:=seen.at_ ⟨0,.data⟩ (by simp) rfl (aO rfl);have q0:a.eval (U 97)=aA (V ⟨g,0,X⟩) 0 0:=q0;have e101:a.eval (U 101)=lo:=seen.at_ ⟨4,.data⟩ (by simp) rfl (aJ (by decide));obtain⟨v',x',r,o',gr⟩:=gZ nX W.heap.size hbx hBg (RL.out.on hb) LT.out 25;exact Rg.dD rfl rfl (Rg.gI a.eval _ (U 97) (U 101) 25 rfl q0 e101 r) (hK v' x' o' (gr.mono hb.size) fun j u _ _ _ _ _ h=>iO j u _ _ h gr)
  ·cases ho;have e3:a.eval (U 3)=O (V ⟨b3,0,X⟩):=seen.kp 3 _ (nd 3 (by omega)) rfl;exact Rg.dD rfl rfl (Rg.dR a.eval _ 66 (U 3) rfl (by rw [e3]; exact abw x _ z (LX.out x hb))) (hK _ _ rfl (L _ _) fun _ _ _ _ _ _ _ h=>h)
  ·cases ho;have e103:a.eval (U 103)=nW z:=seen.at_ ⟨6,.data⟩ (by simp) rfl (aJ (by decide));have hl:=jm nX x [z] 1 rfl (by simp) (jO z).toArray (by simp [flat,EN]);have hl:kY (x.alloc (aG (jO z).toArray 66)) x.heap.size (aA (V ⟨x.heap.size,0,X⟩) 1 1) [z]:=hl;exact Rg.dD rfl rfl (Rg.jg a.eval _ 25 1 #[(0,U 103)] rfl (ps:=#[(0,nW z)]) (by simp [e103]) (by simp [go_sem])) (hK (aA (V ⟨x.heap.size,0,X⟩) 1 1) (x.alloc (aG (jO z).toArray 66)) (dM hl hb.size) ((L _ _).alloc hb.size _) fun j u _ _ _ _ _ h=>iO j u _ _ h ((L _ _).alloc (aC _) _))
  ·cases ho;have o102:kY x W.heap.size (a.eval (U 102)) (lt):=seen.at_ ⟨5,.data⟩ (by simp) rfl (aO rfl);have o104:kY x W.heap.size (a.eval (U 104)) ([z]):=seen.at_ ⟨7,.data⟩ (by simp) rfl (aO rfl);have ox:=Row.dH o104;obtain⟨v',x',r,o',gr⟩:=gY nX W.heap.size o102 ox (by have:=LT.out; omega) (by simp) hb.size 25;exact Rg.dD rfl rfl (Rg.gI a.eval _ (U 102) (U 104) 25 rfl rfl rfl r) (hK v' x' o' ((L _ x).grown gr hb.size fun j hj=>(o102.lt j hj).1) fun j u hj dj nl nx ni h=>by
    rcases (by omega:j=0\/j=1\/j=2\/j=3\/j=4\/j=5\/j=6\/j=7\/j=8\/j=9\/j=10\/j=11\/j=12\/j=13\/j=14) with rfl|rfl|rfl|rfl|rfl|rfl|rfl|rfl|rfl|rfl|rfl|rfl|rfl|rfl|rfl
    ·exact absurd rfl (fun _:(0:Nat)=0=>nl (hc 5 _ (hD ⟨5,.data⟩ (by simp) rfl) rfl ⟨0,.data⟩ (by simp) rfl |> fun _=>hD ⟨5,.data⟩ (by simp) rfl))
    ·exact h
    ·exact h
    ·exact h
    ·exact h
    ·exact absurd rfl (fun _:(0:Nat)=0=>nx rfl)
    ·exact h
    ·exact absurd rfl (fun _:(0:Nat)=0=>nx rfl)
    ·exact absurd rfl (fun _:(0:Nat)=0=>ni rfl)
    ·exact h
    ·exact h
    ·exact h
    ·exact h
    ·exact absurd rfl (fun _:(0:Nat)=0=>hnd (hc 13 _ dj rfl ⟨8,.data⟩ (by simp) rfl))
    ·exact h)
  ·cases ho;have e2:a.eval (U 2)=O (V ⟨b2,0,X⟩):=seen.kp 2 _ (nd 2 (by omega)) rfl;exact Rg.dD rfl rfl (Rg.dW a.eval _ 28 (U 2) 4 rfl (by rw [e2]; simp [go_sem])) (hK _ _ rfl (L _ _) fun _ _ _ _ _ _ _ h=>h)
  ·cases ho;have e106:a.eval (U 106)=O (V ⟨b2,4,X⟩):=seen.at_ ⟨9,.data⟩ (by simp) rfl (aJ (by decide));have y:=(H2.out.on hb).cell 4;simp only [Y,aj,ak] at y;exact Rg.dD rfl rfl (Rg.dR a.eval _ 25 (U 106) rfl (by rw [e106]; simp [go_sem,y])) (hK _ _ rfl (L _ _) fun _ _ _ _ _ _ _ h=>h)
  ·cases ho;have e7:a.eval (U 7)=aH au (at_:Int):=seen.kp 7 _ (nd 7 (by omega)) rfl;exact Rg.dD rfl rfl (Rg.fV a.eval _ (U 7) rfl x) (hK _ _ e7 (L _ _) fun _ _ _ _ _ _ _ h=>h)
  ·cases ho;have e107:a.eval (U 107)=aA so sn sc:=seen.at_ ⟨10,.data⟩ (by simp) rfl (aJ (by decide));have e108:a.eval (U 108)=aH au (at_:Int):=seen.at_ ⟨11,.data⟩ (by simp) rfl (aJ (by decide));exact Rg.dD rfl rfl (Rg.kS a.eval _ 25 (U 107) (V (U 108)) X X rfl (by show (Instr.sliceAt 25 (a.eval (U 107)) (V (a.eval (U 108))) X X).run Tryz.prog x=.ok hiv x; rw [e107,e108]; exact SH.out x)) (hK _ _ rfl (L _ _) fun _ _ _ _ _ _ _ h=>h)
  ·cases ho;have o105:kY x W.heap.size (a.eval (U 105)) ((lt++[z])):=seen.at_ ⟨8,.data⟩ (by simp) rfl (aO rfl);have e109:a.eval (U 109)=hiv:=seen.at_ ⟨12,.data⟩ (by simp) rfl (aJ (by decide));have ox:lS x (a.eval (U 109)) ld:=by rw [e109]; exact RH.out.on hb
   obtain⟨v',x',r,o',gr⟩:=gY nX W.heap.size o105 ox (by have:=T9.out; rw [List.length_append,List.length_singleton]; omega) LD.out hb.size 25;exact Rg.dD rfl rfl (Rg.gI a.eval _ (U 105) (U 109) 25 rfl rfl rfl r) (hK v' x' o' ((L _ x).grown gr hb.size fun j hj=>(o105.lt j hj).1) fun j u hj dj nl nx ni h=>by
    rcases (by omega:j=0\/j=1\/j=2\/j=3\/j=4\/j=5\/j=6\/j=7\/j=8\/j=9\/j=10\/j=11\/j=12\/j=13\/j=14) with rfl|rfl|rfl|rfl|rfl|rfl|rfl|rfl|rfl|rfl|rfl|rfl|rfl|rfl|rfl
    ·exact absurd rfl (fun _:(0:Nat)=0=>nl (hc 8 _ (hD ⟨8,.data⟩ (by simp) rfl) rfl ⟨5,.data⟩ (by simp) rfl))
    ·exact h
    ·exact h
    ·exact h
    ·exact h
    ·exact absurd rfl (fun _:(0:Nat)=0=>nl (hD ⟨8,.data⟩ (by simp) rfl))
    ·exact h
    ·exact absurd rfl (fun _:(0:Nat)=0=>nl (hD ⟨8,.data⟩ (by simp) rfl))
    ·exact absurd rfl (fun _:(0:Nat)=0=>nx rfl)
    ·exact h
    ·exact h
    ·exact h
    ·exact h
    ·exact absurd rfl (fun _:(0:Nat)=0=>ni rfl)
    ·exact h)
  ·cases ho;have e2:a.eval (U 2)=O (V ⟨b2,0,X⟩):=seen.kp 2 _ (nd 2 (by omega)) rfl;exact Rg.dD rfl rfl (Rg.dW a.eval _ 28 (U 2) 4 rfl (by rw [e2]; simp [go_sem])) (hK _ _ rfl (L _ _) fun _ _ _ _ _ _ _ h=>h)
 ·intro a w' df sz kp ⟨vs,hv⟩ hb;have gr:a.tmps[110]?=V (vs 13):=(hv 13 (by omega)).1;have gp:a.tmps[111]?=V (O (V ⟨b2,4,X⟩)):=by
   have h:vs 14=O (V ⟨b2,4,X⟩):=(hv 14 (by omega)).2 (by decide);rw [<- h];exact (hv 14 (by omega)).1
  have oR:kY w' W.heap.size (vs 13) (lt++[z]++ld):=(hv 13 (by omega)).2 (by decide);generalize vs 13=xR at *;obtain⟨ca,cp,eR⟩:=(Row.dH oR).len;have hbx:=H2.out.on hb;have hblt:=H2.out.lt;have c5:=hbx.cell 4;have f5:=hbx.fr 4;simp only [Y,aj,ak] at c5;have hb1:=dZ (k:=4) hbx xR;show Rg.fH _ _ _ 1 15 a w';simp only [Rg.fH];refine Rg.fT 25 (U 111) (U 110) rfl rfl rfl rfl (Rg.dL gp) (Rg.dL gr) (w':=w'.setCell ⟨b2,4,X⟩ xR) (by rw [eR]; simp [go_sem,c5,f5]) ?_;have qI:∀ j,(j<97\/112<=j)->a.tmps[j]?=(u0::u1::O (V ⟨b2,0,X⟩)::O (V ⟨b3,0,X⟩)::u4::u5::u6::aH au (at_:Int)::u8::u9::u10::u11::u12::u13::u14::u15::u16::u17::u18::u19::u20::u21::u22::u23::u24::u25::u26::u27::u28::u29::u30::u31::u32::u33::u34::u35::u36::u37::u38::u39::u40::u41::u42::u43::u44::u45::u46::u47::u48::u49::u50::u51::u52::u53::u54::u55::u56::u57::u58::u59::u60::u61::u62::u63::u64::u65::u66::u67::u68::u69::u70::u71::u72::u73::u74::u75::u76::u77::u78::u79::u80::u81::u82::u83::u84::u85::u86::u87::u88::u89::u90::u91::u92::u93::u94::u95::u96::u97::u98::u99::u100::u101::u102::u103::u104::u105::u106::u107::u108::u109::u110::u111::u112::u113::u114::[])[j]?:=fun j hj=>(kp j (nd j hj)).trans Y;obtain⟨mid,hmid,rfl⟩:=Rg.gJ 97 15 df sz (by simp) qI
  match mid,hmid with
  | [v97,v98,v99,v100,v101,v102,v103,v104,v105,v106,v107,v108,v109,v110,v111],_ =>
   have e1:V v110=V xR:=gr;obtain rfl:=Option.some.inj e1;refine HQ.out _ v97 v98 v99 v100 v101 v102 v103 v104 v105 v106 v107 v108 v109 v110 v111 ?_ ?_ ?_ ?_ ?_
   ·simpa using hb1
   ·exact dX oR b2 4 _ hblt
   ·exact fun B hB=>(hb.mono (Nat.le_of_lt (Nat.lt_of_le_of_lt hB hblt))).setCell hB _
   ·intro c cs t hc hbc;exact (aB _ _ _ _ hc).trans (hbc.on hb)
   ·intro k hk hne;exact (aB _ _ _ _ hne).trans (hb.block k hk)
end Bk
namespace Rl
open Go.RowKit Pu Pr
def ZR (p:List Cn) (n:ByteArray):Option Cn:=p.find? fun c=>decide (c.1=n)
theorem Uy {p:List Cn} {n:ByteArray} {y:Cn} (h:ZR p n=V y):y∈p/\y.1=n:=⟨List.mem_of_find?_eq_some h,by simpa using List.find?_some h⟩
theorem ahK {p:List Cn} {n:ByteArray} {k:Nat} {y:Cn} (hk:p[k]?=V y) (he:y.1=n) (hn:∀ (j:Nat) (z:Cn),j<k->p[j]?=V z->z.1≠n):ZR p n=V y:=by
 unfold ZR;rw [List.find?_eq_some_iff_getElem];obtain⟨hlt,hy⟩:=List.getElem?_eq_some_iff.1 hk;refine⟨by simpa using he,k,hlt,hy,fun j hj=>?_⟩;have:=hn j p[j] hj (ah (by omega));simpa using this
theorem aax {p:List Cn} {n:ByteArray} (hn:∀ (j:Nat) (z:Cn),j<p.length->p[j]?=V z->z.1≠n):ZR p n=X:=by
 unfold ZR;rw [aK];intro x hx;obtain⟨j,hj,e⟩:=List.getElem_of_mem hx;have:=hn j x hj (by rw [ah hj,e]);simpa using this
def MW (b:List Cn) (x:Cn):Bool:=match ZR b x.1 with
 | some y=>eZ y.2 x.2
 | none=>false
theorem Rf {a b:List Cn} (hb:jW b):qd a b=a.all (MW b):=by
 unfold qd
 congr 1
 funext x
 unfold MW;cases hf:ZR b x.1 with
 | none =>
  rw [List.any_eq_false];intro y hy;have:=aK.1 hf y hy;simp only [decide_eq_true_eq] at this;simp [this]
 | some y =>
  obtain⟨h1,h2⟩:=Uy hf;rw [aF,List.any_eq_true];constructor
  ·rintro⟨z,hz,h3⟩;simp only [Z,decide_eq_true_eq] at h3;rw [ahz hb h1 hz (h2.trans h3.1.symm)];exact h3.2
  ·intro h3;exact⟨y,h1,by simp [h2,h3]⟩
theorem M0 {n:ByteArray} {c d k:Kd} (hc:iY c=aN) (hd:iY d=aN) (h:fG c d=V k):z8 (r5 (n,k)) (r5 (n,d))=eZ d c:=by
 obtain⟨k1,k2⟩:=QC c d k hc hd h;rw [aF,Je];constructor
 ·intro e;have e2:=afM e;obtain rfl:k=d:=congrArg Prod.snd e2;exact DK k c hd fun v hv=>by rw [k2,Z] at hv; exact hv.1
 ·intro hi;have:k=d:=Me k d k1 hd fun v=>by
   rw [k2,aF,Z];exact⟨fun h=>h.2,fun h=>⟨vO d c hi v h,h⟩⟩
  rw [this]
theorem M6 {c d:Kd} (hd:iY d=aN) (h:fG c d=X):eZ d c=false:=by
 rw [Bool.eq_false_iff];intro hi;obtain⟨v,hv⟩:=Md d hd;have:=QD c d h v;rw [hv,vO d c hi v hv] at this;cases this
/-! ### samples -/
/-! ### both together -/
end Rl
end Go.Proofs.YtmklifheakemeaaGreat
