/-
  A step of Copy: an o. Conditions as told.
-/
import Derived.Test.YtmklifheakemeaaVQ010
import Derived.Test.YtmklifheakemeaaVQ014
set_option maxRecDepth 100000
set_option maxHeartbeats 64000000
open _root_.Go renaming World->aG,Value->aH,Calls->aK
open Go.IntKind renaming i64->U
open Go.Lib renaming hid->J
open Go.Obj renaming cells->aD
open Go.Operand renaming tmp->au
open Go.RowKit.Below renaming refl->L
open Go.Value renaming pointer->O,int->Y,slice->Z,string->aJ
open Go.World renaming cell?_alloc_at->ay,cell?_alloc_lt->aF
open _root_.List renaming getElem?_toArray->X,getElem?_cons_zero->aj,getElem?_cons_succ->ak,getElem?_eq_some_iff->aA,getElem?_eq_getElem->aB,mem_append->aI
open _root_.Option renaming some->V,none->ah
open _root_.Or renaming inr->aC
namespace Go.Proofs.Ytmklifheakemeaa
namespace Av
open Go.RowKit Go.Sort Rw Ytmklifheakemeaa.Nm Pr Bk
def Bw (B:Nat) (b1:Nat) (_me:Int) (_z1 _z2 _z3 _z4:aH) (g n cap k:Nat) (_y1 _y2:Int) (yo:Option Addr) (yn yc:Nat) (p:List C5) (i:Nat) (v:aH) (x:aG):Prop :=
 match i with
 | 0=>v=O (V ⟨b1,5,ah⟩)
 | 1=>v=Z (V ⟨g,0,ah⟩) n cap
 | 2=>v=Y U (k:Int)
 | 3=>v=O (V ⟨b1,5,ah⟩)
 | 4=>v=Z (V ⟨g,0,ah⟩) n cap
 | 5=>v=Y U (k:Int)
 | 6=>v=O (V ⟨g,k * 3,ah⟩)
 | 7=>v=O (V ⟨g,k * 3+2,ah⟩)
 | 8=>v=Z yo yn yc
 | 9=>∃ s:Sl,v=dR s/\qA x B v p
 | 10=>v=O (V ⟨g,k * 3,ah⟩)
 | 11=>v=O (V ⟨g,k * 3+2,ah⟩)
 | _=>True
noncomputable def JG:Code:=((Try.f19.body.bind (dZ 16)).getD .skip)
theorem Fy (B:Nat) (b1:Nat) (me:Int) (z1 z2 z3 z4:aH) (g n cap k:Nat) (y1 y2:Int) (yo:Option Addr) (yn yc:Nat) (p:List C5) (i:Nat) (v:aH) (x x':aG) (h:Bw B b1 me z1 z2 z3 z4 g n cap k y1 y2 yo yn yc p i v x) (hb:Below x.heap.size x x'):Bw B b1 me z1 z2 z3 z4 g n cap k y1 y2 yo yn yc p i v x':=by
 by_cases hi:i<12
 ·rcases (by omega:i=0\/i=1\/i=2\/i=3\/i=4\/i=5\/i=6\/i=7\/i=8\/i=9\/i=10\/i=11) with rfl|rfl|rfl|rfl|rfl|rfl|rfl|rfl|rfl|rfl|rfl|rfl
  ·exact h
  ·exact h
  ·exact h
  ·exact h
  ·exact h
  ·exact h
  ·exact h
  ·exact h
  ·exact h
  ·obtain⟨s,h1,h2⟩:=h; exact⟨s,h1,Bk.dB h2 hb⟩
  ·exact h
  ·exact h
 ·unfold Bw
  split <;> first | omega | trivial
theorem Pq (Q:Exit->Act->aG->Prop) (W:aG) (B0:Nat) (l:List uL) (b1:Nat) (me:Int) (z1 z2 z3 z4:aH) (g n cap k:Nat) (y1 y2:Int) (yo:Option Addr) (yn yc:Nat) (p:List C5) (u0 u2 u3 u4 u6 u7 u8 u9 u10 u11 u12 u13 u14 u15 u16 u17 u18 u19 u20 u21 u22 u23 u24 u25 u26 u27 u28 u29 u30 u31 u32 u33 u34 u35 u36 u37 u38 u39 u40 u41 u42 u43 u44 u45 u46 u47 u48 u49 u50 u51 u52 u53 u54 u55 u56 u57 u58 u59 u60 u61 u62 u63 u64 u65 u66 u67 u68 u69 u70 u71 u72 u73 u74 u75 u76 u77 u78 u79 u80 u81:aH)
  (h1:dH W b1 #[Y U me,z1,z2,z3,z4,Z (V ⟨g,0,ah⟩) n cap] 31) (ho:wJ W B0 (Z (V ⟨g,0,ah⟩) n cap) l) (hy:l[k]?=V (y1,y2,(yo,yn,yc))) (hp:iy W (Z yo yn yc) p) (lp:p.length<=900)
  (hQ:∀ (x:aG) (v68 v69 v70 v71 v72 v73 v74 v75 v76 v77 v78 v79:aH) (s1:Option Addr) (s2 s3:Nat),qA x W.heap.size (Z s1 s2 s3) p->wJ x B0 (Z (V ⟨g,0,ah⟩) n cap) (l.set k (y1,y2,(s1,s2,s3)))->But g W x->(∀ B1,B1<=g->B1<=W.heap.size->Below B1 W x)->Q .normal ⟨(u0::O (V ⟨b1,0,ah⟩)::u2::u3::u4::Y U (k:Int)::u6::u7::u8::u9::u10::u11::u12::u13::u14::u15::u16::u17::u18::u19::u20::u21::u22::u23::u24::u25::u26::u27::u28::u29::u30::u31::u32::u33::u34::u35::u36::u37::u38::u39::u40::u41::u42::u43::u44::u45::u46::u47::u48::u49::u50::u51::u52::u53::u54::u55::u56::u57::u58::u59::u60::u61::u62::u63::u64::u65::u66::u67::v68::v69::v70::v71::v72::v73::v74::v75::v76::v77::v78::v79::u80::u81::[]).toArray,[]⟩ x) :
  Code.wp Try.prog JG Q ⟨(u0::O (V ⟨b1,0,ah⟩)::u2::u3::u4::Y U (k:Int)::u6::u7::u8::u9::u10::u11::u12::u13::u14::u15::u16::u17::u18::u19::u20::u21::u22::u23::u24::u25::u26::u27::u28::u29::u30::u31::u32::u33::u34::u35::u36::u37::u38::u39::u40::u41::u42::u43::u44::u45::u46::u47::u48::u49::u50::u51::u52::u53::u54::u55::u56::u57::u58::u59::u60::u61::u62::u63::u64::u65::u66::u67::u68::u69::u70::u71::u72::u73::u74::u75::u76::u77::u78::u79::u80::u81::[]).toArray,[]⟩ W:=by
 have HQ:=J hQ;have H1:=J h1;have HO:=J ho;have HY:=J hy;have HP:=J hp;have LP:=J lp;have IX:=J (nQ okW g k n cap (by obtain⟨_,_,hv⟩:=(Row.dM ho).len; have h:=(aA.1 hy).1; simp at hv; omega));have EL:=J (gW okW ho hy);clear hQ h1 ho hy hp lp;have mQ:=Fy W.heap.size b1 me z1 z2 z3 z4 g n cap k y1 y2 yo yn yc p;unfold JG
 conv=>arg 2; whnf
 have nd:∀ j,(j<68\/80<=j)->∀ i,i<12->(fun i=>68+i) i≠j:=by
  intro j hj i hi h;simp only at h;omega
 refine Rg.iF 13 12 (fun i=>68+i) (fun _=>12) (Bw W.heap.size b1 me z1 z2 z3 z4 g n cap k y1 y2 yo yn yc p) (by kernel_rfl) (by kernel_rfl) rfl (by decide) (fun i j _ _ h=>by have h2:68+i=68+j:=h; omega) (fun i hi=>by show 68+i<82; omega) ?_ (fun _=>Rg.kQ 14 (by kernel_rfl)) ?_ ?_
 ·intro i o hi ho a x D hnd hc hD hb seen K hK;clear HQ;rcases (by omega:i=0\/i=1\/i=2\/i=3\/i=4\/i=5\/i=6\/i=7\/i=8\/i=9\/i=10\/i=11) with rfl|rfl|rfl|rfl|rfl|rfl|rfl|rfl|rfl|rfl|rfl|rfl
  ·cases ho;have e1:a.eval (au 1)=O (V ⟨b1,0,ah⟩):=seen.kp 1 _ (nd 1 (by omega)) rfl;exact Rg.dz rfl rfl (Rg.fu a.eval _ 31 (au 1) 5 rfl (by rw [e1]; simp [go_sem])) (hK _ _ rfl (L _ _) fun _ _ _ _ _ _ _ h=>h)
  ·cases ho;have e68:a.eval (au 68)=O (V ⟨b1,5,ah⟩):=seen.at_ ⟨0,.data⟩ (by simp) rfl (aC (by decide));have y5:=(H1.out.on hb).cell 5;simp only [X,aj,ak] at y5;exact Rg.dz rfl rfl (Rg.dV a.eval _ 29 (au 68) rfl (by rw [e68]; simp [go_sem,y5])) (hK _ _ rfl (L _ _) fun _ _ _ _ _ _ _ h=>h)
  ·cases ho;have e5:a.eval (au 5)=Y U (k:Int):=seen.kp 5 _ (nd 5 (by omega)) rfl;exact Rg.dz rfl rfl (Rg.eH a.eval _ (au 5) rfl x) (hK _ _ e5 (L _ _) fun _ _ _ _ _ _ _ h=>h)
  ·cases ho;have e1:a.eval (au 1)=O (V ⟨b1,0,ah⟩):=seen.kp 1 _ (nd 1 (by omega)) rfl;exact Rg.dz rfl rfl (Rg.fu a.eval _ 31 (au 1) 5 rfl (by rw [e1]; simp [go_sem])) (hK _ _ rfl (L _ _) fun _ _ _ _ _ _ _ h=>h)
  ·cases ho;have e71:a.eval (au 71)=O (V ⟨b1,5,ah⟩):=seen.at_ ⟨3,.data⟩ (by simp) rfl (aC (by decide));have y5:=(H1.out.on hb).cell 5;simp only [X,aj,ak] at y5;exact Rg.dz rfl rfl (Rg.dV a.eval _ 29 (au 71) rfl (by rw [e71]; simp [go_sem,y5])) (hK _ _ rfl (L _ _) fun _ _ _ _ _ _ _ h=>h)
  ·cases ho;have e5:a.eval (au 5)=Y U (k:Int):=seen.kp 5 _ (nd 5 (by omega)) rfl;exact Rg.dz rfl rfl (Rg.eH a.eval _ (au 5) rfl x) (hK _ _ e5 (L _ _) fun _ _ _ _ _ _ _ h=>h)
  ·cases ho;have e72:a.eval (au 72)=Z (V ⟨g,0,ah⟩) n cap:=seen.at_ ⟨4,.data⟩ (by simp) rfl (aC (by decide));have e73:a.eval (au 73)=Y U (k:Int):=seen.at_ ⟨5,.data⟩ (by simp) rfl (aC (by decide));exact Rg.dz rfl rfl (Rg.iE a.eval _ 29 (au 72) (au 73) rfl (by rw [e72,e73]; exact IX.out x)) (hK _ _ rfl (L _ _) fun _ _ _ _ _ _ _ h=>h)
  ·cases ho;have e74:a.eval (au 74)=O (V ⟨g,k * 3,ah⟩):=seen.at_ ⟨6,.data⟩ (by simp) rfl (aC (by decide));exact Rg.dz rfl rfl (Rg.fu a.eval _ 90 (au 74) 1 rfl (by rw [e74]; simp [go_sem])) (hK _ _ rfl (L _ _) fun _ _ _ _ _ _ _ h=>h)
  ·cases ho;have e75:a.eval (au 75)=O (V ⟨g,k * 3+2,ah⟩):=seen.at_ ⟨7,.data⟩ (by simp) rfl (aC (by decide));have y:=EL.out x hb 2 _ rfl;simp [Addr.add,EW] at y;exact Rg.dz rfl rfl (Rg.dV a.eval _ 35 (au 75) rfl (by rw [e75]; simp [go_sem,y])) (hK _ _ rfl (L _ _) fun _ _ _ _ _ _ _ h=>h)
  ·cases ho;have e76:a.eval (au 76)=Z yo yn yc:=seen.at_ ⟨8,.data⟩ (by simp) rfl (aC (by decide));exact Rg.fH rfl rfl (Rw.gT a.eval _ (au 76) 35 48 rfl e76 rfl _ (eT Try.func48 rfl rfl _ _)) (lU (yo,yn,yc) p x (HP.out.on hb) LP.out) fun e w1 h=>by
    obtain⟨⟨s,rfl,h1⟩,h3⟩:=h;exact⟨_,rfl,hK _ _ ⟨s,rfl,dK h1 hb.size⟩ (h3.mono hb.size) fun j u hj _ _ _ hne h=>mQ j u _ _ h h3⟩
  ·cases ho;have e69:a.eval (au 69)=Z (V ⟨g,0,ah⟩) n cap:=seen.at_ ⟨1,.data⟩ (by simp) rfl (aC (by decide));have e70:a.eval (au 70)=Y U (k:Int):=seen.at_ ⟨2,.data⟩ (by simp) rfl (aC (by decide));exact Rg.dz rfl rfl (Rg.iE a.eval _ 29 (au 69) (au 70) rfl (by rw [e69,e70]; exact IX.out x)) (hK _ _ rfl (L _ _) fun _ _ _ _ _ _ _ h=>h)
  ·cases ho;have e78:a.eval (au 78)=O (V ⟨g,k * 3,ah⟩):=seen.at_ ⟨10,.data⟩ (by simp) rfl (aC (by decide));exact Rg.dz rfl rfl (Rg.fu a.eval _ 90 (au 78) 1 rfl (by rw [e78]; simp [go_sem])) (hK _ _ rfl (L _ _) fun _ _ _ _ _ _ _ h=>h)
 ·intro kk o h1 h2 ho;omega
 ·intro a w' df sz kp ⟨vs,hv⟩ hb;have sz':a.tmps.size=82:=sz;have g79:a.tmps[79]?=V (O (V ⟨g,k * 3+2,ah⟩)):=by
   have h:vs 11=O (V ⟨g,k * 3+2,ah⟩):=(hv 11 (by omega)).2 (by decide);rw [<- h];exact (hv 11 (by omega)).1
  obtain⟨⟨s1,s2,s3⟩,hs,hc⟩:=(hv 9 (by omega)).2 (by decide);have g77:a.tmps[77]?=V (Z s1 s2 s3):=((hv 9 (by omega)).1).trans (congrArg V hs);rw [hs] at hc;obtain⟨w2,hr,st1,st2,MJ⟩:=Kl (k:=k) s1 s2 s3 (Bk.dB HO.out hb) HY.out;obtain⟨cur,hg⟩:=gu (Bk.dB HO.out hb);show Rg.fQ _ _ _ 1 12 a w';simp only [Rg.fQ];refine Rg.fK 35 (au 79) (au 77) rfl rfl rfl rfl (Rg.dF g79) (Rg.dF g77) (w':=w2) hr ?_;have uR:∀ j,(j<68\/80<=j)->(a).tmps[j]?=(u0::O (V ⟨b1,0,ah⟩)::u2::u3::u4::Y U (k:Int)::u6::u7::u8::u9::u10::u11::u12::u13::u14::u15::u16::u17::u18::u19::u20::u21::u22::u23::u24::u25::u26::u27::u28::u29::u30::u31::u32::u33::u34::u35::u36::u37::u38::u39::u40::u41::u42::u43::u44::u45::u46::u47::u48::u49::u50::u51::u52::u53::u54::u55::u56::u57::u58::u59::u60::u61::u62::u63::u64::u65::u66::u67::u68::u69::u70::u71::u72::u73::u74::u75::u76::u77::u78::u79::u80::u81::[])[j]?:=fun j hj=>(kp j (nd j (by omega))).trans X;obtain⟨mid,hmid,hfr⟩:=Rg.gQ (a:=a) 68 12 df (by simp [sz']) (by simp) uR;show Q .normal (a) _;rw [hfr]
  match mid,hmid with
  | [v68,v69,v70,v71,v72,v73,v74,v75,v76,v77,v78,v79],_ =>
   exact HQ.out _ _ _ _ _ _ _ _ _ _ _ _ _ s1 s2 s3 (st2.own hc hg (by decide)) st1 ((But.of_below hb).trans st2) fun B1 hB hl=>MJ B1 W hB (hb.mono hl)
theorem Al (l:List eu) (x:eu) (h:∀ (j:Nat) (y:eu),l[j]?=V y->y≠x):fM l x=-1:=by
 induction l with
 | nil=>rfl
 | cons a l ih =>
  rw [fM,if_neg (h 0 a rfl),ih fun j y hj=>h (j+1) y (by simpa using hj),if_pos rfl]
theorem Fg (l:List eu) (k:Nat) (x:eu) (h:l[k]?=V x) (hall:∀ (j:Nat) (z:eu),j<k->l[j]?=V z->z≠x):fM l x=k:=by
 induction l generalizing k with
 | nil=>simp at h
 | cons a l ih =>
  cases k with
  | zero =>
   obtain rfl:a=x:=by simpa using h
   rw [fM,if_pos rfl]
   rfl
  | succ k =>
   have h2:=ih k (by simpa using h) fun j z hj hz=>hall (j+1) z (by omega) (by simpa using hz);rw [fM,if_neg (hall 0 a (by omega) rfl),h2,if_neg (by omega)];omega
theorem xK (l:List eu) (x:eu):decide ((0:Int)<=fM l x)=decide (x∈l):=by
 induction l with
 | nil=>simp [fM]
 | cons a l ih =>
  have hb:=pI l x;rw [fM];by_cases h:a=x
  ·rw [if_pos h]; simp [h]
  ·rw [if_neg h];have h':¬ x=a:=fun e=>h e.symm;simp only [List.mem_cons,h',false_or];rw [<- ih];by_cases h2:fM l x=-1
   ·rw [if_pos h2,h2]
   ·rw [if_neg h2];have h3:0<=fM l x:=by omega
    have h4:0<=fM l x+1:=by omega
    simp [h3,h4]
theorem CX (sv:Sl) (l:List eu) (x:eu) (w:aG) (hs:rT w (dR sv) l) :
  aK Try.prog 66 #[dR sv,pG x] w fun e w'=>e=.returned (Y U (fM l x))/\Below w.heap.size w w':=by
 obtain⟨c,d⟩:=x;obtain⟨so,sn,sc⟩:=sv;obtain⟨ao,ac,hv⟩:=hs.len;have hv:Z so sn sc=Z ao l.length ac:=hv;obtain⟨rfl,rfl,rfl⟩:so=ao/\sn=l.length/\sc=ac:=by simpa using hv
 have h0:=iG w (aD #[Y U c,Y U d] 25);have h2:=dO w #[Y U c,Y U d] 25;have B:=J h0;have HS:=J (hs.on h0);have X3:=J h2;have lm:=hs.most;unfold maxLen at lm;obtain⟨n,hn⟩:∃ n,n=l.length:=⟨_,rfl⟩;rw [<- hn] at HS lm ⊢;have HN:=J hn.symm;clear h0 h2 hs hv hn;go_enter Try.func66,Try.ntmps66;go_upto_region 1 with fail;generalize w.alloc (aD #[Y U c,Y U d] 25)=W at *;go_wp2
 go_loopw [8] (fun i wr=>∃ k:Nat,k<=n/\i=Y U k/\Below W.heap.size W wr/\∀ (j:Nat) (y:eu),j<k->l[j]?=V y->y≠(c,d)) (fun i _=>n-(intOf i).toNat)
 case atStart=>exact⟨0,Nat.zero_le _,rfl,L _ _,fun j y h=>by omega⟩
 case round =>
  obtain⟨k,hk,rfl,hbe,hall⟩:=hrel;have BE:=J hbe;have AL:=J hall;clear hbe hall;by_cases hlt:k<n
  ·obtain⟨y,hy⟩:∃ y,l[k]?=V y:=⟨_,aB (by rw [HN.out]; exact hlt)⟩;obtain⟨p,ix,px⟩:=Q6 HS.out rfl HN.out hy;have DD:Below W.heap.size W wr.drew:=BE.out.drew;obtain⟨p0,p1⟩:=px wr BE.out;obtain⟨y1,y2⟩:=y;simp only at p0 p1;obtain⟨x0,x1⟩:=(X3.out.on BE.out).cs2;have hw3:IntKind.i64.wrap ((k:Int)+1)=(k:Int)+1:=IntWalk.i64_in _ (by omega);obtain⟨r,hr⟩:∃ r,(c == y1 && d == y2)=r:=⟨_,rfl⟩;have he:=Ag c d y1 y2 r hr;have DB:=J DD;have HY:=J hy;have HR:=J hr;clear px hy hr DD;cases r
   ·go_wp2_with fail
    go_quiet (fail)
    go_wp2
    go_roundw
    case rel=>exact⟨k+1,by omega,by go_num,⟨BE.out.os,BE.out.tape,BE.out.output,BE.out.size,BE.out.block⟩,fun j y' hj h1=>by
     rcases Nat.lt_or_ge j k with h3|h3
     ·exact AL.out j y' h3 h1
     ·obtain rfl:j=k:=by omega
      have e1:=HY.out;rw [h1] at e1;rw [Option.some.inj e1];intro e;obtain⟨rfl,rfl⟩:y1=c/\y2=d:=by simpa using e
      have:=HR.out;simp at this⟩
    case measure=>simp [intOf]; omega
   ·go_wp2_with fail
    go_quiet (fail)
    go_wp2;go_ret;have h8:=HR.out;obtain⟨rfl,rfl⟩:c=y1/\d=y2:=by simpa using h8
    exact⟨by rw [Fg l k (c,d) HY.out AL.out]; rfl,B.out.trans (Below.mono ⟨BE.out.os,BE.out.tape,BE.out.output,BE.out.size,BE.out.block⟩ B.out.size)⟩
  ·obtain rfl:k=n:=by omega
   go_wp2;go_ret;have hd:fM l (c,d)=-1:=Al l (c,d) fun j y hj=>AL.out j y (by rw [<- HN.out]; exact (aA.1 hj).1) hj;exact⟨by rw [hd]; rfl,B.out.trans (BE.out.mono B.out.size)⟩
theorem wK (sv:Sl) (l:List eu) (x:eu) (w:aG) (hs:rT w (dR sv) l) :
  aK Try.prog 43 #[dR sv,pG x] w fun e w'=>e=.returned (.bool (decide (x∈l)))/\Below w.heap.size w w':=by
 have h0:=iG w (aD #[Y U x.1,Y U x.2] 25);have h2:=dO w #[Y U x.1,Y U x.2] 25;have C:=CX sv l x _ (hs.on h0);have R:=J (xK l x);obtain⟨c,d⟩:=x;obtain⟨so,sn,sc⟩:=sv;have B:=J h0;obtain⟨x0,x1⟩:=h2.cs2;generalize fM l (c,d)=r at *;generalize decide ((c,d)∈l)=s at *;clear h0 h2 hs;go_enter Try.func43,Try.ntmps43;go_wp2_with fail;refine C.mono ?_;rintro e w1 ⟨rfl,hb⟩;go_wp2;go_ret;exact⟨by have h:=R.out; subst h; rfl,B.out.trans (hb.mono B.out.size)⟩
theorem CY (me:Int) (nv av ev ov:aH) (sv:Sl) (l:List eu) (x:eu) (w:aG) (hs:rT w (dR sv) l) :
  aK Try.prog 18 #[.agg #[Y U me,nv,av,dR sv,ev,ov],pG x] w fun e w'=>e=.returned (.bool (decide (x∈l)))/\Below w.heap.size w w':=by
 obtain⟨h0,h1,h2⟩:=iT w #[Y U me,nv,av,dR sv,ev,ov] #[Y U x.1,Y U x.2] 31 25;have C:=wK sv l x _ (hs.on h0);obtain⟨c,d⟩:=x;obtain⟨so,sn,sc⟩:=sv;have B:=J h0;have b3:=h1.cell 3;obtain⟨x0,x1⟩:=h2.cs2;simp only [X,aj,ak] at b3;generalize decide ((c,d)∈l)=s at *;clear h0 h1 h2 hs;go_enter Try.func18,Try.ntmps18;go_wp2_with fail;refine C.mono ?_;rintro e w1 ⟨rfl,hb⟩;go_wp2;go_ret;exact⟨rfl,B.out.trans (hb.mono B.out.size)⟩
end Av
namespace Pr
open Go.RowKit Pu Rw Va Kp In
def gN (has vals:List Int):Nat->List Cn
 | 0=>[]
 | i+1=>if i<has.length/\odd (has.getD i 0)=true/\(gN has vals i).length<5 then gN has vals i++[(nm i,mV (mJ vals i))] else gN has vals i
theorem BD (has vals:List Int):∀ k,(gN has vals k).length<=k
 | 0=>Nat.le_refl _
 | k+1=>by
  have h:=BD has vals k;simp only [gN]
  split
  ·simp; omega
  ·omega
theorem xV (has vals:List Int):∀ k,(gN has vals k).length<=5
 | 0=>by simp [gN]
 | k+1=>by
  have h:=xV has vals k;simp only [gN]
  split
  ·rename_i hc; simp; omega
  ·exact h
theorem nW (has vals:List Int):∀ k,∀ x∈gN has vals k,∃ i,i<k/\x.1=nm i
 | 0,x,h=>by simp [gN] at h
 | k+1,x,h=>by
  simp only [gN] at h
  split at h
  ·rcases aI.1 h with h|h
   ·obtain⟨i,h1,h2⟩:=nW has vals k x h;exact⟨i,by omega,h2⟩
   ·simp at h;exact⟨k,by omega,by rw [h]⟩
  ·obtain⟨i,h1,h2⟩:=nW has vals k x h;exact⟨i,by omega,h2⟩
theorem sF (has vals:List Int):∀ k,∀ x∈gN has vals k,gB x.2=true
 | 0,x,h=>by simp [gN] at h
 | k+1,x,h=>by
  simp only [gN] at h
  split at h
  ·rcases aI.1 h with h|h
   ·exact sF has vals k x h
   ·simp at h;rw [h]; exact Df _
  ·exact sF has vals k x h
theorem IZ (i j:Nat) (h:i<j) (hj:j<7):Op.bytesLess (nm i).toList (nm j).toList=true:=by
 rw [ByteArray.toList_eq,ByteArray.toList_eq];have:∀ j:Fin 7,∀ i:Fin 7,i.val<j.val->Op.bytesLess (nm i.val).data.toList (nm j.val).data.toList=true:=by decide
 exact this ⟨j,hj⟩ ⟨i,by omega⟩ h
theorem xW (has vals:List Int):∀ k,k<=7->vB (gN has vals k)
 | 0,_=>by simp [gN,vB]
 | k+1,hk=>by
  have h:=xW has vals k (by omega);simp only [gN]
  split
  ·refine List.pairwise_append.2 ⟨h,List.pairwise_singleton _ _,fun x hx y hy=>?_⟩;obtain⟨i,h1,h2⟩:=nW has vals k x hx;simp at hy;rw [hy,h2];exact IZ i k h1 (by omega)
  ·exact h
theorem FI (w:aG) (c:C5):iy (w.alloc (aD #[aJ c.1,Y U c.2.1,Y U c.2.2.1,Y U c.2.2.2.1,aJ c.2.2.2.2] 56)) (Z (V ⟨w.heap.size,0,ah⟩) 1 1) [c] :=
 Row.dM (nR Ib w [c] 1 rfl (by simp) _ rfl)
theorem sG (hv vv:aH) (has vals:List Int) (w:aG) (hh:gJ w hv has) (hw:gJ w vv vals) (lh:has.length<=maxLen) (lv:vals.length<=maxLen) :
  aK Try.prog 8 #[.agg #[hv,vv]] w fun e w'=>∃ v,e=.returned v/\qA w' w.heap.size v ((gN has vals 7).map r5)/\Below w.heap.size w w':=by
 have HH:=J hh;have HW:=J hw;have LH:=J lh;have LV:=J lv;clear hh hw lh lv;go_enter Try.func8,Try.ntmps8;go_wp2_with fail;refine (CZ _).mono ?_;rintro e1 w1 ⟨rfl,rfl⟩;go_wp2
 go_loopw [3,8] (fun lv i wr=>∃ k:Nat,k<=7/\i=Y U k/\qA wr (w.heap.size+2) lv ((gN has vals k).map r5) /\
  Below (w.heap.size+2) ((w.alloc (aD #[hv,vv] 40)).alloc (aD pF 9)) wr) (fun _ i _=>7-(intOf i).toNat)
 case atStart=>exact⟨0,by omega,rfl,iJ _ _,L _ _⟩
 case round =>
  obtain⟨k,hk,rfl,hown,hb⟩:=hrel;have HO:=J hown;have HB:=J hb;have T0:Below w.heap.size w ((w.alloc (aD #[hv,vv] 40)).alloc (aD pF 9)):=((L _ _).alloc (Nat.le_refl _) _).alloc (by simp) _;have BW:=J (T0.trans (hb.mono (by omega)));have hsz:w.heap.size+2<=wr.heap.size:=by have:=hb.size; simp at this; omega
  clear T0;obtain⟨ro,SH,hrl⟩:=(Row.dM hown).len;rw [List.length_map] at hrl;have hl5:=BD has vals k;by_cases h7:k<7
  ·have n0:wr.cell? ⟨w.heap.size+1,k,ah⟩=V (aJ (nm k)):=by
    rw [hb.cell (p:=⟨w.heap.size+1,k,ah⟩) (by simp),ay _ _ _ _ (by simp)]; exact Mv k h7
   have b0:wr.cell? ⟨w.heap.size,0,ah⟩=V hv:=by
    rw [hb.cell (p:=⟨w.heap.size,0,ah⟩) (by simp),aF _ _ _ (by simp),ay _ _ _ _ rfl]; rfl
   have b1:wr.cell? ⟨w.heap.size,1,ah⟩=V vv:=by
    rw [hb.cell (p:=⟨w.heap.size,1,ah⟩) (by simp),aF _ _ _ (by simp),ay _ _ _ _ rfl]; rfl
   have IH:=J (HH.out.on BW.out);obtain⟨ao,SI,hsh⟩:=HH.out.shape;clear hb hown;subst hsh;subst hrl;have hkk:(k:Int)<7:=by omega
   by_cases h1:k<has.length
   ·obtain⟨y,hy⟩:∃ y,has[k]?=V y:=⟨_,aB h1⟩;have hg:has.getD k 0=y:=by rw [List.getD_eq_getElem?_getD,hy]; rfl
    obtain⟨_,p,_,hix,hpc⟩:=IH.out.at_ k y hy;cases ho:odd y
    ·have T:=J (show gN has vals (k+1)=gN has vals k by simp only [gN]; rw [if_neg]; rintro⟨_,h2,_⟩; rw [hg,ho] at h2; cases h2);have hodd:(bits BinOp.and U y 1 == 1)=false:=ho;clear ho hy hg;go_wp2
     go_roundw
     case rel=>exact⟨k+1,by omega,by go_num,by rw [T.out]; exact HO.out,HB.out⟩
     case measure=>simp [intOf]; omega
    ·have hodd:(bits BinOp.and U y 1 == 1)=true:=ho;by_cases h5:(gN has vals k).length<5
     ·have T:=J (show (gN has vals (k+1)).map r5=(gN has vals k).map r5++[r5 (nm k,mV (mJ vals k))] by simp only [gN]; rw [if_pos ⟨h1,by rw [hg,ho],h5⟩,List.map_append]; rfl);have PK:=J (fun (W:aG) (hW:Below w.heap.size w W)=>Fh vv vals k W (HW.out.on hW) LV.out (by omega));have bd:=Fj HW.out k;have KV:=J (fun W=>sD (nm k) (mJ vals k) W bd.1 bd.2);clear ho hy hg bd;go_wp2_with fail;refine (PK.out _ BW.out).mono ?_;rintro e1 w1 ⟨rfl,rfl⟩;go_wp2_with fail;refine (KV.out _).mono ?_;rintro e2 w2 ⟨rfl,hb2⟩;have B2:=J hb2;have O2:=J (dB HO.out hb2);have hs2:=hb2.size;clear hb2;generalize r5 (nm k,mV (mJ vals k))=c at T ⊢;have Rs:=J (O2.out.alloc (aD #[aJ c.1,Y U c.2.1,Y U c.2.2.1,Y U c.2.2.2.1,aJ c.2.2.2.2] 56));obtain⟨v3,w3,r3,o3,g3⟩:=kP Ib (w.heap.size+2) Rs.out (FI w2 c) (by simp; omega) (by simp) (by simp; omega) 35;have O3:=J o3;have hbel:Below (w.heap.size+2) wr w3:=((B2.out.mono hsz).alloc (by omega) _).grown g3 (by simp; omega) (fun j hj=>(Rs.out.lt j hj).1);have B3:=J (HB.out.trans hbel);clear o3 g3 hbel;go_wp2_with (first | (at_builtin; refine wpList_append_run rfl _ _ 35 rfl rfl rfl r3 ?_) | fail);clear r3;go_wp2
      go_roundw
      case rel=>exact⟨k+1,by omega,by go_num,by rw [T.out]; exact O3.out,B3.out⟩
      case measure=>simp [intOf]; omega
     ·have T:=J (show gN has vals (k+1)=gN has vals k by simp only [gN]; rw [if_neg]; rintro⟨_,_,h2⟩; exact h5 h2);clear ho hy hg;go_wp2
      go_roundw
      case rel=>exact⟨k+1,by omega,by go_num,by rw [T.out]; exact HO.out,HB.out⟩
      case measure=>simp [intOf]; omega
   ·have T:=J (show gN has vals (k+1)=gN has vals k by simp only [gN]; rw [if_neg]; rintro⟨h2,_⟩; exact h1 h2);go_wp2
    go_roundw
    case rel=>exact⟨k+1,by omega,by go_num,by rw [T.out]; exact HO.out,HB.out⟩
    case measure=>simp [intOf]; omega
  ·obtain rfl:k=7:=by omega
   clear hb hown;go_wp2;go_ret;exact⟨_,rfl,Eu (by omega) HO.out,BW.out⟩
end Pr
end Go.Proofs.Ytmklifheakemeaa
