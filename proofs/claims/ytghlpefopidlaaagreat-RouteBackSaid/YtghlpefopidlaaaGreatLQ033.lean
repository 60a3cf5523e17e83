/-
  slices.Insert of one. Conditions as told.
-/
import Derived.Test.YtghlpefopidlaaaGreatLQ030
set_option maxRecDepth 100000
set_option maxHeartbeats 64000000
open _root_.Go renaming World->aF,Value->aK,Calls->aN
open Go.Builtin renaming copy_->ay,append_->aL
open Go.Instr renaming sliceAt->ah
open Go.IntKind renaming i64->Z,wrap_i64->aJ
open Go.Lib renaming hid->aG
open Go.Obj renaming cells->aB
open Go.Operand renaming tmp->aA
open Go.Proofs.Tryz renaming prog->V,ntmps157->aH,func157->aI,func14->aM
open Go.Proofs.YtghlpefopidlaaaGreat.Wi renaming within->U
open Go.RowKit.Below renaming refl->ak
open Go.Value renaming slice->L,int->Y,pointer->aj,agg->aO
open _root_.List renaming getElem?_toArray->au,getElem?_cons_zero->aC,getElem?_cons_succ->aD
open _root_.Option renaming none->O,some->X
open Option.some renaming inj->J
namespace Go.Proofs.YtghlpefopidlaaaGreat
namespace Av
open Go.RowKit Rw YtghlpefopidlaaaGreat.Nm Pr Bk
theorem YU {W:aF} {b:Nat} {c:jk} (h:dK W b (jr c).toArray 67):mh W (L (X ⟨b,0,O⟩) 1 1) [c] :=
 Or.inr ⟨⟨b,0,O⟩,1,rfl,by simp,by decide,tu h (by simp [EN])⟩
def Dr (B:Nat) (l:List jk) (k:Nat) (c:jk) (vv:aK) (W:aF) (e:Ending) (w':aF):Prop:=∃ v',e=.returned v'/\jH w' B v' (l.take k++c::l.drop k)/\Below B W w'/\(∀ j,j<W.heap.size->X j≠vv.ownBlock->w'.heap[j]?=W.heap[j]?)
theorem Lp (B:Nat) (v:aK) (l:List jk) (c:jk) (b:Nat) (W:aF) (ho:jH W B v l) (hx:dK W b (jr c).toArray 67) (hl:l.length<=900) (hB:B<=W.heap.size) :
  aN V 157 #[v,Y Z (l.length:Nat),L (X ⟨b,0,O⟩) 1 1] W (Dr B l l.length c v W):=by
 obtain⟨v',w',hr,ho2,hg⟩:=gZ mM B ho (YU hx) (by omega) (by simp) hB 27;have hr:(aL #[27,27] 27 #[v,L (X ⟨b,0,O⟩) 1 1]).run V W=.ok v' w':=hr;have Q:=aG (show Dr B l l.length c v W (.returned v') w' from ⟨v',rfl,by rw [List.take_of_length_le (Nat.le_refl _),List.drop_of_length_le (Nat.le_refl _)]; exact ho2,(ak B W).grown hg hB (fun j hj=>(ho.lt j hj).1),fun j hj hne=>hg.block j hj hne⟩);obtain⟨sx,hs,_⟩:=qB mM (Row.dJ ho) l.length (Nat.le_refl _);have hs:∀ w,(ah 27 v (X (Y Z l.length)) O O).run V w=.ok sx w:=hs;obtain⟨ao,ac,rfl⟩:=(Row.dJ ho).len;clear ho ho2 hg;generalize hn:l.length=n at *;clear hn;go_enter aI,aH;go_wp2_with (first | (at_builtin; refine wpList_append_run rfl _ _ 27 rfl rfl rfl hr ?_) | fail);go_ret;exact Q.out
theorem YV (w:aF) (g b k la lb cb:Nat) (cur cs:Array aK) (hb:dK w b cs 67) (hg:dK w g cur 67) (hne:b≠g) (h0:0<cur.size):(callFunc 181 #[L (X ⟨b,0,O⟩) la 1,L (X ⟨g,k,O⟩) lb cb]).run V w=.ok (.value (.bool false)) w:=by
 rw [run_callFunc_extern Tryz.func181 (by kernel_rfl) (by kernel_rfl) (by kernel_rfl) (e:=Extern.SlicesOverlaps.overlaps #[27,27] #[4]) (by kernel_rfl),
  Lib.run_overlaps_apart w 27 4 67 Tryz.underlying27 7 Tryz.sizeOf67 ⟨b,0,O⟩ ⟨g,k,O⟩ la 1 lb cb hne 67 67 cs.size cur.size hb.shape hg.shape (by omega) (hb.fr 0) (hb.fr _)]
 rfl
theorem Fq (B g n cap:Nat) (cur:Array aK) (l:List jk) (k:Nat) (c:jk) (b:Nat) (W:aF) (hn:n=l.length) (hBg:B<=g) (hg:dK W g cur 67) (hcm:cap<=maxLen) (hsz:cur.size=cap * 7) (ht:cur.toList.take (n * 7)=flat EN l) (hx:dK W b (jr c).toArray 67) (hne:b≠g) (hk:k<n) (hroom:n+1<=cap) (hl:n<=900) :
  aN V 157 #[L (X ⟨g,0,O⟩) n cap,Y Z k,L (X ⟨b,0,O⟩) 1 1] W (Dr B l k c (L (X ⟨g,0,O⟩) n cap) W):=by
 obtain⟨R1,R2,r1,r2,ow⟩:=rW (E:=EN) (l:=l) (k:=k) (cap:=cap) (cur:=cur) (cs:=(jr c).toArray) (c:=c) mM (by omega) (by omega) hsz (by rw [<- hn]; exact ht) g b hne;have hov:=fun lb cb=>YV W g b ((k+1) * 7) 1 lb cb cur (jr c).toArray hx hg hne (by omega);have s0:=gY (E:=EN) mM g k n cap (by omega) (by omega);have s1:=jZ (E:=EN) mM ⟨g,0,O⟩ (n+1) n cap (by omega);have s2:=gY (E:=EN) mM g (k+1) (n+1) cap (by omega) (by omega);have s3:=gY (E:=EN) mM g k (n+1) cap (by omega) (by omega);have q1:=r1 W.drew 3 (n+1-(k+1)) (cap-(k+1)) (n+1-k) (cap-k) hg (by omega);have q2:=r2 (W.drew.setRow g R1) 3 (n+1-k) (cap-k) (dK.set (show dK W.drew g cur 67 from hg) R1) (dK.other (show dK W.drew b _ 67 from hx) hne R1) rfl (by omega);have Q:=aG (show Dr B l k c (L (X ⟨g,0,O⟩) n cap) W (.returned (L (X ⟨g,0,O⟩) (n+1) cap)) ((W.drew.setRow g R1).setRow g R2) from ⟨_,rfl,by rw [hn]; exact ow _ B hBg hcm (dK.set (dK.set (show dK W.drew g cur 67 from hg) R1) R2),below_setRow (below_setRow (ak B W).drew hBg _) hBg _,fun j hj hne=>(setRow_other _ g j _ (fun e=>hne (by rw [e]; rfl))).trans (setRow_other _ g j _ (fun e=>hne (by rw [e]; rfl)))⟩);clear r1 r2 ow hg ht hx hsz hBg hcm;change ∀ w,(ah 27 (L (X ⟨g,0,O⟩) n cap) (X (Y Z k)) O O).run V w=.ok (L (X ⟨g,k * 7,O⟩) (n-k) (cap-k)) w at s0;change ∀ w,(ah 27 (L (X ⟨g,0,O⟩) n cap) O (X (Y Z ((n:Int)+1))) O).run V w=.ok (L (X ⟨g,0,O⟩) (n+1) cap) w at s1;change ∀ w,(ah 27 (L (X ⟨g,0,O⟩) (n+1) cap) (X (Y Z ((k:Int)+1))) O O).run V w=.ok (L (X ⟨g,(k+1) * 7,O⟩) (n+1-(k+1)) (cap-(k+1))) w at s2;change ∀ w,(ah 27 (L (X ⟨g,0,O⟩) (n+1) cap) (X (Y Z k)) O O).run V w=.ok (L (X ⟨g,k * 7,O⟩) (n+1-k) (cap-k)) w at s3;have e1:((k:Int) == (n:Int))=false:=by rw [beq_eq_false_iff_ne]; omega
 have e2:decide ((cap:Int)<(n:Int)+1)=false:=by simp; omega
 change (ay #[27,27] 3 #[L (X ⟨g,(k+1) * 7,O⟩) (n+1-(k+1)) (cap-(k+1)),L (X ⟨g,k * 7,O⟩) (n+1-k) (cap-k)]).run V W.drew=.ok (Y Z ((l.length-k:Nat):Int)) (W.drew.setRow g R1) at q1;change (ay #[27,27] 3 #[L (X ⟨g,k * 7,O⟩) (n+1-k) (cap-k),L (X ⟨b,0,O⟩) 1 1]).run V (W.drew.setRow g R1)=.ok (Y Z 1) ((W.drew.setRow g R1).setRow g R2) at q2;clear hn;go_enter aI,aH;go_wp2_with (first | (simp only [hov]) | fail);clear hov s0 s1 s2 s3;have hw1:IntKind.i64.wrap ((k:Int)+1)=(k:Int)+1:=by rw [aJ]; omega
 have hb1:(0:Int)<=(k:Int)+1:=by omega
 have hb0:(k:Int)+1<=(n:Int)+1:=by omega
 have htn:((k:Int)+1).toNat=k+1:=by omega
 have hb2:¬ (cap=k+1):=by omega
 have hb3:(k:Int)<=(n:Int)+1:=by omega
 have hb4:¬ (cap=k):=by omega
 have h81:n+1-(k+1)=n-k:=by omega
 rw [h81] at q1;clear h81
 go_region_law (refine iP rfl (aA 73) (aA 76) 27 rfl (v:=L (X ⟨g,(k+1) * 7,O⟩) (n-k) (cap-(k+1))) (xv:=L (X ⟨g,k * 7,O⟩) (n+1-k) (cap-k)) (by simp [Act.eval,Act.put]) (by simp [Act.eval,Act.put]) q1 ?_)
 all_goals simp only [Exit.then]
 all_goals apply_assumption
 clear q1 hw1 hb1 hb0 htn hb2 hb3 hb4;have s3:=gY (E:=EN) mM g k (n+1) cap (by omega) (by omega);change ∀ w,(ah 27 (L (X ⟨g,0,O⟩) (n+1) cap) (X (Y Z k)) O O).run V w=.ok (L (X ⟨g,k * 7,O⟩) (n+1-k) (cap-k)) w at s3;go_wp2_with (first | (at_builtin; refine wpList_copy_run rfl _ _ 27 rfl rfl rfl q2 ?_) | fail);go_ret;exact Q.out
theorem Jv (B g n cap:Nat) (cur:Array aK) (l:List jk) (k:Nat) (c:jk) (b:Nat) (W:aF) (hn:n=l.length) (hg:dK W g cur 67) (hcm:cap<=maxLen) (hnc:n<=cap) (ht:cur.toList.take (n * 7)=flat EN l) (hx:dK W b (jr c).toArray 67) (hk:k<n) (hroom:cap<n+1) (hl:n<=900) (hB:B<=W.heap.size) :
  aN V 157 #[L (X ⟨g,0,O⟩) n cap,Y Z k,L (X ⟨b,0,O⟩) 1 1] W (Dr B l k c (L (X ⟨g,0,O⟩) n cap) W):=by
 have hgw:=hg.lt;have hbw:=hx.lt;obtain⟨G,R1,R2,R3,hG1,hG2,r1,r2,r3,ow⟩:=uS (E:=EN) (l:=l) (k:=k) (cap:=cap) (cur:=cur) (cs:=(jr c).toArray) (c:=c) mM 3 Tryz.underlying3 (by omega) (by omega) (by omega) (by omega) (by rw [<- hn]; exact ht) W g b hg hbw;unfold maxLen at hcm hG2;have s0:=gY (E:=EN) mM g k n cap (by omega) (by omega);have s1:=jZ (E:=EN) mM ⟨g,0,O⟩ k n cap (by omega);have s2:=gY (E:=EN) mM W.heap.size k (n+1) G (by omega) (by omega);have s3:=gY (E:=EN) mM W.heap.size (k+1) (n+1) G (by omega) (by omega);have a1:=r1 27;have n1:=dQ W.drew R1 67;have bl:W.drew.heap.size=W.heap.size:=rfl;rw [bl] at n1;have g1:dK (W.drew.alloc (aB R1 67)) g cur 67:=dK.more (show dK W.drew g cur 67 from hg) _;have x1:dK (W.drew.alloc (aB R1 67)) b (jr c).toArray 67:=dK.more (show dK W.drew b _ 67 from hx) _;have q2:=r2 (W.drew.alloc (aB R1 67)) 3 (n+1-k) (G-k) n1 x1 rfl (by omega);have q3:=r3 ((W.drew.alloc (aB R1 67)).setRow W.heap.size R2).drew 3 (n+1-(k+1)) (G-(k+1)) (n-k) (cap-k) (dK.set n1 R2) (dK.other g1 (by omega) R2) (by omega);have Q:=aG (show Dr B l k c (L (X ⟨g,0,O⟩) n cap) W (.returned (L (X ⟨W.heap.size,0,O⟩) (n+1) G)) (((W.drew.alloc (aB R1 67)).setRow W.heap.size R2).drew.setRow W.heap.size R3) from ⟨_,rfl,by rw [hn]; exact ow _ B hB (dK.set (dK.set n1 R2) R3),below_setRow (below_setRow ((ak B W).drew.alloc hB _) hB _).drew hB _,fun j hj _=>(setRow_other _ W.heap.size j _ (by omega)).trans ((setRow_other _ W.heap.size j _ (by omega)).trans (Array.getElem?_push_lt hj |>.trans (Array.getElem?_eq_getElem hj).symm))⟩);have l1:l.length+1=n+1:=by rw [hn]
 rw [l1,<- hn] at a1;clear r1 r2 r3 ow hg ht hx g1 x1 n1 bl l1;change ∀ w,(ah 27 (L (X ⟨g,0,O⟩) n cap) (X (Y Z k)) O O).run V w=.ok (L (X ⟨g,k * 7,O⟩) (n-k) (cap-k)) w at s0;change ∀ w,(ah 27 (L (X ⟨g,0,O⟩) n cap) O (X (Y Z k)) O).run V w=.ok (L (X ⟨g,0,O⟩) k cap) w at s1;change ∀ w,(ah 27 (L (X ⟨W.heap.size,0,O⟩) (n+1) G) (X (Y Z k)) O O).run V w=.ok (L (X ⟨W.heap.size,k * 7,O⟩) (n+1-k) (G-k)) w at s2;change ∀ w,(ah 27 (L (X ⟨W.heap.size,0,O⟩) (n+1) G) (X (Y Z ((k:Int)+1))) O O).run V w=.ok (L (X ⟨W.heap.size,(k+1) * 7,O⟩) (n+1-(k+1)) (G-(k+1))) w at s3;change (aL #[27,3] 27 #[L (X ⟨g,0,O⟩) k cap,Y Z ((n:Int)+1-k)]).run V W=.ok (L (X ⟨W.heap.size,0,O⟩) (n+1) G) (W.drew.alloc (aB R1 67)) at a1;change (ay #[27,27] 3 #[L (X ⟨W.heap.size,k * 7,O⟩) (n+1-k) (G-k),L (X ⟨b,0,O⟩) 1 1]).run V (W.drew.alloc (aB R1 67))=.ok (Y Z 1) ((W.drew.alloc (aB R1 67)).setRow W.heap.size R2) at q2;change (ay #[27,27] 3 #[L (X ⟨W.heap.size,(k+1) * 7,O⟩) (n+1-(k+1)) (G-(k+1)),L (X ⟨g,k * 7,O⟩) (n-k) (cap-k)]).run V ((W.drew.alloc (aB R1 67)).setRow W.heap.size R2).drew=.ok (Y Z ((l.length-k:Nat):Int)) (((W.drew.alloc (aB R1 67)).setRow W.heap.size R2).drew.setRow W.heap.size R3) at q3;have e1:((k:Int) == (n:Int))=false:=by rw [beq_eq_false_iff_ne]; omega
 have e2:decide ((cap:Int)<(n:Int)+1)=true:=by simp; omega
 have hGn:n+1<=G:=by omega
 clear hn;generalize W.heap.size=N at *;generalize W.drew.alloc (aB R1 67)=W1 at *;generalize W1.setRow N R2=W2 at *;go_enter aI,aH;go_wp2_with (first | (at_builtin; refine jf rfl _ _ 27 3 rfl rfl rfl a1 ?_) | (at_builtin; refine wpList_copy_run rfl _ _ 27 rfl rfl rfl q2 ?_) | fail);clear a1 q2 s0 s1 s2 s3;have hw1:IntKind.i64.wrap ((k:Int)+1)=(k:Int)+1:=by rw [aJ]; omega
 have hb1:(0:Int)<=(k:Int)+1:=by omega
 have hb0:(k:Int)+1<=(n:Int)+1:=by omega
 have htn:((k:Int)+1).toNat=k+1:=by omega
 have hb2:¬ (G=k+1):=by omega
 have hb3:(k:Int)<=(n:Int):=by omega
 have hb4:¬ (cap=k):=by omega
 have h81:n+1-(k+1)=n-k:=by omega
 rw [h81] at q3;clear h81
 go_region_law (refine iP rfl (aA 50) (aA 53) 27 rfl (v:=L (X ⟨N,(k+1) * 7,O⟩) (n-k) (G-(k+1))) (xv:=L (X ⟨g,k * 7,O⟩) (n-k) (cap-k)) (by simp [Act.eval,Act.put]) (by simp [Act.eval,Act.put]) q3 ?_)
 all_goals simp only [Exit.then]
 all_goals apply_assumption
 go_wp2;go_ret;exact Q.out
theorem Af (B:Nat) (v:aK) (l:List jk) (k:Nat) (c:jk) (b:Nat) (W:aF) (ho:jH W B v l) (hx:dK W b (jr c).toArray 67) (hne:v.ownBlock≠X b) (hk:k<=l.length) (hl:l.length<=900) (hB:B<=W.heap.size) :
  aN V 157 #[v,Y Z k,L (X ⟨b,0,O⟩) 1 1] W (Dr B l k c v W):=by
 rcases Nat.lt_or_ge k l.length with h|h
 ·rcases gB ho with⟨_,h2⟩|⟨g,cap,cur,rfl,h1,h2,h3,h4,h5,h6⟩
  ·rw [h2] at h; simp at h
  ·rcases Nat.lt_or_ge cap (l.length+1) with h7|h7
   ·exact Jv B g _ cap cur l k c b W rfl h2 h4 h3 h6 hx h h7 hl hB
   ·exact Fq B g _ cap cur l k c b W rfl h1 h2 h4 h5 h6 hx (fun e=>hne (by simp [Value.ownBlock,e])) h h7 hl
 ·obtain rfl:k=l.length:=by omega
  exact Lp B v l c b W ho hx hl hB
end Av
namespace Av
open Go.RowKit Go.Sort Rw YtghlpefopidlaaaGreat.Nm Pr Bk
def akm (_:Nat) (bq:Nat) (_ _ _ z3 z4:Int) (_:Option Addr) (_ _:Nat) (_:Option Addr) (_ _:Nat) (i:Nat) (v:aK) (_:aF):Prop :=
 match i with
 | 0=>v=aj (X ⟨bq,3,O⟩)
 | 1=>v=Y Z z3
 | 2=>v=Y Z (U z3 0 4)
 | 3=>v=aj (X ⟨bq,4,O⟩)
 | 4=>v=Y Z z4
 | 5=>v=Y Z (U z4 0 2)
 | 6=>v=aO #[Y Z (U z3 0 4),Y Z (U z4 0 2)]
 | 7=>True
 | 8=>True
 | _=>True
noncomputable def aef:Code:=((Tryz.f13.body.bind (eO 12)).getD .skip)
theorem anu (Q:Exit->Act->aF->Prop) (W:aF) (bq:Nat) (z0 z1 z2 z3 z4:Int) (h1:Option Addr) (h2 h3:Nat) (g1:Option Addr) (g2 g3:Nat) (d5 d7 d9 dA dC dE dS k9 T a0 a3 a4 a5 a6 a7 a8 aE b9 bJ bQ c7 c8 c9 cA cC cD cF cG cH cI cJ cL cM cN cP cQ cR cS cT cU cV cW cX cY d1 kA kB kO kV kX l0 lA dT e7 e9 eA eB eC eE eI eJ eK eL eM eN eQ eS eV eW f7 f8 f9 fL fN fP fR fS fW fX fY g0 g6 g9 gE gO gR gS hG hH hJ hL hM hO hS hT hU hW hX hY hZ i0 i3 i4 i5 i6 i7 i8 i9 iF iS j0 j2 j3 j4 j5 j6 j7 j8 j9 jV k6 k7 k8:aK)
  (q:dK W bq #[Y Z z0,Y Z z1,Y Z z2,Y Z z3,Y Z z4,L h1 h2 h3,L g1 g2 g3] 63) (d3:-9223372036854775808<=z3/\z3<=9223372036854775807) (d4:-9223372036854775808<=z4/\z4<=9223372036854775807)
  (hQ:∀ (x:aF) (bb:Nat) (lB lD lE lF lL lO lP:aK),W.heap.size<=bb->dK x bb #[Y Z (U z3 0 4),Y Z (U z4 0 2)] 23->Below W.heap.size W x->Q .normal ⟨(d5::d7::d9::dA::dC::dE::aj (X ⟨bq,0,O⟩)::dS::aj (X ⟨bb,0,O⟩)::T::a0::a3::a4::a5::a6::a7::a8::aE::b9::bJ::bQ::c7::c8::c9::cA::cC::cD::cF::cG::cH::cI::cJ::cL::cM::cN::cP::cQ::cR::cS::cT::cU::cV::cW::cX::cY::d1::lB::lD::lE::lF::lL::lO::lP::dT::e7::e9::eA::eB::eC::eE::eI::eJ::eK::eL::eM::eN::eQ::eS::eV::eW::f7::f8::f9::fL::fN::fP::fR::fS::fW::fX::fY::g0::g6::g9::gE::gO::gR::gS::hG::hH::hJ::hL::hM::hO::hS::hT::hU::hW::hX::hY::hZ::i0::i3::i4::i5::i6::i7::i8::i9::iF::iS::j0::j2::j3::j4::j5::j6::j7::j8::j9::jV::k6::k7::k8::[]).toArray,[]⟩ x) :
  Code.wp V aef Q ⟨(d5::d7::d9::dA::dC::dE::aj (X ⟨bq,0,O⟩)::dS::k9::T::a0::a3::a4::a5::a6::a7::a8::aE::b9::bJ::bQ::c7::c8::c9::cA::cC::cD::cF::cG::cH::cI::cJ::cL::cM::cN::cP::cQ::cR::cS::cT::cU::cV::cW::cX::cY::d1::kA::kB::kO::kV::kX::l0::lA::dT::e7::e9::eA::eB::eC::eE::eI::eJ::eK::eL::eM::eN::eQ::eS::eV::eW::f7::f8::f9::fL::fN::fP::fR::fS::fW::fX::fY::g0::g6::g9::gE::gO::gR::gS::hG::hH::hJ::hL::hM::hO::hS::hT::hU::hW::hX::hY::hZ::i0::i3::i4::i5::i6::i7::i8::i9::iF::iS::j0::j2::j3::j4::j5::j6::j7::j8::j9::jV::k6::k7::k8::[]).toArray,[]⟩ W:=by
 have HQ:=aG hQ;have HQ6:=aG q;have D3:=aG d3;have D4:=aG d4;clear hQ q d3 d4;unfold aef
 conv=>arg 2; whnf
 have nb6:∀ i,i<9->[46,47,48,49,50,51,52,8,8].getD i 0≠6:=by decide
 refine Rg.vZ 9 7 8 6 (fun i=>[46,47,48,49,50,51,52,8,8].getD i 0) (fun i=>9) (akm W.heap.size bq z0 z1 z2 z3 z4 h1 h2 h3 g1 g2 g3) 23 #[Y Z 0,Y Z 0] (fun v=>match v with | aO c=>c | _=>#[]) (by kernel_rfl) (by kernel_rfl) rfl (by decide) (by decide) (by decide) (by decide) (by decide) (by decide) (by decide) (fun i j hi hj h1 h2 h=>(by decide:∀ i,i<9->∀ j,j<9->i≠8->j≠8->[46,47,48,49,50,51,52,8,8].getD i 0=[46,47,48,49,50,51,52,8,8].getD j 0->i=j) i hi j hj h1 h2 h) (fun i hi=>(by decide:∀ i,i<9->[46,47,48,49,50,51,52,8,8].getD i 0<124) i hi) ?_ ?_ ?_ ?_ ?_ ?_
 ·intro i v x x' hi h hb;rcases (by omega:i=0\/i=1\/i=2\/i=3\/i=4\/i=5\/i=6\/i=7\/i=8) with rfl|rfl|rfl|rfl|rfl|rfl|rfl|rfl|rfl
  ·exact h
  ·exact h
  ·exact h
  ·exact h
  ·exact h
  ·exact h
  ·exact h
  ·exact h
  ·exact h
 ·intro o ho;cases ho;exact⟨⟨⟨7,.data⟩,by simp,rfl,rfl⟩,⟨⟨6,.data⟩,by simp,rfl,rfl⟩⟩
 ·intro i o hi hiA Bl ho a x hb seen K hK;clear HQ;rcases (by omega:i=0\/i=1\/i=2\/i=3\/i=4\/i=5\/i=6) with rfl|rfl|rfl|rfl|rfl|rfl|rfl
  ·cases ho;have e6:a.eval (aA 6)=aj (X ⟨bq,0,O⟩):=seen.kp 6 _ nb6 rfl;exact Rg.dG rfl rfl (Rg.dW a.eval _ 63 (aA 6) 3 rfl (by rw [e6]; simp [go_sem])) (hK _ x rfl (ak _ _))
  ·cases ho;have e46:a.eval (aA 46)=aj (X ⟨bq,3,O⟩):=seen.at_ ⟨0,.data⟩ (by simp) rfl (by decide) (by decide) (Or.inr (by decide));have y3:=(HQ6.out.on hb).cell 3;simp only [au,aC,aD] at y3;exact Rg.dG rfl rfl (Rg.dU a.eval _ 3 (aA 46) rfl (by rw [e46]; simp [go_sem,y3])) (hK _ x rfl (ak _ _))
  ·cases ho;have e47:a.eval (aA 47)=Y Z z3:=seen.at_ ⟨1,.data⟩ (by simp) rfl (by decide) (by decide) (Or.inr (by decide));exact Rg.gP rfl rfl (Rg.Ca a.eval _ (aA 47) (.const (Y Z 0)) (.const (Y Z 4)) 3 14 rfl e47 rfl rfl rfl _ (fV aM rfl rfl _ _)) (Wi.kD z3 0 4 x (by omega) (by omega) (by omega) D3.out.1 D3.out.2) fun e w1 h=>by
    obtain⟨rfl,rfl⟩:=h;exact⟨_,rfl,hK _ _ rfl (ak _ _)⟩
  ·cases ho;have e6:a.eval (aA 6)=aj (X ⟨bq,0,O⟩):=seen.kp 6 _ nb6 rfl;exact Rg.dG rfl rfl (Rg.dW a.eval _ 63 (aA 6) 4 rfl (by rw [e6]; simp [go_sem])) (hK _ x rfl (ak _ _))
  ·cases ho;have e49:a.eval (aA 49)=aj (X ⟨bq,4,O⟩):=seen.at_ ⟨3,.data⟩ (by simp) rfl (by decide) (by decide) (Or.inr (by decide));have y4:=(HQ6.out.on hb).cell 4;simp only [au,aC,aD] at y4;exact Rg.dG rfl rfl (Rg.dU a.eval _ 3 (aA 49) rfl (by rw [e49]; simp [go_sem,y4])) (hK _ x rfl (ak _ _))
  ·cases ho;have e50:a.eval (aA 50)=Y Z z4:=seen.at_ ⟨4,.data⟩ (by simp) rfl (by decide) (by decide) (Or.inr (by decide));exact Rg.gP rfl rfl (Rg.Ca a.eval _ (aA 50) (.const (Y Z 0)) (.const (Y Z 2)) 3 14 rfl e50 rfl rfl rfl _ (fV aM rfl rfl _ _)) (Wi.kD z4 0 2 x (by omega) (by omega) (by omega) D4.out.1 D4.out.2) fun e w1 h=>by
    obtain⟨rfl,rfl⟩:=h;exact⟨_,rfl,hK _ _ rfl (ak _ _)⟩
  ·cases ho;have e48:a.eval (aA 48)=Y Z (U z3 0 4):=seen.at_ ⟨2,.data⟩ (by simp) rfl (by decide) (by decide) (Or.inr (by decide));have e51:a.eval (aA 51)=Y Z (U z4 0 2):=seen.at_ ⟨5,.data⟩ (by simp) rfl (by decide) (by decide) (Or.inr (by decide));exact Rg.dG rfl rfl (Rg.jg a.eval _ 23 #[(0,aA 48),(1,aA 51)] rfl (ps:=#[(0,Y Z (U z3 0 4)),(1,Y Z (U z4 0 2))]) (by simp only [List.map_toArray,List.map_cons,List.map_nil,e48,e51]) (by simp [go_sem])) (hK _ x rfl (ak _ _))
 ·intro o ho a x K hK;cases ho;exact Rg.dG rfl rfl (Rg.xU a.eval _ 23 rfl (by simp [go_sem])) hK
 ·intro o ho a x bb v D hc hD hb hA hC Jr hbb ku K hK;clear HQ;cases ho;have hv:v=aO #[Y Z (U z3 0 4),Y Z (U z4 0 2)]:=Jr;subst hv;obtain⟨x0,x1⟩:=ku.cs2;obtain⟨f0,f1⟩:=ku.fs2;have hst:(Instr.storeAt 23 (aj (X ⟨bb,0,O⟩)) (aO #[Y Z (U z3 0 4),Y Z (U z4 0 2)])).run V x=.ok () ((x.setCell ⟨bb,0,O⟩ (Y Z (U z3 0 4))).setCell ⟨bb,1,O⟩ (Y Z (U z4 0 2))):=by simp [go_sem,x0,x1,f0,f1]
  have aif:=eu (k:=1) (eu (k:=0) ku (Y Z (U z3 0 4))) (Y Z (U z4 0 2));refine Rg.gu 23 (aA 8) (aA 52) rfl rfl rfl rfl hA hC hst (hK _ ((hb.setCell (p:=⟨bb,0,O⟩) hbb _).setCell (p:=⟨bb,1,O⟩) hbb _) (by simpa using aif) ?_);exact fun j u hj hjA hjS hdj hnl hls h=>by
   rcases (by omega:j=0\/j=1\/j=2\/j=3\/j=4\/j=5\/j=6) with rfl|rfl|rfl|rfl|rfl|rfl|rfl
   ·have h2:u=aj (X ⟨bq,3,O⟩):=h; exact h2
   ·have h2:u=Y Z z3:=h; exact h2
   ·have h2:u=Y Z (U z3 0 4):=h; exact h2
   ·have h2:u=aj (X ⟨bq,4,O⟩):=h; exact h2
   ·have h2:u=Y Z z4:=h; exact h2
   ·have h2:u=Y Z (U z4 0 2):=h; exact h2
   ·have h2:u=aO #[Y Z (U z3 0 4),Y Z (U z4 0 2)]:=h; exact h2
 ·intro a x bb v df sz kp gA gC hbb ku Jr hbel ⟨vs,hv⟩;have hv9:v=aO #[Y Z (U z3 0 4),Y Z (U z4 0 2)]:=Jr;subst hv9;have g8:a.tmps[8]?=X (aj (X ⟨bb,0,O⟩)):=gA;have rJ:∀ j,(j<8\/53<=j)->a.tmps[j]?=(d5::d7::d9::dA::dC::dE::aj (X ⟨bq,0,O⟩)::dS::k9::T::a0::a3::a4::a5::a6::a7::a8::aE::b9::bJ::bQ::c7::c8::c9::cA::cC::cD::cF::cG::cH::cI::cJ::cL::cM::cN::cP::cQ::cR::cS::cT::cU::cV::cW::cX::cY::d1::kA::kB::kO::kV::kX::l0::lA::dT::e7::e9::eA::eB::eC::eE::eI::eJ::eK::eL::eM::eN::eQ::eS::eV::eW::f7::f8::f9::fL::fN::fP::fR::fS::fW::fX::fY::g0::g6::g9::gE::gO::gR::gS::hG::hH::hJ::hL::hM::hO::hS::hT::hU::hW::hX::hY::hZ::i0::i3::i4::i5::i6::i7::i8::i9::iF::iS::j0::j2::j3::j4::j5::j6::j7::j8::j9::jV::k6::k7::k8::[])[j]?:=fun j hj=>(kp j (fun i hi h=>by have:=(by decide:∀ i,i<9->8<=[46,47,48,49,50,51,52,8,8].getD i 0/\[46,47,48,49,50,51,52,8,8].getD i 0<53) i hi; omega)).trans au;obtain⟨mid,hmid,rfl⟩:=Rg.gM 8 45 df sz (by simp) rJ
  match mid,hmid with
  | lR::lX::m0::mA::mB::mC::mD::mJ::mL::mN::mP::mS::mT::mY::n0::nA::nB::nF::nJ::nL::nP::nQ::nS::nV::nW::o6::o9::oA::oE::oM::oT::oX::oY::p0::p6::p7::p9::pA::lB::lD::lE::lF::lL::lO::lP::[],_ =>
   obtain rfl:lR=aj (X ⟨bb,0,O⟩):=J g8;obtain rfl:lX=T:=J (kp 9 (fun i hi h=>(by decide:∀ i,i<9->[46,47,48,49,50,51,52,8,8].getD i 0≠9) i hi h));obtain rfl:m0=a0:=J (kp 10 (fun i hi h=>(by decide:∀ i,i<9->[46,47,48,49,50,51,52,8,8].getD i 0≠10) i hi h));obtain rfl:mA=a3:=J (kp 11 (fun i hi h=>(by decide:∀ i,i<9->[46,47,48,49,50,51,52,8,8].getD i 0≠11) i hi h));obtain rfl:mB=a4:=J (kp 12 (fun i hi h=>(by decide:∀ i,i<9->[46,47,48,49,50,51,52,8,8].getD i 0≠12) i hi h));obtain rfl:mC=a5:=J (kp 13 (fun i hi h=>(by decide:∀ i,i<9->[46,47,48,49,50,51,52,8,8].getD i 0≠13) i hi h));obtain rfl:mD=a6:=J (kp 14 (fun i hi h=>(by decide:∀ i,i<9->[46,47,48,49,50,51,52,8,8].getD i 0≠14) i hi h));obtain rfl:mJ=a7:=J (kp 15 (fun i hi h=>(by decide:∀ i,i<9->[46,47,48,49,50,51,52,8,8].getD i 0≠15) i hi h));obtain rfl:mL=a8:=J (kp 16 (fun i hi h=>(by decide:∀ i,i<9->[46,47,48,49,50,51,52,8,8].getD i 0≠16) i hi h));obtain rfl:mN=aE:=J (kp 17 (fun i hi h=>(by decide:∀ i,i<9->[46,47,48,49,50,51,52,8,8].getD i 0≠17) i hi h));obtain rfl:mP=b9:=J (kp 18 (fun i hi h=>(by decide:∀ i,i<9->[46,47,48,49,50,51,52,8,8].getD i 0≠18) i hi h));obtain rfl:mS=bJ:=J (kp 19 (fun i hi h=>(by decide:∀ i,i<9->[46,47,48,49,50,51,52,8,8].getD i 0≠19) i hi h));obtain rfl:mT=bQ:=J (kp 20 (fun i hi h=>(by decide:∀ i,i<9->[46,47,48,49,50,51,52,8,8].getD i 0≠20) i hi h));obtain rfl:mY=c7:=J (kp 21 (fun i hi h=>(by decide:∀ i,i<9->[46,47,48,49,50,51,52,8,8].getD i 0≠21) i hi h));obtain rfl:n0=c8:=J (kp 22 (fun i hi h=>(by decide:∀ i,i<9->[46,47,48,49,50,51,52,8,8].getD i 0≠22) i hi h));obtain rfl:nA=c9:=J (kp 23 (fun i hi h=>(by decide:∀ i,i<9->[46,47,48,49,50,51,52,8,8].getD i 0≠23) i hi h));obtain rfl:nB=cA:=J (kp 24 (fun i hi h=>(by decide:∀ i,i<9->[46,47,48,49,50,51,52,8,8].getD i 0≠24) i hi h));obtain rfl:nF=cC:=J (kp 25 (fun i hi h=>(by decide:∀ i,i<9->[46,47,48,49,50,51,52,8,8].getD i 0≠25) i hi h));obtain rfl:nJ=cD:=J (kp 26 (fun i hi h=>(by decide:∀ i,i<9->[46,47,48,49,50,51,52,8,8].getD i 0≠26) i hi h));obtain rfl:nL=cF:=J (kp 27 (fun i hi h=>(by decide:∀ i,i<9->[46,47,48,49,50,51,52,8,8].getD i 0≠27) i hi h));obtain rfl:nP=cG:=J (kp 28 (fun i hi h=>(by decide:∀ i,i<9->[46,47,48,49,50,51,52,8,8].getD i 0≠28) i hi h));obtain rfl:nQ=cH:=J (kp 29 (fun i hi h=>(by decide:∀ i,i<9->[46,47,48,49,50,51,52,8,8].getD i 0≠29) i hi h));obtain rfl:nS=cI:=J (kp 30 (fun i hi h=>(by decide:∀ i,i<9->[46,47,48,49,50,51,52,8,8].getD i 0≠30) i hi h));obtain rfl:nV=cJ:=J (kp 31 (fun i hi h=>(by decide:∀ i,i<9->[46,47,48,49,50,51,52,8,8].getD i 0≠31) i hi h));obtain rfl:nW=cL:=J (kp 32 (fun i hi h=>(by decide:∀ i,i<9->[46,47,48,49,50,51,52,8,8].getD i 0≠32) i hi h));obtain rfl:o6=cM:=J (kp 33 (fun i hi h=>(by decide:∀ i,i<9->[46,47,48,49,50,51,52,8,8].getD i 0≠33) i hi h));obtain rfl:o9=cN:=J (kp 34 (fun i hi h=>(by decide:∀ i,i<9->[46,47,48,49,50,51,52,8,8].getD i 0≠34) i hi h));obtain rfl:oA=cP:=J (kp 35 (fun i hi h=>(by decide:∀ i,i<9->[46,47,48,49,50,51,52,8,8].getD i 0≠35) i hi h));obtain rfl:oE=cQ:=J (kp 36 (fun i hi h=>(by decide:∀ i,i<9->[46,47,48,49,50,51,52,8,8].getD i 0≠36) i hi h));obtain rfl:oM=cR:=J (kp 37 (fun i hi h=>(by decide:∀ i,i<9->[46,47,48,49,50,51,52,8,8].getD i 0≠37) i hi h));obtain rfl:oT=cS:=J (kp 38 (fun i hi h=>(by decide:∀ i,i<9->[46,47,48,49,50,51,52,8,8].getD i 0≠38) i hi h));obtain rfl:oX=cT:=J (kp 39 (fun i hi h=>(by decide:∀ i,i<9->[46,47,48,49,50,51,52,8,8].getD i 0≠39) i hi h));obtain rfl:oY=cU:=J (kp 40 (fun i hi h=>(by decide:∀ i,i<9->[46,47,48,49,50,51,52,8,8].getD i 0≠40) i hi h));obtain rfl:p0=cV:=J (kp 41 (fun i hi h=>(by decide:∀ i,i<9->[46,47,48,49,50,51,52,8,8].getD i 0≠41) i hi h));obtain rfl:p6=cW:=J (kp 42 (fun i hi h=>(by decide:∀ i,i<9->[46,47,48,49,50,51,52,8,8].getD i 0≠42) i hi h));obtain rfl:p7=cX:=J (kp 43 (fun i hi h=>(by decide:∀ i,i<9->[46,47,48,49,50,51,52,8,8].getD i 0≠43) i hi h));obtain rfl:p9=cY:=J (kp 44 (fun i hi h=>(by decide:∀ i,i<9->[46,47,48,49,50,51,52,8,8].getD i 0≠44) i hi h));obtain rfl:pA=d1:=J (kp 45 (fun i hi h=>(by decide:∀ i,i<9->[46,47,48,49,50,51,52,8,8].getD i 0≠45) i hi h));exact HQ.out x bb _ _ _ _ _ _ _ hbb ku hbel
end Av
end Go.Proofs.YtghlpefopidlaaaGreat
