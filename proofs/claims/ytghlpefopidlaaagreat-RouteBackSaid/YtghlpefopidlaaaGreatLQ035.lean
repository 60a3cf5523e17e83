/-
  The last region of O. Conditions as told.
-/
import Derived.Test.YtghlpefopidlaaaGreatLQ028
import Derived.Test.YtghlpefopidlaaaGreatLQ029
set_option maxRecDepth 100000
set_option maxHeartbeats 64000000
open Go.IntKind renaming i64->V
open Go.Lib renaming hid->O
open Go.Obj renaming cells->aA
open Go.Operand renaming tmp->ak
open Go.Value renaming slice->J,int->U,pointer->Z,bool->aB,agg->aD
open _root_.Nat renaming le_trans->aj,lt_of_lt_of_le->ay,le_of_lt->aC
open _root_.Option renaming some->L,none->ah
open _root_.Or renaming inr->au,inl->aF
namespace Go.Proofs.YtghlpefopidlaaaGreat
namespace Bk
open Go.RowKit Go.Sort Rw YtghlpefopidlaaaGreat.Nm Pr
def oV (W:Nat) (bv:Value) (c d c2 d2:Int) (av:Value) (ki:Nat) (p:Addr) (jh:Int) (po:Option Addr) (pn pc:Nat) (fr:Int) (up:Bool) (b3 b5:Nat) (i:Nat) (v:Value) (x:World):Prop :=
 match i with
 | 0=>v=bv
 | 1=>v=Z (L ⟨b3,2,ah⟩)
 | 2=>v=av
 | 3=>v=bv
 | 4=>v=Z (L ⟨b5,1,ah⟩)
 | 5=>v=nC (c,d)
 | 6=>v=U V (ki:Int)
 | 7=>v=Z (L p)
 | 8=>v=Z (L ⟨p.block,p.off+3,ah⟩)
 | 9=>v=U V jh
 | 10=>v=qO (c,d,c2,d2,(po,pn,pc),fr,up)
 | 11=>v=aD #[U V 3,U V c,U V d,U V c2,U V d2,J po pn pc,J ah 0 0]
 | 12=>v=uZ (jh,3,c,d,c2,d2,(po,pn,pc),(ah,0,0))
 | 13=>jX x W v [(jh,3,c,d,c2,d2,(po,pn,pc),(ah,0,0))]
 | 15=>jX x W v [(jh,3,c,d,c2,d2,(po,pn,pc),(ah,0,0))]
 | _=>True
def oF (W:World) (b6:Nat) (bc:Array Value) (D:Nat->Prop) (x:World):Prop :=
 (∀ j,j<W.heap.size->j≠b6->x.heap[j]?=W.heap[j]?)/\(∀ B,B<=b6->Below B W x)/\(¬ D 14->Below W.heap.size W x)/\(D 14->dK x b6 bc 30)/\W.heap.size<=x.heap.size
noncomputable def aeh:Code:=((Tryz.f19.body.bind (eO 5)).getD .skip)
theorem aiu (Q:Exit->Act->World->Prop) (W:World) (b3 b5 b6 b8:Nat) (me mk c d c2 d2 fr jh:Int) (up:Bool) (o1 o2 o3 o4 o5:Option Addr) (n1 k1 n2 k2 n3 k3 n4 k4 n5 k5:Nat) (po qo:Option Addr) (pn pc qn qc:Nat) (ad:List kY) (ki:Nat) (p:Addr) (z0 z1 z2 z3 z4 z5:Value) (T a0 a3 a4 a5 a6 a7 a8 aE b9 bJ bQ c7 c8 c9 cA cC cD cF cG cH cI cJ cL cM cN cP cQ cR cS cT cU cV cW cX cY d1:Value)
  (h3:dK W b3 #[U V me,J o1 n1 k1,J o2 n2 k2,J o3 n3 k3,J o4 n4 k4,J o5 n5 k5] 30) (h5:dK W b5 #[U V mk,U V c,U V d,U V c2,U V d2,J po pn pc,J qo qn qc] 43) (h6:dK W b6 #[z0,z1,z2,z3,z4,z5] 30) (h8:dK W b8 #[U V c,U V d,U V c2,U V d2,J po pn pc,U V fr,aB up] 67) (n3_:b3≠b6) (n5_:b5≠b6) (n8_:b8≠b6) (hd:xQ W (J o2 n2 k2) ad) (fk:fO (ad.map fun y=>(y.1,y.2.1)) (c,d)=ki) (ix:∀ w,(Instr.indexAt 25 (J o2 n2 k2) (U V (ki:Int))).run Tryz.prog w=.ok (Z (L p)) w) (px:W.cell? ⟨p.block,p.off+3,ah⟩=L (U V jh)) (pl:p.block<W.heap.size) (pn_:p.block≠b6)
  (hQ:∀ (a:Act) (x:World) (sl:Sl),a.defers=[]->a.tmps[6]?=L (Z (L ⟨b6,0,ah⟩))->a.tmps[7]?=L (dX sl)->dK x b6 #[U V me,J o1 n1 k1,J o2 n2 k2,J o3 n3 k3,J o4 n4 k4,J o5 n5 k5] 30->jX x W.heap.size (dX sl) [(jh,3,c,d,c2,d2,(po,pn,pc),(ah,0,0))]->(∀ k,k<W.heap.size->k≠b6->x.heap[k]?=W.heap[k]?)->(∀ B,B<=b6->Below B W x)->Q .normal a x) :
  Code.wp Tryz.prog aeh Q ⟨(T::a0::a3::Z (L ⟨b3,0,ah⟩)::a4::Z (L ⟨b5,0,ah⟩)::Z (L ⟨b6,0,ah⟩)::a5::Z (L ⟨b8,0,ah⟩)::a6::a7::a8::aE::b9::bJ::bQ::c7::c8::c9::cA::cC::cD::cF::cG::cH::cI::cJ::cL::cM::cN::cP::cQ::cR::cS::cT::cU::cV::cW::cX::cY::d1::[]).toArray,[]⟩ W:=by
 have HQ:=O hQ;have H3:=O h3;have H5:=O h5;have H6:=O h6;have H8:=O h8;have N3:=O n3_;have N5:=O n5_;have N8:=O n8_;have HD:=O hd;have FK:=O fk;have IX:=O ix;have PX:=O px;have PL:=O pl;have PN:=O pn_;clear hQ h3 h5 h6 h8 n3_ n5_ n8_ hd fk ix px pl pn_;unfold aeh
 conv=>arg 2; whnf
 have nd:∀ j,(∀ i,i<16->[L 27,L 28,L 29,L 30,L 31,L 32,L 33,L 34,L 35,L 36,L 37,L 38,L 39,L 40,ah,L 7].getD i ah≠L j)->∀ i,i<16->(fun i=>[L 27,L 28,L 29,L 30,L 31,L 32,L 33,L 34,L 35,L 36,L 37,L 38,L 39,L 40,ah,L 7].getD i ah) i≠L j:=fun j h=>h;refine Rg.oJ 16 (fun i=>[L 27,L 28,L 29,L 30,L 31,L 32,L 33,L 34,L 35,L 36,L 37,L 38,L 39,L 40,ah,L 7].getD i ah) (fun _=>16) (oV W.heap.size (aD #[U V me,J o1 n1 k1,J o2 n2 k2,J o3 n3 k3,J o4 n4 k4,J o5 n5 k5]) c d c2 d2 (J o2 n2 k2) ki p jh po pn pc fr up b3 b5) (oF W b6 #[U V me,J o1 n1 k1,J o2 n2 k2,J o3 n3 k3,J o4 n4 k4,J o5 n5 k5]) (by kernel_rfl) (by kernel_rfl) rfl (fun i j e hi hj h1 h2=>(by decide:∀ i,i<16->∀ j,j<16->([L 27,L 28,L 29,L 30,L 31,L 32,L 33,L 34,L 35,L 36,L 37,L 38,L 39,L 40,ah,L 7].getD i ah).isSome=true->[L 27,L 28,L 29,L 30,L 31,L 32,L 33,L 34,L 35,L 36,L 37,L 38,L 39,L 40,ah,L 7].getD i ah=[L 27,L 28,L 29,L 30,L 31,L 32,L 33,L 34,L 35,L 36,L 37,L 38,L 39,L 40,ah,L 7].getD j ah->i=j) i hi j hj (by have h1:[L 27,L 28,L 29,L 30,L 31,L 32,L 33,L 34,L 35,L 36,L 37,L 38,L 39,L 40,ah,L 7].getD i ah=L e:=h1; rw [h1]; rfl) (h1.trans h2.symm)) (fun i e hi h=>(by decide:∀ i,i<16->∀ q∈[L 27,L 28,L 29,L 30,L 31,L 32,L 33,L 34,L 35,L 36,L 37,L 38,L 39,L 40,ah,L 7].getD i ah,q<41) i hi e h) ⟨fun _ _ _=>rfl,fun _ _=>(Below.refl _ _).drew,fun _=>(Below.refl _ _).drew,False.elim,Nat.le_refl _⟩ ?_ ?_
 ·intro i o hi ho a x D hnd hc hD hF seen K hK;clear HQ;have still:∀ i,i≠14->oF W b6 #[U V me,J o1 n1 k1,J o2 n2 k2,J o3 n3 k3,J o4 n4 k4,J o5 n5 k5] (fun j=>j=i\/D j) x:=fun i h9=>⟨hF.1,hF.2.1,fun h=>hF.2.2.1 fun h2=>h (au h2),fun h=>hF.2.2.2.1 (h.resolve_left (Ne.symm h9)),hF.2.2.2.2⟩;rcases (by omega:i=0\/i=1\/i=2\/i=3\/i=4\/i=5\/i=6\/i=7\/i=8\/i=9\/i=10\/i=11\/i=12\/i=13\/i=14\/i=15) with rfl|rfl|rfl|rfl|rfl|rfl|rfl|rfl|rfl|rfl|rfl|rfl|rfl|rfl|rfl|rfl
  ·cases ho;have e3:a.eval (ak 3)=Z (L ⟨b3,0,ah⟩):=seen.kp 3 _ (nd 3 (by decide)) rfl;have YX:=show dK x _ _ _ from (hF.1 _ H3.out.lt N3.out).trans H3.out;exact Rg.dG rfl rfl (Rg.dU a.eval _ 30 (ak 3) rfl (by rw [e3]; exact tJ YX)) (hK _ _ rfl (still 0 (by decide)) fun _ _ _ _ _ _ _ h=>h)
  ·cases ho;have e3:a.eval (ak 3)=Z (L ⟨b3,0,ah⟩):=seen.kp 3 _ (nd 3 (by decide)) rfl;exact Rg.dG rfl rfl (Rg.dW a.eval _ 30 (ak 3) 2 rfl (by rw [e3]; simp [go_sem])) (hK _ _ rfl (still 1 (by decide)) fun _ _ _ _ _ _ _ h=>h)
  ·cases ho;have e28:a.eval (ak 28)=Z (L ⟨b3,2,ah⟩):=seen.at_ ⟨1,.data⟩ (by simp) rfl (au (by decide)) _ rfl;have YX:=show dK x _ _ _ from (hF.1 _ H3.out.lt N3.out).trans H3.out;have y:=YX.cell 2;simp only [List.getElem?_toArray,List.getElem?_cons_zero,List.getElem?_cons_succ] at y;exact Rg.dG rfl rfl (Rg.dU a.eval _ 25 (ak 28) rfl (by rw [e28]; simp [go_sem,y])) (hK _ _ rfl (still 2 (by decide)) fun _ _ _ _ _ _ _ h=>h)
  ·cases ho;have e3:a.eval (ak 3)=Z (L ⟨b3,0,ah⟩):=seen.kp 3 _ (nd 3 (by decide)) rfl;have YX:=show dK x _ _ _ from (hF.1 _ H3.out.lt N3.out).trans H3.out;exact Rg.dG rfl rfl (Rg.dU a.eval _ 30 (ak 3) rfl (by rw [e3]; exact tJ YX)) (hK _ _ rfl (still 3 (by decide)) fun _ _ _ _ _ _ _ h=>h)
  ·cases ho;have e5:a.eval (ak 5)=Z (L ⟨b5,0,ah⟩):=seen.kp 5 _ (nd 5 (by decide)) rfl;exact Rg.dG rfl rfl (Rg.dW a.eval _ 43 (ak 5) 1 rfl (by rw [e5]; simp [go_sem])) (hK _ _ rfl (still 4 (by decide)) fun _ _ _ _ _ _ _ h=>h)
  ·cases ho;have e31:a.eval (ak 31)=Z (L ⟨b5,1,ah⟩):=seen.at_ ⟨4,.data⟩ (by simp) rfl (au (by decide)) _ rfl;have akv:=show dK x _ _ _ from (hF.1 _ H5.out.lt N5.out).trans H5.out;have y1:=akv.cell 1;have y2:=akv.cell 2;simp only [List.getElem?_toArray,List.getElem?_cons_zero,List.getElem?_cons_succ] at y1 y2;exact Rg.dG rfl rfl (Rg.dU a.eval _ 23 (ak 31) rfl (by rw [e31]; simp [go_sem,y1,y2])) (hK _ _ rfl (still 5 (by decide)) fun _ _ _ _ _ _ _ h=>h)
  ·cases ho;have e30:a.eval (ak 30)=aD #[U V me,J o1 n1 k1,J o2 n2 k2,J o3 n3 k3,J o4 n4 k4,J o5 n5 k5]:=seen.at_ ⟨3,.data⟩ (by simp) rfl (au (by decide)) _ rfl;have e32:a.eval (ak 32)=nC (c,d):=seen.at_ ⟨5,.data⟩ (by simp) rfl (au (by decide)) _ rfl;have nS:¬ D 14:=fun h=>hnd (hc 11 _ (hc 14 _ h rfl ⟨11,.chain⟩ (by simp) rfl) rfl ⟨6,.chain⟩ (by simp) rfl);have hb:=hF.2.2.1 nS;have n13:¬ D 13:=fun h=>hnd (hc 11 _ (hc 12 _ (hc 13 _ h rfl ⟨12,.data⟩ (by simp) rfl) rfl ⟨11,.data⟩ (by simp) rfl) rfl ⟨6,.chain⟩ (by simp) rfl);exact Rg.gP rfl rfl (qF a.eval _ (ak 30) (ak 32) 30 23 60 rfl e30 e32 rfl _ (fV Tryz.func60 rfl rfl _ _)) (vV me _ _ _ _ (o2,n2,k2) ad (c,d) x (HD.out.on hb)) fun e w1 h=>by
    obtain⟨rfl,h3⟩:=h;refine⟨_,rfl,hK _ _ (by rw [FK.out]; rfl) ⟨fun j hj hne=>(h3.block j (ay hj hb.size)).trans (hF.1 j hj hne),fun B hB=>(hF.2.1 B hB).trans (h3.mono (aj (aj hB (aC H6.out.lt)) hb.size)),fun _=>hb.trans (h3.mono hb.size),fun h=>absurd (h.resolve_left (by decide)) nS,aj hb.size h3.size⟩ fun j u hj dj _ _ _ h=>?_⟩;rcases (by omega:j=0\/j=1\/j=2\/j=3\/j=4\/j=5\/j=6\/j=7\/j=8\/j=9\/j=10\/j=11\/j=12\/j=13\/j=14\/j=15) with rfl|rfl|rfl|rfl|rfl|rfl|rfl|rfl|rfl|rfl|rfl|rfl|rfl|rfl|rfl|rfl
    ·exact h
    ·exact h
    ·exact h
    ·exact h
    ·exact h
    ·exact h
    ·exact h
    ·exact h
    ·exact h
    ·exact h
    ·exact h
    ·exact h
    ·exact h
    ·exact absurd dj n13
    ·exact h
    ·exact absurd (hc 15 _ dj rfl ⟨13,.data⟩ (by simp) rfl) n13
  ·cases ho;have e29:a.eval (ak 29)=J o2 n2 k2:=seen.at_ ⟨2,.data⟩ (by simp) rfl (au (by decide)) _ rfl;have e33:a.eval (ak 33)=U V (ki:Int):=seen.at_ ⟨6,.data⟩ (by simp) rfl (au (by decide)) _ rfl;exact Rg.dG rfl rfl (Rg.qC a.eval _ 25 (ak 29) (ak 33) rfl (by rw [e29,e33]; exact IX.out x)) (hK _ _ rfl (still 7 (by decide)) fun _ _ _ _ _ _ _ h=>h)
  ·cases ho;have e34:a.eval (ak 34)=Z (L p):=seen.at_ ⟨7,.data⟩ (by simp) rfl (au (by decide)) _ rfl;exact Rg.dG rfl rfl (Rg.dW a.eval _ 36 (ak 34) 2 rfl (by rw [e34]; simp [go_sem])) (hK _ _ rfl (still 8 (by decide)) fun _ _ _ _ _ _ _ h=>h)
  ·cases ho;have e35:a.eval (ak 35)=Z (L ⟨p.block,p.off+3,ah⟩):=seen.at_ ⟨8,.data⟩ (by simp) rfl (au (by decide)) _ rfl;have y:x.cell? ⟨p.block,p.off+3,ah⟩=L (U V jh):=by
    have h:=PX.out;unfold World.cell? at h ⊢;rw [hF.1 _ PL.out PN.out];exact h
   exact Rg.dG rfl rfl (Rg.dU a.eval _ 3 (ak 35) rfl (by rw [e35]; simp [go_sem,y])) (hK _ _ rfl (still 9 (by decide)) fun _ _ _ _ _ _ _ h=>h)
  ·cases ho;have e8:a.eval (ak 8)=Z (L ⟨b8,0,ah⟩):=seen.kp 8 _ (nd 8 (by decide)) rfl;have anD:=show dK x _ _ _ from (hF.1 _ H8.out.lt N8.out).trans H8.out;obtain⟨y0,y1,y2,y3,y4,y5,y6⟩:=anD.pG;exact Rg.dG rfl rfl (Rg.dU a.eval _ 67 (ak 8) rfl (by rw [e8]; simp [go_sem,y0,y1,y2,y3,y4,y5,y6])) (hK _ _ rfl (still 10 (by decide)) fun _ _ _ _ _ _ _ h=>h)
  ·cases ho;have e37:a.eval (ak 37)=qO (c,d,c2,d2,(po,pn,pc),fr,up):=seen.at_ ⟨10,.data⟩ (by simp) rfl (au (by decide)) _ rfl;have nS:¬ D 14:=fun h=>hnd (hc 14 _ h rfl ⟨11,.chain⟩ (by simp) rfl);have hb:=hF.2.2.1 nS;have n13:¬ D 13:=fun h=>hnd (hc 12 _ (hc 13 _ h rfl ⟨12,.data⟩ (by simp) rfl) rfl ⟨11,.data⟩ (by simp) rfl);exact Rg.gP rfl rfl (iZ a.eval _ (ak 37) 67 58 rfl e37 rfl _ (fV Tryz.func58 rfl rfl _ _)) (Bh (c,d,c2,d2,(po,pn,pc),fr,up) x) fun e w1 h=>by
    obtain⟨rfl,h3⟩:=h;refine⟨_,rfl,hK _ _ rfl ⟨fun j hj hne=>(h3.block j (ay hj hb.size)).trans (hF.1 j hj hne),fun B hB=>(hF.2.1 B hB).trans (h3.mono (aj (aj hB (aC H6.out.lt)) hb.size)),fun _=>hb.trans (h3.mono hb.size),fun h=>absurd (h.resolve_left (by decide)) nS,aj hb.size h3.size⟩ fun j u hj dj _ _ _ h=>?_⟩;rcases (by omega:j=0\/j=1\/j=2\/j=3\/j=4\/j=5\/j=6\/j=7\/j=8\/j=9\/j=10\/j=11\/j=12\/j=13\/j=14\/j=15) with rfl|rfl|rfl|rfl|rfl|rfl|rfl|rfl|rfl|rfl|rfl|rfl|rfl|rfl|rfl|rfl
    ·exact h
    ·exact h
    ·exact h
    ·exact h
    ·exact h
    ·exact h
    ·exact h
    ·exact h
    ·exact h
    ·exact h
    ·exact h
    ·exact h
    ·exact h
    ·exact absurd dj n13
    ·exact h
    ·exact absurd (hc 15 _ dj rfl ⟨13,.data⟩ (by simp) rfl) n13
  ·cases ho;have e36:a.eval (ak 36)=U V jh:=seen.at_ ⟨9,.data⟩ (by simp) rfl (au (by decide)) _ rfl;have e38:a.eval (ak 38)=aD #[U V 3,U V c,U V d,U V c2,U V d2,J po pn pc,J ah 0 0]:=seen.at_ ⟨11,.data⟩ (by simp) rfl (au (by decide)) _ rfl;exact Rg.dG rfl rfl (Rg.jg a.eval _ 46 #[(0,ak 36),(1,ak 38)] rfl (ps:=#[(0,U V jh),(1,aD #[U V 3,U V c,U V d,U V c2,U V d2,J po pn pc,J ah 0 0])]) (by simp only [List.map_toArray,List.map_cons,List.map_nil,e36,e38]) (by simp [go_sem])) (hK _ _ rfl (still 12 (by decide)) fun _ _ _ _ _ _ _ h=>h)
  ·cases ho;have e39:a.eval (ak 39)=uZ (jh,3,c,d,c2,d2,(po,pn,pc),(ah,0,0)):=seen.at_ ⟨12,.data⟩ (by simp) rfl (au (by decide)) _ rfl;have n15:¬ D 15:=fun h=>hnd (hc 15 _ h rfl ⟨13,.data⟩ (by simp) rfl);have hl:=jC Ew x [((jh,3,c,d,c2,d2,(po,pn,pc),(ah,0,0)):mX)] 1 rfl (by simp) (jK (jh,3,c,d,c2,d2,(po,pn,pc),(ah,0,0))).toArray (by simp [flat,EU]);have nb:=gN x (aA (jK (jh,3,c,d,c2,d2,(po,pn,pc),(ah,0,0))).toArray 46);have sz:=hF.2.2.2.2;have ff:oF W b6 #[U V me,J o1 n1 k1,J o2 n2 k2,J o3 n3 k3,J o4 n4 k4,J o5 n5 k5] (fun j=>j=13\/D j) (x.alloc (aA (jK (jh,3,c,d,c2,d2,(po,pn,pc),(ah,0,0))).toArray 46)):=⟨fun j hj hne=>(nb.block j (ay hj sz)).trans (hF.1 j hj hne),fun B hB=>(hF.2.1 B hB).trans (nb.mono (aj (aj hB (aC H6.out.lt)) sz)),fun h=>(hF.2.2.1 fun q=>h (au q)).trans (nb.mono sz),fun h=>(hF.2.2.2.1 (h.resolve_left (by decide))).on nb,aj sz nb.size⟩;have st:∀ j u,j<16->D j->j≠13->oV W.heap.size (aD #[U V me,J o1 n1 k1,J o2 n2 k2,J o3 n3 k3,J o4 n4 k4,J o5 n5 k5]) c d c2 d2 (J o2 n2 k2) ki p jh po pn pc fr up b3 b5 j u x->oV W.heap.size (aD #[U V me,J o1 n1 k1,J o2 n2 k2,J o3 n3 k3,J o4 n4 k4,J o5 n5 k5]) c d c2 d2 (J o2 n2 k2) ki p jh po pn pc fr up b3 b5 j u (x.alloc (aA (jK (jh,3,c,d,c2,d2,(po,pn,pc),(ah,0,0))).toArray 46)):=fun j u hj dj ni h=>by
    rcases (by omega:j=0\/j=1\/j=2\/j=3\/j=4\/j=5\/j=6\/j=7\/j=8\/j=9\/j=10\/j=11\/j=12\/j=13\/j=14\/j=15) with rfl|rfl|rfl|rfl|rfl|rfl|rfl|rfl|rfl|rfl|rfl|rfl|rfl|rfl|rfl|rfl
    ·exact h
    ·exact h
    ·exact h
    ·exact h
    ·exact h
    ·exact h
    ·exact h
    ·exact h
    ·exact h
    ·exact h
    ·exact h
    ·exact h
    ·exact h
    ·exact absurd rfl ni
    ·exact h
    ·exact absurd dj n15
   have q:=hK (J (L ⟨x.heap.size,0,ah⟩) 1 1) (x.alloc (aA (jK (jh,3,c,d,c2,d2,(po,pn,pc),(ah,0,0))).toArray 46)) (dM hl sz) ff fun j u hj dj _ _ ni h=>st j u hj dj ni h;exact Rg.dG rfl rfl (Rg.iY a.eval _ 37 1 #[(0,ak 39)] rfl (ps:=#[(0,uZ (jh,3,c,d,c2,d2,(po,pn,pc),(ah,0,0)))]) (by simp [e39]) (by simp [go_sem])) q
  ·cases ho;have e27:a.eval (ak 27)=aD #[U V me,J o1 n1 k1,J o2 n2 k2,J o3 n3 k3,J o4 n4 k4,J o5 n5 k5]:=seen.at_ ⟨0,.data⟩ (by simp) rfl (au (by decide)) _ rfl;have e6:a.eval (ak 6)=Z (L ⟨b6,0,ah⟩):=seen.kp 6 _ (nd 6 (by decide)) rfl;have hb:=hF.2.2.1 hnd;have H6x:=H6.out.on hb;have s4:=dN x b6 (U V me) (J o1 n1 k1) (J o2 n2 k2) (J o3 n3 k3) (J o4 n4 k4) (J o5 n5 k5);have hx:=dL H6x (U V me) (J o1 n1 k1) (J o2 n2 k2) (J o3 n3 k3) (J o4 n4 k4) (J o5 n5 k5);have hs:=oD H6x me o1 o2 o3 o4 o5 n1 k1 n2 k2 n3 k3 n4 k4 n5 k5;have hy:∀ B,B<=b6->Below B W (gV x b6 (U V me) (J o1 n1 k1) (J o2 n2 k2) (J o3 n3 k3) (J o4 n4 k4) (J o5 n5 k5)):=fun B hB=>dH (hF.2.1 B hB) hB _ _ _ _ _ _;have so:∀ v l,jX x W.heap.size v l->jX (gV x b6 (U V me) (J o1 n1 k1) (J o2 n2 k2) (J o3 n3 k3) (J o4 n4 k4) (J o5 n5 k5)) W.heap.size v l:=fun v l h=>gy h b6 H6.out.lt _ _ _ _ _ _;have sz:x.heap.size<=(gV x b6 (U V me) (J o1 n1 k1) (J o2 n2 k2) (J o3 n3 k3) (J o4 n4 k4) (J o5 n5 k5)).heap.size:=by simp [gV]
   generalize gV x b6 (U V me) (J o1 n1 k1) (J o2 n2 k2) (J o3 n3 k3) (J o4 n4 k4) (J o5 n5 k5)=x2 at *;have n15:¬ D 15:=fun h=>hnd (hc 15 _ h rfl ⟨14,.chain⟩ (by simp) rfl);have ff:oF W b6 #[U V me,J o1 n1 k1,J o2 n2 k2,J o3 n3 k3,J o4 n4 k4,J o5 n5 k5] (fun j=>j=14\/D j) x2:=⟨fun j hj hne=>(s4 j hne).trans (hF.1 j hj hne),hy,fun h=>absurd (aF rfl) h,fun _=>hx,aj hF.2.2.2.2 sz⟩;have st:∀ j u,j<16->D j->oV W.heap.size (aD #[U V me,J o1 n1 k1,J o2 n2 k2,J o3 n3 k3,J o4 n4 k4,J o5 n5 k5]) c d c2 d2 (J o2 n2 k2) ki p jh po pn pc fr up b3 b5 j u x->oV W.heap.size (aD #[U V me,J o1 n1 k1,J o2 n2 k2,J o3 n3 k3,J o4 n4 k4,J o5 n5 k5]) c d c2 d2 (J o2 n2 k2) ki p jh po pn pc fr up b3 b5 j u x2:=fun j u hj dj h=>by
    rcases (by omega:j=0\/j=1\/j=2\/j=3\/j=4\/j=5\/j=6\/j=7\/j=8\/j=9\/j=10\/j=11\/j=12\/j=13\/j=14\/j=15) with rfl|rfl|rfl|rfl|rfl|rfl|rfl|rfl|rfl|rfl|rfl|rfl|rfl|rfl|rfl|rfl
    ·exact h
    ·exact h
    ·exact h
    ·exact h
    ·exact h
    ·exact h
    ·exact h
    ·exact h
    ·exact h
    ·exact h
    ·exact h
    ·exact h
    ·exact h
    ·exact so _ _ h
    ·exact h
    ·exact absurd dj n15
   have q:=hK (aB true) x2 trivial ff fun j u hj dj _ _ _ h=>st j u hj dj h;have q2:K a x2:=q;exact Rg.gu 30 (ak 6) (ak 27) rfl rfl rfl rfl e6 e27 hs q2
  ·cases ho;have o40:jX x W.heap.size (a.eval (ak 40)) [(jh,3,c,d,c2,d2,(po,pn,pc),(ah,0,0))]:=seen.at_ ⟨13,.data⟩ (by simp) rfl (au (by decide)) _ rfl;exact Rg.dG rfl rfl (Rg.kP a.eval _ (ak 40) rfl x) (hK _ _ o40 (still 15 (by decide)) fun _ _ _ _ _ _ _ h=>h)
 ·intro a x df sz kp ⟨vs,hv⟩ ⟨D,hall,hF⟩;have h2:jX x W.heap.size (vs 15) [(jh,3,c,d,c2,d2,(po,pn,pc),(ah,0,0))]:=(hv 15 (by omega)).2 (by decide);have g9:a.tmps[7]?=L (vs 15):=(hv 15 (by omega)).1 7 rfl;obtain⟨sa,sc,hs⟩:=(Row.dJ h2).len;rw [hs] at h2 g9;exact HQ.out a x (sa,_,sc) df ((kp 6 (nd 6 (by decide))).trans rfl) g9 (hF.2.2.2.1 (hall 14 (by omega))) h2 hF.1 hF.2.1
end Bk
namespace Av
open Go.RowKit Go.Sort Rw YtghlpefopidlaaaGreat.Nm Pr Bk
theorem U9 (x y:jk) (a b:En) (w:World) (hx:jJ w x a) (hy:jJ w y b) (hl:a.p.length<=1000000):Calls Tryz.prog 95 #[qO x,qO y] w fun e w'=>e=.returned (aB (NY a b))/\Below w.heap.size w w':=by
 obtain⟨x1,x2,x3,x4,⟨xo,xn,xc⟩,x6,x7⟩:=x;obtain⟨y1,y2,y3,y4,⟨yo,yn,yc⟩,y6,y7⟩:=y;obtain⟨gi,gj,gp,gq,gr⟩:=hx;obtain⟨ki,kj,kp,kq,kr⟩:=hy;have ER:NY a b=((x1 == y1 && x2 == y2) && ((x3 == y3 && x4 == y4) && ((x6 == y6) && ((x7 == y7) && jU a.p b.p)))):=by
  unfold NY;rw [<- gi,<- ki,<- gj,<- kj,<- gp,<- kp,<- gq,<- kq]
  rfl
 rw [ER];obtain⟨h0,X,Y⟩:=iI w #[U V x1,U V x2,U V x3,U V x4,J xo xn xc,U V x6,aB x7] #[U V y1,U V y2,U V y3,U V y4,J yo yn yc,U V y6,aB y7] 67 67;have C:=O (zw _ _ a.p b.p _ (gr.on h0) (kr.on h0) hl);obtain⟨VL,VN,VP,Yu,cx4,cx5,cx6⟩:=X.pG;obtain⟨VQ,VT,VU,Yv,cy4,cy5,cy6⟩:=Y.pG;have B0:=O h0;clear h0 X Y gr kr hl ER gi gj gp gq ki kj kp kq;obtain⟨r0,hr0⟩:∃ r,(x1 == y1 && x2 == y2)=r:=⟨_,rfl⟩;have he0:=rH x1 x2 y1 y2 r0 hr0;obtain⟨r1,hr1⟩:∃ r,(x3 == y3 && x4 == y4)=r:=⟨_,rfl⟩;have he1:=rH x3 x4 y3 y4 r1 hr1;obtain⟨r2,hr2⟩:∃ r,(x6 == y6)=r:=⟨_,rfl⟩;obtain⟨r3,hr3⟩:∃ r,(x7 == y7)=r:=⟨_,rfl⟩;rw [hr0,hr1,hr2,hr3];clear hr0;clear hr1;obtain⟨rs,hrs⟩:∃ r,jU a.p b.p=r:=⟨_,rfl⟩;rw [hrs] at C ⊢;clear hrs;go_enter Tryz.func95,Tryz.ntmps95;cases r0
 ·go_wp2_with fail;go_ret;exact⟨rfl,B0.out⟩
 ·cases r1
  ·go_wp2_with fail;go_ret;exact⟨rfl,B0.out⟩
  ·cases r2
   ·go_wp2_with fail;go_ret;exact⟨rfl,B0.out⟩
   ·cases r3
    ·go_wp2_with fail;go_ret;exact⟨rfl,B0.out⟩
    ·go_wp2_with fail;refine C.out.mono ?_;rintro e w1 ⟨rfl,hb⟩;have BB:=O (B0.out.trans (hb.mono B0.out.size));clear hb;go_wp2;go_ret;exact⟨rfl,BB.out⟩
theorem YZ (v u:Sl) (l m:List jk) (al bl:List En) (w:World) (ha:Row EN w (dX v) l) (hb:Row EN w (dX u) m) (hA:eY (jJ w) l al) (hB:eY (jJ w) m bl) (hs:∀ a∈al,a.p.length<=1000000) :
  Calls Tryz.prog 94 #[dX v,dX u,.func (.func 95) #[] #[]] w fun e w'=>e=.returned (aB (gI NY al bl))/\Below w.heap.size w w':=by
 obtain⟨so,sn,sc⟩:=v;obtain⟨uo,un,uc⟩:=u;obtain⟨ao,ac,hv⟩:=ha.len;have hv:J so sn sc=J ao l.length ac:=hv;obtain⟨rfl,rfl,rfl⟩:so=ao/\sn=l.length/\sc=ac:=by simpa using hv
 obtain⟨ao,ac,hv2⟩:=hb.len;have hv2:J uo un uc=J ao m.length ac:=hv2;obtain⟨rfl,rfl,rfl⟩:uo=ao/\un=m.length/\uc=ac:=by simpa using hv2
 have RA:=O ha;have RB:=O hb;have LA:=O hA;have LB:=O hB;have HS:=O hs;have ma:=ha.most;unfold maxLen at ma;clear ha hb hA hB hs hv hv2;by_cases hlen:l.length=m.length
 ·have HL:=O hlen;rw [<- hlen] at RB ⊢;generalize hn:l.length=n at *;have HN:=O hn;clear hlen hn;go_enter Tryz.func94,Tryz.ntmps94;go_wp2
  go_loopw [17] (fun i wr=>∃ k:Nat,k<=n/\i=U V k/\Below w.heap.size w wr/\∀ (j:Nat) (x y:En),j<k->al[j]?=L x->bl[j]?=L y->NY x y=true) (fun i _=>n-(intOf i).toNat)
  case atStart=>exact⟨0,Nat.zero_le _,rfl,Below.refl _ _,fun j x y h=>by omega⟩
  case round =>
   obtain⟨k,hk,rfl,hbe,hall⟩:=hrel;have BE:=O hbe;have AL:=O hall;clear hbe hall;by_cases hlt:k<n
   ·obtain⟨a,hak⟩:∃ a,al[k]?=L a:=⟨_,List.getElem?_eq_getElem (by rw [<- LA.out.len,HN.out]; exact hlt)⟩;obtain⟨b,hbk⟩:∃ b,bl[k]?=L b:=⟨_,List.getElem?_eq_getElem (by rw [<- LB.out.len,<- HL.out]; exact hlt)⟩;obtain⟨x,hx,ix⟩:=LA.out.at k a hak;obtain⟨y,hy,iy⟩:=LB.out.at k b hbk;obtain⟨p,jx,px⟩:=P8 RA.out rfl HN.out hx;obtain⟨q,jy,py⟩:=P8 RB.out rfl HL.out.symm hy;obtain⟨p0,p1,p2,p3,p4,p5,p6⟩:=px wr BE.out;have hs1:=HS.out a (List.mem_of_getElem? hak);have CC:=fun W' (h:Below w.heap.size w W')=>U9 x y a b W' (ix.on h) (iy.on h) hs1;have CF:=O hak;have HBK:=O hbk;clear hx hy hak hbk hs1 px ix iy;obtain⟨x1,x2,x3,x4,⟨xo,xn,xc⟩,x6,x7⟩:=x;obtain⟨y1,y2,y3,y4,⟨yo,yn,yc⟩,y6,y7⟩:=y;simp only at p0 p1 p2 p3 p4 p5 p6;have N1:=gN wr (aA #[U V x1,U V x2,U V x3,U V x4,J xo xn xc,U V x6,aB x7] 67);have N2:=gN (wr.alloc (aA #[U V x1,U V x2,U V x3,U V x4,J xo xn xc,U V x6,aB x7] 67)) (aA #[U V y1,U V y2,U V y3,U V y4,J yo yn yc,U V y6,aB y7] 67);have BN:=O (BE.out.trans ((N1.trans (N2.mono N1.size)).mono BE.out.size));obtain⟨q0,q1,q2,q3,q4,q5,q6⟩:=py _ (BE.out.trans (N1.mono BE.out.size));have hX:=(dQ wr #[U V x1,U V x2,U V x3,U V x4,J xo xn xc,U V x6,aB x7] 67).on N2;have hY:=dQ (wr.alloc (aA #[U V x1,U V x2,U V x3,U V x4,J xo xn xc,U V x6,aB x7] 67)) #[U V y1,U V y2,U V y3,U V y4,J yo yn yc,U V y6,aB y7] 67;have hsz:(wr.alloc (aA #[U V x1,U V x2,U V x3,U V x4,J xo xn xc,U V x6,aB x7] 67)).heap.size=wr.heap.size+1:=by simp
    rw [hsz] at hY;obtain⟨ex0,ex1,ex2,ex3,ex4,ex5,ex6⟩:=hX.pG;obtain⟨ey0,ey1,ey2,ey3,ey4,ey5,ey6⟩:=hY.pG;simp only at q0 q1 q2 q3 q4 q5 q6;have hw3:IntKind.i64.wrap ((k:Int)+1)=(k:Int)+1:=IntWalk.i64_in _ (by omega);have C:=O (CC _ BN.out);obtain⟨r,hr⟩:∃ r,NY a b=r:=⟨_,rfl⟩;rw [hr] at C;have HR:=O hr;clear CC hr N1 N2 hX hY hsz py;go_wp2_with fail;refine C.out.mono ?_;rintro e w1 ⟨rfl,hb⟩;have BB:=O (BN.out.trans (hb.mono BN.out.size));clear hb C p0 p1 p2 p3 p4 p5 p6 q0 q1 q2 q3 q4 q5 q6 ex0 ex1 ex2 ex3 ex4 ex5 ex6 ey0 ey1 ey2 ey3 ey4 ey5 ey6 jx jy;cases r
    ·have R:=O (show gI NY al bl=false from qh al bl k a b CF.out HBK.out HR.out);go_wp2;go_ret;exact⟨by rw [R.out]; rfl,BB.out⟩
    ·go_wp2
     go_roundw
     case rel=>exact⟨k+1,by omega,by go_num,BB.out,fun j x' y' hj h1 h2=>by
      rcases Nat.lt_or_ge j k with h3|h3
      ·exact AL.out j x' y' h3 h1 h2
      ·obtain rfl:j=k:=by omega
       have e1:=CF.out;have e2:=HBK.out;rw [h1] at e1;rw [h2] at e2;rw [Option.some.inj e1,Option.some.inj e2];exact HR.out⟩
     case measure=>simp [intOf]; omega
   ·obtain rfl:k=n:=by omega
    have R:=O (show gI NY al bl=true from qg al bl (by rw [<- LA.out.len,<- LB.out.len,HN.out]; exact HL.out) (fun j a b h1 h2=>AL.out j a b (by have:=(List.getElem?_eq_some_iff.1 h1).1; have:=HN.out; have:=LA.out.len; omega) h1 h2));go_wp2;go_ret;exact⟨by rw [R.out]; rfl,BE.out⟩
 ·have R:=O (show gI NY al bl=false by
   cases h:gI NY al bl
   ·rfl
   ·exact absurd ((LA.out.len.trans (qd _ _ h)).trans LB.out.len.symm) hlen)
  have hne:(((l.length:Nat):Int) != ((m.length:Nat):Int))=true:=by simp; omega
  have hne2:(((l.length:Nat):Int) == ((m.length:Nat):Int))=false:=by simp; omega
  clear hlen;go_enter Tryz.func94,Tryz.ntmps94;go_wp2;go_ret;exact⟨by rw [R.out]; rfl,Below.refl _ _⟩
theorem Jz (a b:Br):Di a b=(a.me == b.me && (gI X8 a.near b.near && (gI J9 a.seen b.seen && (gI O6 a.dO b.dO && (gI NY a.ent b.ent && gI O7 a.own b.own))))):=by
 rw [Bool.eq_iff_iff,Dj];obtain⟨m,n,d,s,e,o⟩:=a;obtain⟨m',n',d',s',e',o'⟩:=b;simp only [Bool.and_eq_true,beq_iff_eq,lK acj,lK pV,lK Qf,lK QO,lK QT,Br.mk.injEq];constructor
 ·rintro⟨h1,h2,h3,h4,h5,h6⟩;exact⟨h1,h2,h4,h3,h5,h6⟩
 ·rintro⟨h1,h2,h4,h3,h5,h6⟩;exact⟨h1,h2,h3,h4,h5,h6⟩
theorem Ib (a b:Br) (nv av sv ev ov nv2 av2 sv2 ev2 ov2:Sl) (w:World) (ha:jq w a nv av sv ev ov) (hb:jq w b nv2 av2 sv2 ev2 ov2) (fa:Gl a) (pa:∀ p,(∃ x∈a.dO,x.p=p)\/(∃ x∈a.ent,x.p=p)\/(∃ x∈a.own,x.p=p)->p.length<=1000000) :
  Calls Tryz.prog 30 #[mG a.me nv av sv ev ov,mG b.me nv2 av2 sv2 ev2 ov2] w fun e w'=>e=.returned (aB (Di a b))/\Below w.heap.size w w':=by
 obtain⟨xn,xnn,xnc⟩:=nv;obtain⟨xa,xan,xac⟩:=av;obtain⟨xs,xsn,xsc⟩:=sv;obtain⟨xe,xen,xec⟩:=ev;obtain⟨xw,xwn,xwc⟩:=ov;obtain⟨yn,ynn,ync⟩:=nv2;obtain⟨ya,yan,yac⟩:=av2;obtain⟨ys,ysn,ysc⟩:=sv2;obtain⟨ye,yen,yec⟩:=ev2;obtain⟨yw,ywn,ywc⟩:=ov2;rw [Jz];obtain⟨lA,hA1,hA2⟩:=ha.dO;obtain⟨lB,hB1,hB2⟩:=hb.dO;obtain⟨mA,iA1,iA2⟩:=ha.ent;obtain⟨mB,iB1,iB2⟩:=hb.ent;obtain⟨kA,jA1,jA2⟩:=ha.own;obtain⟨kB,jB1,jB2⟩:=hb.own;have C1:=fun W' (h:Below w.heap.size w W')=>acn (J xn xnn xnc) (J yn ynn ync) a.near b.near W' (ha.near.on h) (hb.near.on h) (by have:=fa.near; omega);have C2:=fun W' (h:Below w.heap.size w W')=>aco (J xs xsn xsc) (J ys ysn ysc) a.seen b.seen W' (ha.seen.on h) (hb.seen.on h) (by have:=fa.seen; omega);have C3:=fun W' (h:Below w.heap.size w W')=>Yw (xa,xan,xac) (ya,yan,yac) lA lB a.dO b.dO W' (hA1.on h) (hB1.on h) (hA2.mono fun _ _ q=>q.on h) (hB2.mono fun _ _ q=>q.on h) (fun x hx=>pa x.p (aF ⟨x,hx,rfl⟩));have C4:=fun W' (h:Below w.heap.size w W')=>YZ (xe,xen,xec) (ye,yen,yec) mA mB a.ent b.ent W' (iA1.on h) (iB1.on h) (iA2.mono fun _ _ q=>q.on h) (iB2.mono fun _ _ q=>q.on h) (fun x hx=>pa x.p (au (aF ⟨x,hx,rfl⟩)));have C5:=fun W' (h:Below w.heap.size w W')=>Yx (xw,xwn,xwc) (yw,ywn,ywc) kA kB a.own b.own W' (jA1.on h) (jB1.on h) (jA2.mono fun _ _ q=>q.on h) (jB2.mono fun _ _ q=>q.on h) (fun x hx=>pa x.p (au (au ⟨x,hx,rfl⟩)));obtain⟨r0,hr0⟩:∃ r,(a.me == b.me)=r:=⟨_,rfl⟩;generalize gI X8 a.near b.near=r1 at *;generalize gI J9 a.seen b.seen=r2 at *;generalize gI O6 a.dO b.dO=r3 at *;generalize gI NY a.ent b.ent=r4 at *;generalize gI O7 a.own b.own=r5 at *;rw [hr0];obtain⟨h0,X,Y⟩:=iI w #[U V a.me,J xn xnn xnc,J xa xan xac,J xs xsn xsc,J xe xen xec,J xw xwn xwc] #[U V b.me,J yn ynn ync,J ya yan yac,J ys ysn ysc,J ye yen yec,J yw ywn ywc] 30 30;have B0:=O h0;have X0:=O X;have Y0:=O Y;have C1:=O C1;have C2:=O C2;have C3:=O C3;have C4:=O C4;have C5:=O C5;obtain⟨VL,VN,VP,Yu,cx4,cx5⟩:=X.fD;obtain⟨VQ,VT,VU,Yv,cy4,cy5⟩:=Y.fD;clear h0 X Y ha hb fa pa hA1 hA2 hB1 hB2 iA1 iA2 iB1 iB2 jA1 jA2 jB1 jB2;go_enter Tryz.func30,Tryz.ntmps30;cases r0
 ·go_wp2_with fail;go_ret;exact⟨rfl,B0.out⟩
 ·go_wp2_with fail;generalize (w.alloc (aA #[U V a.me,J xn xnn xnc,J xa xan xac,J xs xsn xsc,J xe xen xec,J xw xwn xwc] 30)).alloc (aA #[U V b.me,J yn ynn ync,J ya yan yac,J ys ysn ysc,J ye yen yec,J yw ywn ywc] 30)=W0 at *;refine (C1.out _ B0.out).mono ?_;rintro e1 W1 ⟨rfl,hb⟩;have B1:=O (B0.out.trans (hb.mono B0.out.size));have X1:=O (X0.out.on hb);have Y1:=O (Y0.out.on hb);clear hb VL VN VP Yu cx4 cx5 VQ VT VU Yv cy4 cy5;obtain⟨VL,VN,VP,Yu,cx4,cx5⟩:=X1.out.fD;obtain⟨VQ,VT,VU,Yv,cy4,cy5⟩:=Y1.out.fD;cases r1
  ·go_wp2_with fail;go_ret;exact⟨rfl,B1.out⟩
  ·go_wp2_with fail;refine (C2.out _ B1.out).mono ?_;rintro e2 W2 ⟨rfl,hb⟩;have B2:=O (B1.out.trans (hb.mono B1.out.size));have X2:=O (X1.out.on hb);have Y2:=O (Y1.out.on hb);clear hb VL VN VP Yu cx4 cx5 VQ VT VU Yv cy4 cy5;obtain⟨VL,VN,VP,Yu,cx4,cx5⟩:=X2.out.fD;obtain⟨VQ,VT,VU,Yv,cy4,cy5⟩:=Y2.out.fD;cases r2
   ·go_wp2_with fail;go_ret;exact⟨rfl,B2.out⟩
   ·go_wp2_with fail;refine (C3.out _ B2.out).mono ?_;rintro e3 W3 ⟨rfl,hb⟩;have B3:=O (B2.out.trans (hb.mono B2.out.size));have X3:=O (X2.out.on hb);have Y3:=O (Y2.out.on hb);clear hb VL VN VP Yu cx4 cx5 VQ VT VU Yv cy4 cy5;obtain⟨VL,VN,VP,Yu,cx4,cx5⟩:=X3.out.fD;obtain⟨VQ,VT,VU,Yv,cy4,cy5⟩:=Y3.out.fD;cases r3
    ·go_wp2_with fail;go_ret;exact⟨rfl,B3.out⟩
    ·go_wp2_with fail;refine (C4.out _ B3.out).mono ?_;rintro e4 W4 ⟨rfl,hb⟩;have B4:=O (B3.out.trans (hb.mono B3.out.size));have X4:=O (X3.out.on hb);have Y4:=O (Y3.out.on hb);clear hb VL VN VP Yu cx4 cx5 VQ VT VU Yv cy4 cy5;obtain⟨VL,VN,VP,Yu,cx4,cx5⟩:=X4.out.fD;obtain⟨VQ,VT,VU,Yv,cy4,cy5⟩:=Y4.out.fD;cases r4
     ·go_wp2_with fail;go_ret;exact⟨rfl,B4.out⟩
     ·go_wp2_with fail;refine (C5.out _ B4.out).mono ?_;rintro e5 W5 ⟨rfl,hb⟩;have B5:=O (B4.out.trans (hb.mono B4.out.size));clear hb VL VN VP Yu cx4 cx5 VQ VT VU Yv cy4 cy5;go_wp2_with fail;go_ret;exact⟨rfl,B5.out⟩
end Av
end Go.Proofs.YtghlpefopidlaaaGreat
