/-
  The last region of O. Conditions as told.
-/
import Derived.Test.YtmklifheakemeaaGreatBQ028
import Derived.Test.YtmklifheakemeaaGreatBQ019
import Derived.Test.YtmklifheakemeaaGreatBQ022
set_option maxRecDepth 100000
set_option maxHeartbeats 64000000
open _root_.Go renaming Value->aG,World->aI,Addr->aS
open Go.Act renaming put->bL
open Go.DataW renaming trod->aK,trod_int->aO,trod_struct->aZ
open Go.IntKind renaming i64->U
open Go.Lib renaming hid->L
open Go.Obj renaming cells->aH
open Go.Operand renaming tmp->aj
open Go.Proofs.Tryz renaming prog->au,underlying3->aL,underlying45->bS,underlying47->bU,results100->bW,results38->cK,func48->cO
open Go.Proofs.YtmklifheakemeaaGreat.Rg renaming dD->aF,dW->aY,dU->bV,dM->cu,get_put->cB,gq->cZ,fZ->dh,fG->dn,gT->dw,jd->dx,jP->dB
open Go.Proofs.YtmklifheakemeaaGreat.Wi renaming within->aP
open Go.RowKit.Below renaming refl->ah,heap_setCell->aJ
open Go.Value renaming slice->J,int->V,pointer->Z,agg->aM,bool->bY
open _root_.List renaming getElem?_toArray->ak,getElem?_cons_zero->ay,getElem?_cons_succ->aB,getElem?_eq_getElem->aC,length_append->aR,map_toArray->aT,length_take->aU,drop_succ_cons->aV,take_succ_cons->aW,map_cons->bf,map_nil->bg,take_of_length_le->bF,length_map->bG,getElem?_set_ne->bI,drop_zero->bJ,take_zero->bK,getElem?_map->bQ,take_add_one->bR,mem_append->bX
open _root_.Nat renaming le_trans->aA,le_refl->aN,lt_of_lt_of_le->aQ,le_of_lt->aX,zero_le->bH,lt_of_le_of_lt->bN,mul_le_mul->bZ
open _root_.Option renaming some->X,none->Y
open Option.some renaming inj->O
open _root_.Or renaming inr->aD,inl->bM
namespace Go.Proofs.YtmklifheakemeaaGreat
namespace Bk
open Go.RowKit Go.Sort Rw YtmklifheakemeaaGreat.Nm Pr
def oV (W:Nat) (bv:aG) (c d c2 d2:Int) (av:aG) (ki:Nat) (p:aS) (iq:Int) (po:Option aS) (pn pc:Nat) (fr:Int) (up:Bool) (b3 b5:Nat) (i:Nat) (v:aG) (x:aI):Prop :=
 match i with
 | 0=>v=bv
 | 1=>v=Z (X ⟨b3,2,Y⟩)
 | 2=>v=av
 | 3=>v=bv
 | 4=>v=Z (X ⟨b5,1,Y⟩)
 | 5=>v=mZ (c,d)
 | 6=>v=V U (ki:Int)
 | 7=>v=Z (X p)
 | 8=>v=Z (X ⟨p.block,p.off+3,Y⟩)
 | 9=>v=V U iq
 | 10=>v=rV (c,d,c2,d2,(po,pn,pc),fr,up)
 | 11=>v=aM #[V U 3,V U c,V U d,V U c2,V U d2,J po pn pc,J Y 0 0]
 | 12=>v=vW (iq,3,c,d,c2,d2,(po,pn,pc),(Y,0,0))
 | 13=>jK x W v [(iq,3,c,d,c2,d2,(po,pn,pc),(Y,0,0))]
 | 15=>jK x W v [(iq,3,c,d,c2,d2,(po,pn,pc),(Y,0,0))]
 | _=>True
def oF (W:aI) (b6:Nat) (bc:Array aG) (D:Nat->Prop) (x:aI):Prop :=
 (∀ j,j<W.heap.size->j≠b6->x.heap[j]?=W.heap[j]?)/\(∀ B,B<=b6->Below B W x)/\(¬ D 14->Below W.heap.size W x)/\(D 14->dJ x b6 bc 28)/\W.heap.size<=x.heap.size
noncomputable def ZJ:Code:=((Tryz.f101.body.bind (eT 5)).getD .skip)
theorem acK (Q:Exit->Act->aI->Prop) (W:aI) (b3 b5 b6 b8:Nat) (me mk c d c2 d2 fr iq:Int) (up:Bool) (o1 o2 o3 o4 o5:Option aS) (n1 k1 n2 k2 n3 k3 n4 k4 n5 k5:Nat) (po qo:Option aS) (pn pc qn qc:Nat) (ad:List jI) (ki:Nat) (p:aS) (z0 z1 z2 z3 z4 z5:aG) (u0 u1 u2 u4 u7 u9 u10 u11 u12 u13 u14 u15 u16 u17 u18 u19 u20 u21 u22 u23 u24 u25 u26 u27 u28 u29 u30 u31 u32 u33 u34 u35 u36 u37 u38 u39 u40:aG)
  (h3:dJ W b3 #[V U me,J o1 n1 k1,J o2 n2 k2,J o3 n3 k3,J o4 n4 k4,J o5 n5 k5] 28) (h5:dJ W b5 #[V U mk,V U c,V U d,V U c2,V U d2,J po pn pc,J qo qn qc] 41) (h6:dJ W b6 #[z0,z1,z2,z3,z4,z5] 28) (h8:dJ W b8 #[V U c,V U d,V U c2,V U d2,J po pn pc,V U fr,bY up] 66) (n3_:b3≠b6) (n5_:b5≠b6) (n8_:b8≠b6) (hd:vT W (J o2 n2 k2) ad) (fk:fI (ad.map fun y=>(y.1,y.2.1)) (c,d)=ki) (ix:∀ w,(Instr.indexAt 23 (J o2 n2 k2) (V U (ki:Int))).run au w=.ok (Z (X p)) w) (px:W.cell? ⟨p.block,p.off+3,Y⟩=X (V U iq)) (pl:p.block<W.heap.size) (pn_:p.block≠b6)
  (hQ:∀ (a:Act) (x:aI) (sl:Sl),a.defers=[]->a.tmps[6]?=X (Z (X ⟨b6,0,Y⟩))->a.tmps[7]?=X (dX sl)->dJ x b6 #[V U me,J o1 n1 k1,J o2 n2 k2,J o3 n3 k3,J o4 n4 k4,J o5 n5 k5] 28->jK x W.heap.size (dX sl) [(iq,3,c,d,c2,d2,(po,pn,pc),(Y,0,0))]->(∀ k,k<W.heap.size->k≠b6->x.heap[k]?=W.heap[k]?)->(∀ B,B<=b6->Below B W x)->Q .normal a x) :
  Code.wp au ZJ Q ⟨(u0::u1::u2::Z (X ⟨b3,0,Y⟩)::u4::Z (X ⟨b5,0,Y⟩)::Z (X ⟨b6,0,Y⟩)::u7::Z (X ⟨b8,0,Y⟩)::u9::u10::u11::u12::u13::u14::u15::u16::u17::u18::u19::u20::u21::u22::u23::u24::u25::u26::u27::u28::u29::u30::u31::u32::u33::u34::u35::u36::u37::u38::u39::u40::[]).toArray,[]⟩ W:=by
 have HQ:=L hQ;have H3:=L h3;have H5:=L h5;have H6:=L h6;have H8:=L h8;have N3:=L n3_;have N5:=L n5_;have N8:=L n8_;have HD:=L hd;have FK:=L fk;have IX:=L ix;have PX:=L px;have PL:=L pl;have PN:=L pn_;clear hQ h3 h5 h6 h8 n3_ n5_ n8_ hd fk ix px pl pn_;unfold ZJ
 conv=>arg 2; whnf
 have nd:∀ j,(∀ i,i<16->[X 27,X 28,X 29,X 30,X 31,X 32,X 33,X 34,X 35,X 36,X 37,X 38,X 39,X 40,Y,X 7].getD i Y≠X j)->∀ i,i<16->(fun i=>[X 27,X 28,X 29,X 30,X 31,X 32,X 33,X 34,X 35,X 36,X 37,X 38,X 39,X 40,Y,X 7].getD i Y) i≠X j:=fun j h=>h;refine Rg.pE 16 (fun i=>[X 27,X 28,X 29,X 30,X 31,X 32,X 33,X 34,X 35,X 36,X 37,X 38,X 39,X 40,Y,X 7].getD i Y) (fun _=>16) (oV W.heap.size (aM #[V U me,J o1 n1 k1,J o2 n2 k2,J o3 n3 k3,J o4 n4 k4,J o5 n5 k5]) c d c2 d2 (J o2 n2 k2) ki p iq po pn pc fr up b3 b5) (oF W b6 #[V U me,J o1 n1 k1,J o2 n2 k2,J o3 n3 k3,J o4 n4 k4,J o5 n5 k5]) (by kernel_rfl) (by kernel_rfl) rfl (fun i j e hi hj h1 h2=>(by decide:∀ i,i<16->∀ j,j<16->([X 27,X 28,X 29,X 30,X 31,X 32,X 33,X 34,X 35,X 36,X 37,X 38,X 39,X 40,Y,X 7].getD i Y).isSome=true->[X 27,X 28,X 29,X 30,X 31,X 32,X 33,X 34,X 35,X 36,X 37,X 38,X 39,X 40,Y,X 7].getD i Y=[X 27,X 28,X 29,X 30,X 31,X 32,X 33,X 34,X 35,X 36,X 37,X 38,X 39,X 40,Y,X 7].getD j Y->i=j) i hi j hj (by have h1:[X 27,X 28,X 29,X 30,X 31,X 32,X 33,X 34,X 35,X 36,X 37,X 38,X 39,X 40,Y,X 7].getD i Y=X e:=h1; rw [h1]; rfl) (h1.trans h2.symm)) (fun i e hi h=>(by decide:∀ i,i<16->∀ q∈[X 27,X 28,X 29,X 30,X 31,X 32,X 33,X 34,X 35,X 36,X 37,X 38,X 39,X 40,Y,X 7].getD i Y,q<41) i hi e h) ⟨fun _ _ _=>rfl,fun _ _=>(ah _ _).drew,fun _=>(ah _ _).drew,False.elim,aN _⟩ ?_ ?_
 ·intro i o hi ho a x D hnd hc hD hF seen K hK;clear HQ;have still:∀ i,i≠14->oF W b6 #[V U me,J o1 n1 k1,J o2 n2 k2,J o3 n3 k3,J o4 n4 k4,J o5 n5 k5] (fun j=>j=i\/D j) x:=fun i h9=>⟨hF.1,hF.2.1,fun h=>hF.2.2.1 fun h2=>h (aD h2),fun h=>hF.2.2.2.1 (h.resolve_left (Ne.symm h9)),hF.2.2.2.2⟩;rcases (by omega:i=0\/i=1\/i=2\/i=3\/i=4\/i=5\/i=6\/i=7\/i=8\/i=9\/i=10\/i=11\/i=12\/i=13\/i=14\/i=15) with rfl|rfl|rfl|rfl|rfl|rfl|rfl|rfl|rfl|rfl|rfl|rfl|rfl|rfl|rfl|rfl
  ·cases ho;have e3:a.eval (aj 3)=Z (X ⟨b3,0,Y⟩):=seen.kp 3 _ (nd 3 (by decide)) rfl;have Us:=show dJ x _ _ _ from (hF.1 _ H3.out.lt N3.out).trans H3.out;exact aF rfl rfl (aY a.eval _ 28 (aj 3) rfl (by rw [e3]; exact vk Us)) (hK _ _ rfl (still 0 (by decide)) fun _ _ _ _ _ _ _ h=>h)
  ·cases ho;have e3:a.eval (aj 3)=Z (X ⟨b3,0,Y⟩):=seen.kp 3 _ (nd 3 (by decide)) rfl;exact aF rfl rfl (bV a.eval _ 28 (aj 3) 2 rfl (by rw [e3]; simp [go_sem])) (hK _ _ rfl (still 1 (by decide)) fun _ _ _ _ _ _ _ h=>h)
  ·cases ho;have e28:a.eval (aj 28)=Z (X ⟨b3,2,Y⟩):=seen.at_ ⟨1,.data⟩ (by simp) rfl (aD (by decide)) _ rfl;have Us:=show dJ x _ _ _ from (hF.1 _ H3.out.lt N3.out).trans H3.out;have y:=Us.cell 2;simp only [ak,ay,aB] at y;exact aF rfl rfl (aY a.eval _ 23 (aj 28) rfl (by rw [e28]; simp [go_sem,y])) (hK _ _ rfl (still 2 (by decide)) fun _ _ _ _ _ _ _ h=>h)
  ·cases ho;have e3:a.eval (aj 3)=Z (X ⟨b3,0,Y⟩):=seen.kp 3 _ (nd 3 (by decide)) rfl;have Us:=show dJ x _ _ _ from (hF.1 _ H3.out.lt N3.out).trans H3.out;exact aF rfl rfl (aY a.eval _ 28 (aj 3) rfl (by rw [e3]; exact vk Us)) (hK _ _ rfl (still 3 (by decide)) fun _ _ _ _ _ _ _ h=>h)
  ·cases ho;have e5:a.eval (aj 5)=Z (X ⟨b5,0,Y⟩):=seen.kp 5 _ (nd 5 (by decide)) rfl;exact aF rfl rfl (bV a.eval _ 41 (aj 5) 1 rfl (by rw [e5]; simp [go_sem])) (hK _ _ rfl (still 4 (by decide)) fun _ _ _ _ _ _ _ h=>h)
  ·cases ho;have e31:a.eval (aj 31)=Z (X ⟨b5,1,Y⟩):=seen.at_ ⟨4,.data⟩ (by simp) rfl (aD (by decide)) _ rfl;have ae9:=show dJ x _ _ _ from (hF.1 _ H5.out.lt N5.out).trans H5.out;have y1:=ae9.cell 1;have y2:=ae9.cell 2;simp only [ak,ay,aB] at y1 y2;exact aF rfl rfl (aY a.eval _ 31 (aj 31) rfl (by rw [e31]; simp [go_sem,y1,y2])) (hK _ _ rfl (still 5 (by decide)) fun _ _ _ _ _ _ _ h=>h)
  ·cases ho;have e30:a.eval (aj 30)=aM #[V U me,J o1 n1 k1,J o2 n2 k2,J o3 n3 k3,J o4 n4 k4,J o5 n5 k5]:=seen.at_ ⟨3,.data⟩ (by simp) rfl (aD (by decide)) _ rfl;have e32:a.eval (aj 32)=mZ (c,d):=seen.at_ ⟨5,.data⟩ (by simp) rfl (aD (by decide)) _ rfl;have nS:¬ D 14:=fun h=>hnd (hc 11 _ (hc 14 _ h rfl ⟨11,.chain⟩ (by simp) rfl) rfl ⟨6,.chain⟩ (by simp) rfl);have hb:=hF.2.2.1 nS;have n13:¬ D 13:=fun h=>hnd (hc 11 _ (hc 12 _ (hc 13 _ h rfl ⟨12,.data⟩ (by simp) rfl) rfl ⟨11,.data⟩ (by simp) rfl) rfl ⟨6,.chain⟩ (by simp) rfl);exact dw rfl rfl (zw a.eval _ (aj 30) (aj 32) 28 31 104 rfl e30 e32 rfl _ (gD Tryz.func104 rfl rfl _ _)) (tN me _ _ _ _ (o2,n2,k2) ad (c,d) x (HD.out.on hb)) fun e w1 h=>by
    obtain⟨rfl,h3⟩:=h;refine⟨_,rfl,hK _ _ (by rw [FK.out]; rfl) ⟨fun j hj hne=>(h3.block j (aQ hj hb.size)).trans (hF.1 j hj hne),fun B hB=>(hF.2.1 B hB).trans (h3.mono (aA (aA hB (aX H6.out.lt)) hb.size)),fun _=>hb.trans (h3.mono hb.size),fun h=>absurd (h.resolve_left (by decide)) nS,aA hb.size h3.size⟩ fun j u hj dj _ _ _ h=>?_⟩;rcases (by omega:j=0\/j=1\/j=2\/j=3\/j=4\/j=5\/j=6\/j=7\/j=8\/j=9\/j=10\/j=11\/j=12\/j=13\/j=14\/j=15) with rfl|rfl|rfl|rfl|rfl|rfl|rfl|rfl|rfl|rfl|rfl|rfl|rfl|rfl|rfl|rfl
    ·exact h
    ·exact h
    ·exact h
    ·exact h
    ·exact h
    ·exact h
    ·exact h
    ·exact h
    ·exact h
    ·exact h
    ·exact h
    ·exact h
    ·exact h
    ·exact absurd dj n13
    ·exact h
    ·exact absurd (hc 15 _ dj rfl ⟨13,.data⟩ (by simp) rfl) n13
  ·cases ho;have e29:a.eval (aj 29)=J o2 n2 k2:=seen.at_ ⟨2,.data⟩ (by simp) rfl (aD (by decide)) _ rfl;have e33:a.eval (aj 33)=V U (ki:Int):=seen.at_ ⟨6,.data⟩ (by simp) rfl (aD (by decide)) _ rfl;exact aF rfl rfl (Rg.og a.eval _ 23 (aj 29) (aj 33) rfl (by rw [e29,e33]; exact IX.out x)) (hK _ _ rfl (still 7 (by decide)) fun _ _ _ _ _ _ _ h=>h)
  ·cases ho;have e34:a.eval (aj 34)=Z (X p):=seen.at_ ⟨7,.data⟩ (by simp) rfl (aD (by decide)) _ rfl;exact aF rfl rfl (bV a.eval _ 74 (aj 34) 2 rfl (by rw [e34]; simp [go_sem])) (hK _ _ rfl (still 8 (by decide)) fun _ _ _ _ _ _ _ h=>h)
  ·cases ho;have e35:a.eval (aj 35)=Z (X ⟨p.block,p.off+3,Y⟩):=seen.at_ ⟨8,.data⟩ (by simp) rfl (aD (by decide)) _ rfl;have y:x.cell? ⟨p.block,p.off+3,Y⟩=X (V U iq):=by
    have h:=PX.out;unfold World.cell? at h ⊢;rw [hF.1 _ PL.out PN.out];exact h
   exact aF rfl rfl (aY a.eval _ 3 (aj 35) rfl (by rw [e35]; simp [go_sem,y])) (hK _ _ rfl (still 9 (by decide)) fun _ _ _ _ _ _ _ h=>h)
  ·cases ho;have e8:a.eval (aj 8)=Z (X ⟨b8,0,Y⟩):=seen.kp 8 _ (nd 8 (by decide)) rfl;have ahI:=show dJ x _ _ _ from (hF.1 _ H8.out.lt N8.out).trans H8.out;obtain⟨y0,y1,y2,y3,y4,y5,y6⟩:=ahI.oJ;exact aF rfl rfl (aY a.eval _ 66 (aj 8) rfl (by rw [e8]; simp [go_sem,y0,y1,y2,y3,y4,y5,y6])) (hK _ _ rfl (still 10 (by decide)) fun _ _ _ _ _ _ _ h=>h)
  ·cases ho;have e37:a.eval (aj 37)=rV (c,d,c2,d2,(po,pn,pc),fr,up):=seen.at_ ⟨10,.data⟩ (by simp) rfl (aD (by decide)) _ rfl;have nS:¬ D 14:=fun h=>hnd (hc 14 _ h rfl ⟨11,.chain⟩ (by simp) rfl);have hb:=hF.2.2.1 nS;have n13:¬ D 13:=fun h=>hnd (hc 12 _ (hc 13 _ h rfl ⟨12,.data⟩ (by simp) rfl) rfl ⟨11,.data⟩ (by simp) rfl);exact dw rfl rfl (iD a.eval _ (aj 37) 66 48 rfl e37 rfl _ (gD cO rfl rfl _ _)) (ze (c,d,c2,d2,(po,pn,pc),fr,up) x) fun e w1 h=>by
    obtain⟨rfl,h3⟩:=h;refine⟨_,rfl,hK _ _ rfl ⟨fun j hj hne=>(h3.block j (aQ hj hb.size)).trans (hF.1 j hj hne),fun B hB=>(hF.2.1 B hB).trans (h3.mono (aA (aA hB (aX H6.out.lt)) hb.size)),fun _=>hb.trans (h3.mono hb.size),fun h=>absurd (h.resolve_left (by decide)) nS,aA hb.size h3.size⟩ fun j u hj dj _ _ _ h=>?_⟩;rcases (by omega:j=0\/j=1\/j=2\/j=3\/j=4\/j=5\/j=6\/j=7\/j=8\/j=9\/j=10\/j=11\/j=12\/j=13\/j=14\/j=15) with rfl|rfl|rfl|rfl|rfl|rfl|rfl|rfl|rfl|rfl|rfl|rfl|rfl|rfl|rfl|rfl
    ·exact h
    ·exact h
    ·exact h
    ·exact h
    ·exact h
    ·exact h
    ·exact h
    ·exact h
    ·exact h
    ·exact h
    ·exact h
    ·exact h
    ·exact h
    ·exact absurd dj n13
    ·exact h
    ·exact absurd (hc 15 _ dj rfl ⟨13,.data⟩ (by simp) rfl) n13
  ·cases ho;have e36:a.eval (aj 36)=V U iq:=seen.at_ ⟨9,.data⟩ (by simp) rfl (aD (by decide)) _ rfl;have e38:a.eval (aj 38)=aM #[V U 3,V U c,V U d,V U c2,V U d2,J po pn pc,J Y 0 0]:=seen.at_ ⟨11,.data⟩ (by simp) rfl (aD (by decide)) _ rfl;exact aF rfl rfl (dB a.eval _ 43 #[(0,aj 36),(1,aj 38)] rfl (ps:=#[(0,V U iq),(1,aM #[V U 3,V U c,V U d,V U c2,V U d2,J po pn pc,J Y 0 0])]) (by simp only [aT,bf,bg,e36,e38]) (by simp [go_sem])) (hK _ _ rfl (still 12 (by decide)) fun _ _ _ _ _ _ _ h=>h)
  ·cases ho;have e39:a.eval (aj 39)=vW (iq,3,c,d,c2,d2,(po,pn,pc),(Y,0,0)):=seen.at_ ⟨12,.data⟩ (by simp) rfl (aD (by decide)) _ rfl;have n15:¬ D 15:=fun h=>hnd (hc 15 _ h rfl ⟨13,.data⟩ (by simp) rfl);have hl:=iN Dk x [((iq,3,c,d,c2,d2,(po,pn,pc),(Y,0,0)):mh)] 1 rfl (by simp) (kU (iq,3,c,d,c2,d2,(po,pn,pc),(Y,0,0))).toArray (by simp [flat,EU]);have nb:=gu x (aH (kU (iq,3,c,d,c2,d2,(po,pn,pc),(Y,0,0))).toArray 43);have sz:=hF.2.2.2.2;have ff:oF W b6 #[V U me,J o1 n1 k1,J o2 n2 k2,J o3 n3 k3,J o4 n4 k4,J o5 n5 k5] (fun j=>j=13\/D j) (x.alloc (aH (kU (iq,3,c,d,c2,d2,(po,pn,pc),(Y,0,0))).toArray 43)):=⟨fun j hj hne=>(nb.block j (aQ hj sz)).trans (hF.1 j hj hne),fun B hB=>(hF.2.1 B hB).trans (nb.mono (aA (aA hB (aX H6.out.lt)) sz)),fun h=>(hF.2.2.1 fun q=>h (aD q)).trans (nb.mono sz),fun h=>(hF.2.2.2.1 (h.resolve_left (by decide))).on nb,aA sz nb.size⟩;have st:∀ j u,j<16->D j->j≠13->oV W.heap.size (aM #[V U me,J o1 n1 k1,J o2 n2 k2,J o3 n3 k3,J o4 n4 k4,J o5 n5 k5]) c d c2 d2 (J o2 n2 k2) ki p iq po pn pc fr up b3 b5 j u x->oV W.heap.size (aM #[V U me,J o1 n1 k1,J o2 n2 k2,J o3 n3 k3,J o4 n4 k4,J o5 n5 k5]) c d c2 d2 (J o2 n2 k2) ki p iq po pn pc fr up b3 b5 j u (x.alloc (aH (kU (iq,3,c,d,c2,d2,(po,pn,pc),(Y,0,0))).toArray 43)):=fun j u hj dj ni h=>by
    rcases (by omega:j=0\/j=1\/j=2\/j=3\/j=4\/j=5\/j=6\/j=7\/j=8\/j=9\/j=10\/j=11\/j=12\/j=13\/j=14\/j=15) with rfl|rfl|rfl|rfl|rfl|rfl|rfl|rfl|rfl|rfl|rfl|rfl|rfl|rfl|rfl|rfl
    ·exact h
    ·exact h
    ·exact h
    ·exact h
    ·exact h
    ·exact h
    ·exact h
    ·exact h
    ·exact h
    ·exact h
    ·exact h
    ·exact h
    ·exact h
    ·exact absurd rfl ni
    ·exact h
    ·exact absurd dj n15
   have q:=hK (J (X ⟨x.heap.size,0,Y⟩) 1 1) (x.alloc (aH (kU (iq,3,c,d,c2,d2,(po,pn,pc),(Y,0,0))).toArray 43)) (dN hl sz) ff fun j u hj dj _ _ ni h=>st j u hj dj ni h;exact aF rfl rfl (dx a.eval _ 35 1 #[(0,aj 39)] rfl (ps:=#[(0,vW (iq,3,c,d,c2,d2,(po,pn,pc),(Y,0,0)))]) (by simp [e39]) (by simp [go_sem])) q
  ·cases ho;have e27:a.eval (aj 27)=aM #[V U me,J o1 n1 k1,J o2 n2 k2,J o3 n3 k3,J o4 n4 k4,J o5 n5 k5]:=seen.at_ ⟨0,.data⟩ (by simp) rfl (aD (by decide)) _ rfl;have e6:a.eval (aj 6)=Z (X ⟨b6,0,Y⟩):=seen.kp 6 _ (nd 6 (by decide)) rfl;have hb:=hF.2.2.1 hnd;have H6x:=H6.out.on hb;have s4:=dK x b6 (V U me) (J o1 n1 k1) (J o2 n2 k2) (J o3 n3 k3) (J o4 n4 k4) (J o5 n5 k5);have hx:=dL H6x (V U me) (J o1 n1 k1) (J o2 n2 k2) (J o3 n3 k3) (J o4 n4 k4) (J o5 n5 k5);have hs:=pG H6x me o1 o2 o3 o4 o5 n1 k1 n2 k2 n3 k3 n4 k4 n5 k5;have hy:∀ B,B<=b6->Below B W (gF x b6 (V U me) (J o1 n1 k1) (J o2 n2 k2) (J o3 n3 k3) (J o4 n4 k4) (J o5 n5 k5)):=fun B hB=>dG (hF.2.1 B hB) hB _ _ _ _ _ _;have so:∀ v l,jK x W.heap.size v l->jK (gF x b6 (V U me) (J o1 n1 k1) (J o2 n2 k2) (J o3 n3 k3) (J o4 n4 k4) (J o5 n5 k5)) W.heap.size v l:=fun v l h=>fP h b6 H6.out.lt _ _ _ _ _ _;have sz:x.heap.size<=(gF x b6 (V U me) (J o1 n1 k1) (J o2 n2 k2) (J o3 n3 k3) (J o4 n4 k4) (J o5 n5 k5)).heap.size:=by simp [gF]
   generalize gF x b6 (V U me) (J o1 n1 k1) (J o2 n2 k2) (J o3 n3 k3) (J o4 n4 k4) (J o5 n5 k5)=x2 at *;have n15:¬ D 15:=fun h=>hnd (hc 15 _ h rfl ⟨14,.chain⟩ (by simp) rfl);have ff:oF W b6 #[V U me,J o1 n1 k1,J o2 n2 k2,J o3 n3 k3,J o4 n4 k4,J o5 n5 k5] (fun j=>j=14\/D j) x2:=⟨fun j hj hne=>(s4 j hne).trans (hF.1 j hj hne),hy,fun h=>absurd (bM rfl) h,fun _=>hx,aA hF.2.2.2.2 sz⟩;have st:∀ j u,j<16->D j->oV W.heap.size (aM #[V U me,J o1 n1 k1,J o2 n2 k2,J o3 n3 k3,J o4 n4 k4,J o5 n5 k5]) c d c2 d2 (J o2 n2 k2) ki p iq po pn pc fr up b3 b5 j u x->oV W.heap.size (aM #[V U me,J o1 n1 k1,J o2 n2 k2,J o3 n3 k3,J o4 n4 k4,J o5 n5 k5]) c d c2 d2 (J o2 n2 k2) ki p iq po pn pc fr up b3 b5 j u x2:=fun j u hj dj h=>by
    rcases (by omega:j=0\/j=1\/j=2\/j=3\/j=4\/j=5\/j=6\/j=7\/j=8\/j=9\/j=10\/j=11\/j=12\/j=13\/j=14\/j=15) with rfl|rfl|rfl|rfl|rfl|rfl|rfl|rfl|rfl|rfl|rfl|rfl|rfl|rfl|rfl|rfl
    ·exact h
    ·exact h
    ·exact h
    ·exact h
    ·exact h
    ·exact h
    ·exact h
    ·exact h
    ·exact h
    ·exact h
    ·exact h
    ·exact h
    ·exact h
    ·exact so _ _ h
    ·exact h
    ·exact absurd dj n15
   have q:=hK (bY true) x2 trivial ff fun j u hj dj _ _ _ h=>st j u hj dj h;have q2:K a x2:=q;exact Rg.fQ 28 (aj 6) (aj 27) rfl rfl rfl rfl e6 e27 hs q2
  ·cases ho;have o40:jK x W.heap.size (a.eval (aj 40)) [(iq,3,c,d,c2,d2,(po,pn,pc),(Y,0,0))]:=seen.at_ ⟨13,.data⟩ (by simp) rfl (aD (by decide)) _ rfl;exact aF rfl rfl (Rg.kI a.eval _ (aj 40) rfl x) (hK _ _ o40 (still 15 (by decide)) fun _ _ _ _ _ _ _ h=>h)
 ·intro a x df sz kp ⟨vs,hv⟩ ⟨D,hall,hF⟩;have h2:jK x W.heap.size (vs 15) [(iq,3,c,d,c2,d2,(po,pn,pc),(Y,0,0))]:=(hv 15 (by omega)).2 (by decide);have g9:a.tmps[7]?=X (vs 15):=(hv 15 (by omega)).1 7 rfl;obtain⟨sa,sc,hs⟩:=(Row.dH h2).len;rw [hs] at h2 g9;exact HQ.out a x (sa,_,sc) df ((kp 6 (nd 6 (by decide))).trans rfl) g9 (hF.2.2.2.1 (hall 14 (by omega))) h2 hF.1 hF.2.1
theorem DJ {W W':aI} {k:Nat} {me:Int} {s1 s2 s3 s4 s5:Sl} {v:aG} {l:List iL} {m:List En} (h1:lF W v l) (h2:fA (kr W) l m) (hb:dJ W k (jr me s1 s2 s3 s4 s5) 28) (hk:∀ j,j<W.heap.size->j≠k->W'.heap[j]?=W.heap[j]?):lF W' v l/\fA (kr W') l m :=
 ⟨iJ nN h1 hk (kS hb (fun _=>⟨_,_,rfl,rfl⟩) (lT me s1 s2 s3 s4 s5)),h2.mono fun _ _ hx=>⟨hx.1,hx.2.1,hx.2.2.1,hx.2.2.2.1,iJ uq hx.2.2.2.2 hk (rD hb (rE me s1 s2 s3 s4 s5))⟩⟩
theorem iw {W W':aI} {k:Nat} {me:Int} {s1 s2 s3 s4 s5:Sl} {s:Sl} {m:List Ou} (h:jE W s m) (hb:dJ W k (jr me s1 s2 s3 s4 s5) 28) (hk:∀ j,j<W.heap.size->j≠k->W'.heap[j]?=W.heap[j]?):jE W' s m:=by
 obtain⟨xs,h1,h2⟩:=h;exact⟨xs,iJ Dk h1 hk (kS hb (fun c=>⟨_,_,rfl,rfl⟩) (lT me s1 s2 s3 s4 s5)),h2.mono fun x a hx=>⟨hx.1,hx.2.1,hx.2.2.1,hx.2.2.2.1,iJ uq hx.2.2.2.2.1 hk (rD hb (rE me s1 s2 s3 s4 s5)),hx.2.2.2.2.2⟩⟩
theorem jg (b:Br) (t x:Id) (f:Int):(kH b t x f).1=(takeB b t x f).1:=by
 unfold kH
 split
 ·rfl
 ·split <;> rfl
theorem YM {W:aI} {l:List iL} {m:List En} (t:Int) (h:fA (kr W) l m):fA (rZ W) (l.map (KQ t)) (m.map (vG t)):=by
 induction h with
 | nil=>exact .nil
 | cons x _ ih=>exact .cons (acw x t) ih
theorem DK (b:Br) (nv av sv ev ov:Sl) (x s:Id) (f:Int) (w:aI) (h:iZ w b nv av sv ev ov) (l2:b.dQ.length<=900) (l3:b.ent.length<=900) (hok:∀ e∈b.ent,dZ e.p) (hkn:∀ e∈b.ent,e.tree∈b.dQ.map Ad.id) :
  Calls au 100 #[oK b.me nv av sv ev ov,mZ x,mZ s,V U f] w fun e w'=>(∃ ev' lo:Sl,e=.returned (.tuple #[oK b.me nv av sv ev' ov,dX lo])/\iZ w' (kH b x s f).1 nv av sv ev' ov/\jE w' lo (kH b x s f).2)/\Below w.heap.size w w':=by
 obtain⟨no,nn,nc⟩:=nv;obtain⟨ao,an,ac⟩:=av;obtain⟨so,sn,sc⟩:=sv;obtain⟨eo,en,ec⟩:=ev;obtain⟨oo,dY,oc⟩:=ov;obtain⟨c,d⟩:=x;obtain⟨c2,d2⟩:=s;have TK:=L (fun W hb'=>Qu b (no,nn,nc) (ao,an,ac) (so,sn,sc) (eo,en,ec) (oo,dY,oc) (c,d) (c2,d2) f W (h.on (show Below w.heap.size w W from hb')) l3 hok);have wW:=L h.near;have L2:=L l2;have L3:=L l3;have KN:=L hkn;obtain⟨h0,h1,h2,h3,h4⟩:=Ih w #[V U b.me,J no nn nc,J ao an ac,J so sn sc,J eo en ec,J oo dY oc] #[V U c,V U d] #[V U c2,V U d2] #[V U 0,J Y 0 0,J Y 0 0,J Y 0 0,J Y 0 0,J Y 0 0] 28 31 31 28;obtain⟨me,hme⟩:∃ me,me=b.me:=⟨_,rfl⟩;simp only [<- hme] at h0 h1 h2 h3 h4 TK ⊢;have gB:=L (h0);have qH:=L (h1);have mR:=L (h2);have lW:=L (h3);have uz:=L (h4);clear h0 h1 h2 h3 h4 h l2 l3 hme hok hkn;go_enter Tryz.func100,Tryz.ntmps100;go_upto_region 1 with fail;generalize ((((w.alloc (aH #[V U me,J no nn nc,J ao an ac,J so sn sc,J eo en ec,J oo dY oc] 28)).alloc (aH #[V U c,V U d] 31)).alloc (aH #[V U c2,V U d2] 31)).alloc (aH #[V U 0,J Y 0 0,J Y 0 0,J Y 0 0,J Y 0 0,J Y 0 0] 28))=W at *;have SW:=L (TK.out W gB.out);clear TK;obtain⟨x0,x1,x2,x3,x4,x5⟩:=qH.out.fu;obtain⟨y0,y1⟩:=mR.out.cs2;obtain⟨z0,z1⟩:=lW.out.cs2;go_wp2_with fail;refine SW.out.mono ?_;rintro e1 w1 ⟨⟨⟨ea,iA,iB⟩,⟨la,ln,lc⟩,rfl,hbr,xs,hrow,hall⟩,hb⟩;clear SW;clear x0 x1 x2 x3 x4 x5 y0 y1 z0 z1;obtain⟨fb,Ky⟩:∃ r,(takeB b (c,d) (c2,d2) f).2.2=r:=⟨_,rfl⟩;have LB:=L Ky;rw [Ky];obtain⟨qa,qc,hq⟩:=hrow.len;obtain rfl:ln=xs.length:=by simpa using congrArg (fun v=>match v with|Value.slice _ n _=>n|_=>0) hq
 obtain⟨ln,hln⟩:∃ n,n=xs.length:=⟨_,rfl⟩;simp only [<- hln] at hrow ⊢;have LN:=L hln.symm;clear hln hq;have jm:=L (gB.out.trans (hb.mono gB.out.size));have nU:=L (qH.out.on hb);have afa:=L (mR.out.on hb);have Fh:=L (lW.out.on hb);have QF:=L (uz.out.on hb);clear gB qH mR lW uz;obtain⟨k0,k1,k2,k3,k4,k5⟩:=nU.out.fu;obtain⟨oN,oO,oP,oQ,oU,oW⟩:=nU.out.kD;have zz:=nU.out.lt;have FB:=L (dL nU.out (V U me) (J no nn nc) (J ao an ac) (J so sn sc) (J ea iA iB) (J oo dY oc));have B2:=L (dG (b:=w.heap.size) jm.out (aN _) (V U me) (J no nn nc) (J ao an ac) (J so sn sc) (J ea iA iB) (J oo dY oc));have F5:=L (show dJ _ _ _ _ from (dK w1 w.heap.size (V U me) (J no nn nc) (J ao an ac) (J so sn sc) (J ea iA iB) (J oo dY oc) (w.heap.size+1) (by omega)).trans afa.out);have F6:=L (show dJ _ _ _ _ from (dK w1 w.heap.size (V U me) (J no nn nc) (J ao an ac) (J so sn sc) (J ea iA iB) (J oo dY oc) (w.heap.size+1+1) (by omega)).trans Fh.out);have F8:=L (show dJ _ _ _ _ from (dK w1 w.heap.size (V U me) (J no nn nc) (J ao an ac) (J so sn sc) (J ea iA iB) (J oo dY oc) (w.heap.size+1+1+1) (by omega)).trans QF.out);have HB:=L (fF (s1:=(no,nn,nc)) (s2:=(ao,an,ac)) (s3:=(so,sn,sc)) (s4:=(eo,en,ec)) (s5:=(oo,dY,oc)) hbr nU.out (fun j _ hj=>dK w1 w.heap.size (V U me) (J no nn nc) (J ao an ac) (J so sn sc) (J ea iA iB) (J oo dY oc) j hj) (by rw [(jQ b (c,d) (c2,d2) f).2.1]; exact wW.out.on B2.out));have HX:=L (DJ (s1:=(no,nn,nc)) (s2:=(ao,an,ac)) (s3:=(so,sn,sc)) (s4:=(eo,en,ec)) (s5:=(oo,dY,oc)) hrow hall nU.out (fun j _ hj=>dK w1 w.heap.size (V U me) (J no nn nc) (J ao an ac) (J so sn sc) (J ea iA iB) (J oo dY oc) j hj));clear Ky hbr hb hrow hall jm nU afa Fh QF;go_upto_region 2 with fail;clear zz k0 k1 k2 k3 k4 k5 oN oO oP oQ oU oW;unfold gF at FB B2 F5 F6 F8 HB HX;generalize ((((((w1.setCell ⟨w.heap.size,0,Y⟩ (V U me)).setCell ⟨w.heap.size,1,Y⟩ (J no nn nc)).setCell ⟨w.heap.size,2,Y⟩ (J ao an ac)).setCell ⟨w.heap.size,3,Y⟩ (J so sn sc)).setCell ⟨w.heap.size,4,Y⟩ (J ea iA iB)).setCell ⟨w.heap.size,5,Y⟩ (J oo dY oc))=w2 at *;have mq:=L (B2.out);have vI:=L (FB.out);have YN:=L (F5.out);have Iz:=L (F6.out);have Ap:=L (F8.out);clear B2 FB F5 F6 F8;cases fb
 ·have x0:=vI.out.cell 0;have x1:=vI.out.cell 1;have x2:=vI.out.cell 2;have x3:=vI.out.cell 3;have x4:=vI.out.cell 4;have x5:=vI.out.cell 5;simp only [ak,ay,aB] at x0 x1 x2 x3 x4 x5;obtain⟨r0,r1,r2,r3,r4,r5⟩:=Ap.out.fu;obtain⟨wG,uD,yR,Ae,Af,Ag⟩:=Ap.out.kD;have zz:=Ap.out.lt;have GG:=L (dL Ap.out (V U me) (J no nn nc) (J ao an ac) (J so sn sc) (J ea iA iB) (J oo dY oc));have BL:=L (dG (b:=w.heap.size+1+1+1) mq.out (by omega) (V U me) (J no nn nc) (J ao an ac) (J so sn sc) (J ea iA iB) (J oo dY oc));have HC:=L (fF (s1:=(Y,0,0)) (s2:=(Y,0,0)) (s3:=(Y,0,0)) (s4:=(Y,0,0)) (s5:=(Y,0,0)) HB.out Ap.out (fun j _ hj=>dK w2 (w.heap.size+1+1+1) (V U me) (J no nn nc) (J ao an ac) (J so sn sc) (J ea iA iB) (J oo dY oc) j hj) (by rw [(jQ b (c,d) (c2,d2) f).2.1]; exact wW.out.on BL.out));clear HB HX;go_wp2_with fail;obtain⟨v0,v1,v2,v3,v4,v5⟩:=GG.out.fu;refine bodyPost_ret (v:=.tuple #[aM #[V U me,J no nn nc,J ao an ac,J so sn sc,J ea iA iB,J oo dY oc],J Y 0 0]) (by simp [results,bW,go_sem,v0,v1,v2,v3,v4,v5]) rfl ?_;have hd:kH b (c,d) (c2,d2) f=((takeB b (c,d) (c2,d2) f).1,[]):=by unfold kH; rw [if_pos LB.out]
  rw [hd];exact⟨⟨(ea,iA,iB),(Y,0,0),rfl,HC.out,qK _⟩,BL.out⟩
 ·obtain⟨e0,he0,ht0⟩:=KR LB.out;have hmem:(c,d)∈b.dQ.map Ad.id:=ht0 ▸ KN.out e0 he0;obtain⟨k,hk1,hk2⟩:=Dz _ _ hmem;rw [bQ] at hk2;obtain⟨a,hak⟩:∃ a,b.dQ[k]?=X a:=by
   cases h:b.dQ[k]? with
   | none=>rw [h] at hk2; cases hk2
   | some a=>exact⟨a,rfl⟩
  have DB:=L (show kH b (c,d) (c2,d2) f=((takeB b (c,d) (c2,d2) f).1,(takeB b (c,d) (c2,d2) f).2.1.map (vG a.par)++[⟨a.par,4,(c,d),(c2,d2),[]⟩]) from by
   unfold kH;rw [if_neg (by rw [LB.out]; simp),hk1,Int.toNat_natCast,hak])
  clear hk2 hmem he0 ht0 e0;obtain⟨ad,yT,wM⟩:=HB.out.dQ;rw [(jQ b (c,d) (c2,d2) f).1] at wM;obtain⟨z,hz1,hz2⟩:=wM.at k a hak;have FD:=tN me (J no nn nc) (J ea iA iB) (J so sn sc) (J oo dY oc) (ao,an,ac) ad (c,d);rw [zI wM,hk1] at FD;obtain⟨q1,q2,hq⟩:=yT.len;obtain⟨rfl,rfl,rfl⟩:ao=q1/\an=ad.length/\ac=q2:=by
   have:J ao an ac=J q1 ad.length q2:=hq;simpa using this
  obtain⟨p,ix,px⟩:=Mf yT rfl rfl hz1;obtain⟨p0,p1,p2,p3⟩:=px w2 (ah _ _);obtain⟨z1,z2,⟨z3,z4,z5⟩,z6⟩:=z;simp only at p0 p1 p2 p3;obtain rfl:z6=a.par:=hz2.2.1;have CE:=L (fun d os=>Calls.regrown_of (d:=d) (os:=os) (FD _ (yT.on (below_regrown w2 d os))));obtain⟨an,han⟩:∃ n,n=ad.length:=⟨_,rfl⟩;clear FD hq px p0 p1 p2;have q3:=cell_regrown p3;simp only [<- han] at ix CE vI HB;have HAN:=L han;clear han hz2 hak hk1 wM yT hz1 p3;have a0:=cell_regrown (show w2.cell? ⟨w.heap.size,0,Y⟩=X (V U me) from vI.out.cell 0);have a1:=cell_regrown (show w2.cell? ⟨w.heap.size,1,Y⟩=X (J no nn nc) from vI.out.cell 1);have a2:=cell_regrown (show w2.cell? ⟨w.heap.size,2,Y⟩=X (J ao an ac) from vI.out.cell 2);have a3:=cell_regrown (show w2.cell? ⟨w.heap.size,3,Y⟩=X (J so sn sc) from vI.out.cell 3);have a4:=cell_regrown (show w2.cell? ⟨w.heap.size,4,Y⟩=X (J ea iA iB) from vI.out.cell 4);have a5:=cell_regrown (show w2.cell? ⟨w.heap.size,5,Y⟩=X (J oo dY oc) from vI.out.cell 5);have b0:=cell_regrown (show w2.cell? ⟨w.heap.size+1,0,Y⟩=X (V U c) from YN.out.cell 0);have b1:=cell_regrown (show w2.cell? ⟨w.heap.size+1,1,Y⟩=X (V U d) from YN.out.cell 1);go_upto_region 4 with fail;refine wp_region_quiet_below (by kernel_rfl) (by kernel_rfl) ?_
  repeat (go_big_quiet_step (first | (with_reducible exact CE.out _ _)))
  refine wpQuiet_nil ?_;intro _ hw';obtain⟨⟨dq,osq⟩,hw''⟩:=hw';subst hw'';have Z6:=below_regrown w2 dq osq;have HB2:=L (HB.out.on Z6);have HX2:=L (show lF _ _ _/\fA (kr _) _ _ from ⟨HX.out.1.on Z6,HX.out.2.mono fun _ _ h=>h.on Z6⟩);have DN:=L (mq.out.trans (Z6.mono mq.out.size));have ZK:=L (vI.out.on Z6);have ZM:=L (YN.out.on Z6);have ZN:=L (Iz.out.on Z6);have pQ:=L (Ap.out.on Z6);clear mq vI YN Iz Ap;clear Z6 HB HX CE ix q3 a0 a1 a2 a3 a4 a5 b0 b1;generalize grow (redrawn w2 dq) osq=w3 at *;generalize a.par=iq at *;go_wp2_with fail
  go_loopw [13,38] (fun v i wr=>∃ k:Nat,k<=ln/\i=V U k/\Below w3.heap.size w3 wr/\jK wr w3.heap.size v ((xs.take k).map (KQ iq))) (fun _ i _=>ln-(intOf i).toNat)
  case atStart=>exact⟨0,bH _,rfl,ah _ _,iM _ _⟩
  case round =>
   obtain⟨k,hk,rfl,hbe,hown⟩:=hrel;have BE:=L hbe;have OE:=L hown;clear hbe hown;have L9:=L (show ln<=900 from by have h1:=HX2.out.2.len; rw [LN.out] at h1; rw [h1]; exact aA (uj b (c,d) (c2,d2) f).2 L3.out);have l9:=L9.out;by_cases hlt:k<ln
   ·have hlt':(k:Int)<(ln:Int):=by omega
    have hw:IntKind.i64.wrap ((k:Int)+1)=(k:Int)+1:=IntWalk.i64_in _ (by omega);obtain⟨y,hy⟩:∃ y,xs[k]?=X y:=⟨_,aC (by rw [LN.out]; exact hlt)⟩;obtain⟨p,ix,px⟩:=Pp HX2.out.1 rfl LN.out hy;obtain⟨p0,p1,p2,p3,p4,p5,p6⟩:=px wr BE.out;have TKY:=L (show (xs.take (k+1)).map (KQ iq)=(xs.take k).map (KQ iq)++[KQ iq y] from by rw [bR,hy]; simp);obtain⟨y1,y2,y3,y4,⟨yo,yn,yc⟩,y6,y7⟩:=y;simp only at p0 p1 p2 p3 p4 p5 p6;clear px hy;go_upto_region 9 with fail;clear p0 p1 p2 p3 p4 p5 p6 ix;have NN:=gu wr (aH #[V U y1,V U y2,V U y3,V U y4,J yo yn yc,V U y6,bY y7] 66);have XE:=dO wr #[V U y1,V U y2,V U y3,V U y4,J yo yn yc,V U y6,bY y7] 66;have Ut:=L (BE.out.trans (NN.mono BE.out.size));have PV:=L (Bk.dI OE.out NN);clear BE OE NN;generalize wr.alloc (aH #[V U y1,V U y2,V U y3,V U y4,J yo yn yc,V U y6,bY y7] 66)=wa at *;obtain⟨c0_,c1_,c2_,c3_,c4_,c5_,c6_⟩:=XE.oJ;have SB:=ze (y1,y2,y3,y4,(yo,yn,yc),y6,y7) wa;go_wp2_with fail;refine SB.mono ?_;rintro e3 wb ⟨rfl,hb⟩;clear SB XE c0_ c1_ c2_ c3_ c4_ c5_ c6_;have BE3:=L (Ut.out.trans (hb.mono Ut.out.size));have OE3:=L (Bk.dI PV.out hb);clear hb Ut PV;have hl:=iN Dk wb [((iq,3,y1,y2,y3,y4,(yo,yn,yc),(Y,0,0)):mh)] 1 rfl (by simp) #[V U iq,V U 3,V U y1,V U y2,V U y3,V U y4,J yo yn yc,J Y 0 0] (by rfl);have NB:=gu wb (aH #[V U iq,V U 3,V U y1,V U y2,V U y3,V U y4,J yo yn yc,J Y 0 0] 43);obtain⟨v',x5,q2,o2,g2⟩:=gI Dk w3.heap.size (Bk.dI OE3.out NB) (Row.dH hl) (by rw [bG,aU]; omega) (by simp) (aA BE3.out.size NB.size) 35;have q2:(Builtin.append_ #[35,35] 35 #[u13,J (X ⟨wb.heap.size,0,Y⟩) 1 1]).run au (wb.alloc (aH #[V U iq,V U 3,V U y1,V U y2,V U y3,V U y4,J yo yn yc,J Y 0 0] 43))=.ok v' x5:=q2;have BX:=L ((BE3.out.trans (NB.mono BE3.out.size)).grown g2 (aA BE3.out.size NB.size) (fun j hj=>((Bk.dI OE3.out NB).lt j hj).1));have O2:=L o2;clear hl NB o2 g2;go_wp2_with (first | (at_builtin; refine wpList_append_run rfl _ _ 35 rfl rfl rfl q2 ?_) | fail)
    go_roundw
    case rel=>exact⟨k+1,hlt,by go_num,BX.out,by rw [TKY.out]; exact O2.out⟩
    case measure=>simp [intOf]; omega
   ·obtain rfl:k=ln:=by omega
    have ht:xs.take k=xs:=bF (by rw [LN.out]; exact aN _);rw [ht] at OE;clear ht;go_upto_region 11 with fail;refine Ud _ wr w3.heap.size w.heap.size (w.heap.size+1) (w.heap.size+1+1) (w.heap.size+1+1+1) me iq c d c2 d2 no ao so ea oo nn nc an ac sn sc iA iB dY oc u13 (xs.map (KQ iq)) _ _ _ _ _ _ _ _ _ _ _ _ _ _ _ _ _ _ _ _ _ _ _ _ _ _ _ _ _ _ _ _ _ _ _ _ _ _ _ _ _ _ _ _ _ _ _ _ _ _ _ _ _ _ _ _ _ _ _ (ZK.out.on BE.out) (ZM.out.on BE.out) (ZN.out.on BE.out) (pQ.out.on BE.out) ZK.out.lt ZM.out.lt ZN.out.lt pQ.out.lt (by omega) (by omega) (by omega) BE.out.size OE.out (by rw [bG,LN.out]; omega) ?_;intro a9 x9 sl Ho h69 h79 hbx ho hblk hbl;have BL:=L (show Below w.heap.size w x9 from (DN.out.trans (BE.out.mono DN.out.size)).trans (hbl w.heap.size (by omega)));have HK:=L (show ∀ j,j<w3.heap.size->j≠w.heap.size+1+1+1->x9.heap[j]?=w3.heap[j]? from fun j hj hne=>(hblk j hj hne).trans (BE.out.block j hj));have HC:=L (fF (s1:=(Y,0,0)) (s2:=(Y,0,0)) (s3:=(Y,0,0)) (s4:=(Y,0,0)) (s5:=(Y,0,0)) HB2.out pQ.out HK.out (by rw [(jQ b (c,d) (c2,d2) f).2.1]; exact wW.out.on BL.out));have HX3:=L (DJ (s1:=(Y,0,0)) (s2:=(Y,0,0)) (s3:=(Y,0,0)) (s4:=(Y,0,0)) (s5:=(Y,0,0)) HX2.out.1 HX2.out.2 pQ.out HK.out);have HU:=L (Row.dH ho);obtain⟨v0,v1,v2,v3,v4,v5⟩:=hbx.fu;clear hbx ho hblk hbl HB2 HX2 BE OE;simp only [Exit.then]
    apply_assumption
    go_wp2_with fail;refine bodyPost_ret (v:=.tuple #[aM #[V U me,J no nn nc,J ao an ac,J so sn sc,J ea iA iB,J oo dY oc],dX sl]) (by simp [results,bW,go_sem,h69,h79,v0,v1,v2,v3,v4,v5]) Ho ?_;have h9:=HAN.out;subst h9;rw [DB.out];exact⟨⟨(ea,iA,iB),sl,rfl,HC.out,_,HU.out,(YM iq HX3.out.2).append (.cons ⟨rfl,rfl,rfl,rfl,ji _,rfl⟩ .nil)⟩,BL.out⟩
theorem wN {α:Type} {E:Ek α} (K:E.Ok) {w:aI} (B:Nat) {v x:aG} {l m:List α} (hown:Own E w B v l) (hx:Row E w x m) (hn:l.length<=1000000) (hm:m.length<=1000000) (hB:B<=w.heap.size) (ty:TypeId) :
  ∃ v' w',(Builtin.append_ #[E.ts,E.ts] ty #[v,x]).run au w=.ok v' w'/\Own E w' B v' (l++m)/\w.grownBy w' v.ownBlock:=by
 obtain⟨i,i1,i2,i3,i4⟩:=K.info;rcases hx with⟨rfl,rfl⟩|⟨ad,c,rfl,h2,h3,h4⟩
 ·exact⟨v,w,run_append_owned_none (P:=au) (w:=w) B E.ts ty E.t i E.n K.hu i1 v _ _ hown,by simpa using hown,q9 _ _⟩
 ·have hf:=K.few;obtain⟨v',w',r1,r2,r3,_⟩:=run_append_own (P:=au) w B E.ts ty E.t i E.z E.n E.bytes K.hu i1 i2 i3 i4 K.zs K.pos v _ _ hown ad m.length c (flat E m) (eG K m) h4 (qw K m) (by unfold maxLen; omega)
   (aA (bZ (show l.length+m.length<=2000000 by omega) hf) (by decide)) hB
  exact⟨v',w',r1,by rw [Own,aR,gU]; exact r2,r3⟩
def Fj (B:Nat) (_ _:Nat) (me:Int) (o1 o2 o3 o4 o5:Option aS) (n1 k1 n2 k2 n3 k3 n4 k4 n5 k5:Nat) (so iq:Option aS) (sn sc tn tc:Nat) (lo ls:List mh) (_ _ _ _ _ _:aG) (i:Nat) (v:aG) (x:aI):Prop :=
 match i with
 | 0=>v=aM #[V U me,J o1 n1 k1,J o2 n2 k2,J o3 n3 k3,J o4 n4 k4,J o5 n5 k5]
 | 1=>jK x B v []
 | 2=>v=J so sn sc
 | 3=>jK x B v lo
 | 4=>v=J iq tn tc
 | 5=>jK x B v (lo++ls)
 | _=>True
noncomputable def Uu:Code:=((Tryz.f38.body.bind (eT 16)).getD .skip)
theorem QG (B:Nat) (b2 b12:Nat) (me:Int) (o1 o2 o3 o4 o5:Option aS) (n1 k1 n2 k2 n3 k3 n4 k4 n5 k5:Nat) (so iq:Option aS) (sn sc tn tc:Nat) (lo ls:List mh) (z0 z1 z2 z3 z4 z5:aG) (i:Nat) (v:aG) (x x':aI) (h:Fj B b2 b12 me o1 o2 o3 o4 o5 n1 k1 n2 k2 n3 k3 n4 k4 n5 k5 so iq sn sc tn tc lo ls z0 z1 z2 z3 z4 z5 i v x) (hb:Below x.heap.size x x'):Fj B b2 b12 me o1 o2 o3 o4 o5 n1 k1 n2 k2 n3 k3 n4 k4 n5 k5 so iq sn sc tn tc lo ls z0 z1 z2 z3 z4 z5 i v x':=by
 by_cases hi:i<6
 ·rcases (by omega:i=0\/i=1\/i=2\/i=3\/i=4\/i=5) with rfl|rfl|rfl|rfl|rfl|rfl
  ·exact h
  ·exact dI h hb
  ·exact h
  ·exact dI h hb
  ·exact h
  ·exact dI h hb
 ·unfold Fj
  split <;> first | omega | trivial
theorem afc (Q:Exit->Act->aI->Prop) (W:aI) (b2 b12:Nat) (me:Int) (o1 o2 o3 o4 o5:Option aS) (n1 k1 n2 k2 n3 k3 n4 k4 n5 k5:Nat) (so iq:Option aS) (sn sc tn tc:Nat) (lo ls:List mh) (z0 z1 z2 z3 z4 z5:aG) (u0 u1 u3 u4 u5 u6 u7 u8 u10 u11 u14 u15 u16 u17 u18 u19 u20 u21 u22 u23 u24 u25 u26 u27 u28 u29 u30 u31 u32 u33 u34 u35 u36 u37 u38 u39 u40 u41 u42 u43 u44 u45 u46 u47 u48 u49 u50 u51 u52 u53 u54 u55 u56 u57 u58 u59 u60 u61 u62:aG)
  (h2:dJ W b2 #[z0,z1,z2,z3,z4,z5] 28) (h12:dJ W b12 #[V U me,J o1 n1 k1,J o2 n2 k2,J o3 n3 k3,J o4 n4 k4,J o5 n5 k5] 28) (vN:P8 W (J so sn sc) lo) (rls:P8 W (J iq tn tc) ls) (l9:lo.length<=1000000) (s9:ls.length<=1000000)
  (hQ:∀ (x:aI) (w9:aG) (v54 v55 v56 v57 v58 v59:aG),dJ x b2 #[V U me,J o1 n1 k1,J o2 n2 k2,J o3 n3 k3,J o4 n4 k4,J o5 n5 k5] 28->jK x W.heap.size w9 (lo++ls)->(∀ j,j<W.heap.size->j≠b2->x.heap[j]?=W.heap[j]?)->(∀ B,B<=b2->Below B W x)->Q .normal ⟨(u0::u1::Z (X ⟨b2,0,Y⟩)::u3::u4::u5::u6::u7::u8::w9::u10::u11::Z (X ⟨b12,0,Y⟩)::J iq tn tc::u14::u15::u16::u17::u18::u19::u20::u21::u22::u23::u24::u25::u26::u27::u28::u29::u30::u31::u32::u33::u34::u35::u36::u37::u38::u39::u40::u41::u42::u43::u44::u45::u46::u47::u48::u49::u50::u51::u52::u53::v54::v55::v56::v57::v58::v59::u60::u61::u62::[]).toArray,[]⟩ x) :
  Code.wp au Uu Q ⟨(u0::u1::Z (X ⟨b2,0,Y⟩)::u3::u4::u5::u6::u7::u8::J so sn sc::u10::u11::Z (X ⟨b12,0,Y⟩)::J iq tn tc::u14::u15::u16::u17::u18::u19::u20::u21::u22::u23::u24::u25::u26::u27::u28::u29::u30::u31::u32::u33::u34::u35::u36::u37::u38::u39::u40::u41::u42::u43::u44::u45::u46::u47::u48::u49::u50::u51::u52::u53::u54::u55::u56::u57::u58::u59::u60::u61::u62::[]).toArray,[]⟩ W:=by
 have HQ:=L hQ;have H2:=L h2;have H12:=L h12;have RLO:=L vN;have RLS:=L rls;have LO:=L l9;have LS:=L s9;clear hQ h2 h12 vN rls l9 s9;have iT:=QG W.heap.size b2 b12 me o1 o2 o3 o4 o5 n1 k1 n2 k2 n3 k3 n4 k4 n5 k5 so iq sn sc tn tc lo ls z0 z1 z2 z3 z4 z5;unfold Uu
 conv=>arg 2; whnf
 have nd:∀ j,(∀ i,i<6->[54,55,56,57,58,59].getD i 0≠j)->∀ i,i<6->(fun i=>[54,55,56,57,58,59].getD i 0) i≠j:=fun j h=>h;refine Rg.fT 8 6 (fun i=>[54,55,56,57,58,59].getD i 0) (fun i=>if i=1 then 3 else if i=3 then 5 else 6) (Fj W.heap.size b2 b12 me o1 o2 o3 o4 o5 n1 k1 n2 k2 n3 k3 n4 k4 n5 k5 so iq sn sc tn tc lo ls z0 z1 z2 z3 z4 z5) (by kernel_rfl) (by kernel_rfl) rfl (by decide) (fun i j hi hj h=>(by decide:∀ i,i<6->∀ j,j<6->[54,55,56,57,58,59].getD i 0=[54,55,56,57,58,59].getD j 0->i=j) i hi j hj h) (fun i hi=>(by decide:∀ i,i<6->[54,55,56,57,58,59].getD i 0<63) i hi) ?_ (fun _=>Rg.jk 14 (by kernel_rfl)) ?_ ?_
 ·intro i o hi ho a x D hnd hc hD hb seen K hK;clear HQ;rcases (by omega:i=0\/i=1\/i=2\/i=3\/i=4\/i=5) with rfl|rfl|rfl|rfl|rfl|rfl
  ·cases ho;have e12:a.eval (aj 12)=Z (X ⟨b12,0,Y⟩):=seen.kp 12 _ (nd 12 (by decide)) rfl;obtain⟨y0,y1,y2,y3,y4,y5⟩:=(H12.out.on hb).fu;exact aF rfl rfl (aY a.eval _ 28 (aj 12) rfl (by rw [e12]; simp [go_sem,y0,y1,y2,y3,y4,y5])) (hK _ _ rfl (ah _ _) fun _ _ _ _ _ _ _ h=>h)
  ·cases ho;have nb:=gu x (aH #[] 43);have hl:=qy (B':=W.heap.size) hb.size (F7 (E:=EU) x);exact aF rfl rfl (dx a.eval _ 35 0 #[] rfl rfl (by simp [go_sem])) (hK (J (X ⟨x.heap.size,0,Y⟩) 0 0) (x.alloc (aH #[] 43)) hl (nb.mono hb.size) fun j u _ _ _ _ _ h=>iT j u _ _ h nb)
  ·cases ho;have e9:a.eval (aj 9)=J so sn sc:=seen.kp 9 _ (nd 9 (by decide)) rfl;exact aF rfl rfl (cZ a.eval _ (aj 9) rfl x) (hK _ _ e9 (ah _ _) fun _ _ _ _ _ _ _ h=>h)
  ·cases ho;have E55:=seen.at_ ⟨1,.data⟩ (by simp) rfl (bM rfl);have e56:a.eval (aj 56)=J so sn sc:=seen.at_ ⟨2,.data⟩ (by simp) rfl (aD (by decide));have o55:jK x W.heap.size (a.eval (aj 55)) []:=E55;obtain⟨v',x',r,o',gr⟩:=wN Dk W.heap.size o55 (RLO.out.on hb) (by simp) LO.out hb.size 35;have o'':jK x' W.heap.size v' lo:=by simpa using o'
   exact aF rfl rfl (dh a.eval _ (aj 55) (aj 56) 35 rfl rfl e56 r) (hK v' x' o'' ((ah _ x).grown gr hb.size fun j hj=>(o55.lt j hj).1) fun j u hj dj nl nx ni h=>by
    rcases (by omega:j=0\/j=1\/j=2\/j=3\/j=4\/j=5) with rfl|rfl|rfl|rfl|rfl|rfl
    ·exact h
    ·exact absurd rfl nx
    ·exact h
    ·exact absurd rfl ni
    ·exact h
    ·exact absurd (hc 5 _ dj rfl ⟨3,.data⟩ (by simp) rfl) hnd)
  ·cases ho;have e13:a.eval (aj 13)=J iq tn tc:=seen.kp 13 _ (nd 13 (by decide)) rfl;exact aF rfl rfl (cZ a.eval _ (aj 13) rfl x) (hK _ _ e13 (ah _ _) fun _ _ _ _ _ _ _ h=>h)
  ·cases ho;have E57:=seen.at_ ⟨3,.data⟩ (by simp) rfl (bM rfl);have e58:a.eval (aj 58)=J iq tn tc:=seen.at_ ⟨4,.data⟩ (by simp) rfl (aD (by decide));have o57:jK x W.heap.size (a.eval (aj 57)) lo:=E57;obtain⟨v',x',r,o',gr⟩:=wN Dk W.heap.size o57 (RLS.out.on hb) LO.out LS.out hb.size 35;have d3:D 3:=hD ⟨3,.data⟩ (by simp) rfl;exact aF rfl rfl (dh a.eval _ (aj 57) (aj 58) 35 rfl rfl e58 r) (hK v' x' o' ((ah _ x).grown gr hb.size fun j hj=>(o57.lt j hj).1) fun j u hj dj nl nx ni h=>by
    rcases (by omega:j=0\/j=1\/j=2\/j=3\/j=4\/j=5) with rfl|rfl|rfl|rfl|rfl|rfl
    ·exact h
    ·exact absurd d3 nl
    ·exact h
    ·exact absurd rfl nx
    ·exact h
    ·exact absurd rfl ni)
 ·intro kk o h1 h2 ho;rcases (by omega:kk=7) with rfl
  ·cases ho;exact⟨⟨6,.chain⟩,by simp,rfl,rfl⟩
 ·intro a w' df sz kp ⟨vs,hv⟩ hb;have sz':a.tmps.size=63:=sz;have g2:a.tmps[2]?=X (Z (X ⟨b2,0,Y⟩)):=(kp 2 (nd 2 (by decide))).trans rfl;have g54:a.tmps[54]?=X (aM #[V U me,J o1 n1 k1,J o2 n2 k2,J o3 n3 k3,J o4 n4 k4,J o5 n5 k5]):=by
   have h:vs 0=aM #[V U me,J o1 n1 k1,J o2 n2 k2,J o3 n3 k3,J o4 n4 k4,J o5 n5 k5]:=(hv 0 (by omega)).2 (by decide);rw [<- h];exact (hv 0 (by omega)).1
  have g59:a.tmps[59]?=X (vs 5):=(hv 5 (by omega)).1;have G59:=(hv 5 (by omega)).2 (by decide);have o59:jK w' W.heap.size (vs 5) (lo++ls):=G59;generalize vs 5=v' at *;have H2x:=H2.out.on hb;have lt2:=H2.out.lt;show dn _ _ _ 2 6 a w';simp only [dn];refine Rg.fQ 28 (aj 2) (aj 54) rfl rfl rfl rfl (cu g2) (cu g54) (w':=gF w' b2 (V U me) (J o1 n1 k1) (J o2 n2 k2) (J o3 n3 k3) (J o4 n4 k4) (J o5 n5 k5)) (pG H2x me _ _ _ _ _ _ _ _ _ _ _ _ _ _ _) ?_;refine aF rfl rfl (Rg.kI a.eval _ (aj 59) rfl _) ?_;show Q .normal (a.put (X 9) (a.eval (aj 59))) _;rw [cu g59];have hx:=dL H2x (V U me) (J o1 n1 k1) (J o2 n2 k2) (J o3 n3 k3) (J o4 n4 k4) (J o5 n5 k5);have ho:=fP o59 b2 lt2 (V U me) (J o1 n1 k1) (J o2 n2 k2) (J o3 n3 k3) (J o4 n4 k4) (J o5 n5 k5);have hk:∀ j,j<W.heap.size->j≠b2->(gF w' b2 (V U me) (J o1 n1 k1) (J o2 n2 k2) (J o3 n3 k3) (J o4 n4 k4) (J o5 n5 k5)).heap[j]?=W.heap[j]?:=fun j hj hne=>(dK w' b2 (V U me) (J o1 n1 k1) (J o2 n2 k2) (J o3 n3 k3) (J o4 n4 k4) (J o5 n5 k5) j hne).trans (hb.block j hj);have hbl:∀ B,B<=b2->Below B W (gF w' b2 (V U me) (J o1 n1 k1) (J o2 n2 k2) (J o3 n3 k3) (J o4 n4 k4) (J o5 n5 k5)):=fun B hB=>dG (hb.mono (aX (bN hB lt2))) hB _ _ _ _ _ _;obtain⟨sa,iI,hsv⟩:=(Row.dH ho).len;generalize gF w' b2 (V U me) (J o1 n1 k1) (J o2 n2 k2) (J o3 n3 k3) (J o4 n4 k4) (J o5 n5 k5)=x2 at *;have ka:∀ j,j≠9->(a.put (X 9) v').tmps[j]?=a.tmps[j]?:=fun j h1=>by rw [cB _ _ _ _ (by omega)]
  have kt:(a.put (X 9) v').tmps[9]?=X (v'):=by simp [bL,sz']
  have rA:∀ j,(j<54\/60<=j)->(a.put (X 9) v').tmps[j]?=(u0::u1::Z (X ⟨b2,0,Y⟩)::u3::u4::u5::u6::u7::u8::v'::u10::u11::Z (X ⟨b12,0,Y⟩)::J iq tn tc::u14::u15::u16::u17::u18::u19::u20::u21::u22::u23::u24::u25::u26::u27::u28::u29::u30::u31::u32::u33::u34::u35::u36::u37::u38::u39::u40::u41::u42::u43::u44::u45::u46::u47::u48::u49::u50::u51::u52::u53::u54::u55::u56::u57::u58::u59::u60::u61::u62::[])[j]?:=fun j hj=>by
   by_cases hj2:j=9
   ·subst hj2;exact kt
   ·have hs:(u0::u1::Z (X ⟨b2,0,Y⟩)::u3::u4::u5::u6::u7::u8::v'::u10::u11::Z (X ⟨b12,0,Y⟩)::J iq tn tc::u14::u15::u16::u17::u18::u19::u20::u21::u22::u23::u24::u25::u26::u27::u28::u29::u30::u31::u32::u33::u34::u35::u36::u37::u38::u39::u40::u41::u42::u43::u44::u45::u46::u47::u48::u49::u50::u51::u52::u53::u54::u55::u56::u57::u58::u59::u60::u61::u62::[]:List aG)=(u0::u1::Z (X ⟨b2,0,Y⟩)::u3::u4::u5::u6::u7::u8::J so sn sc::u10::u11::Z (X ⟨b12,0,Y⟩)::J iq tn tc::u14::u15::u16::u17::u18::u19::u20::u21::u22::u23::u24::u25::u26::u27::u28::u29::u30::u31::u32::u33::u34::u35::u36::u37::u38::u39::u40::u41::u42::u43::u44::u45::u46::u47::u48::u49::u50::u51::u52::u53::u54::u55::u56::u57::u58::u59::u60::u61::u62::[]).set 9 (v'):=rfl;rw [hs,bI (Ne.symm hj2)];exact (ka j hj2).trans ((kp j (nd j fun i hi h=>by have:=(by decide:∀ i,i<6->54<=[54,55,56,57,58,59].getD i 0/\[54,55,56,57,58,59].getD i 0<60) i hi; omega)).trans ak)
  obtain⟨mid,hmid,hfr⟩:=Rg.gG (a:=a.put (X 9) v') 54 6 (by simp [bL,df]) (by simp [bL,sz']) (by simp) rA;rw [hfr]
  match mid,hmid with
  | [v54,v55,v56,v57,v58,v59],_ =>
   exact HQ.out x2 _ _ _ _ _ _ _ hx ho hk hbl
theorem xY {t:Id} {m:List En} (R:En->Prop) (hR:∀ e,e.tree=t->R e->R (XA e)) (h:∀ e∈m,R e):∀ k,(∀ e∈(iW t m k).1,R e)/\∀ e∈(iW t m k).2,R e
 | 0=>⟨h,fun e he=>by simp [iW] at he⟩
 | k+1=>by
  have ih:=xY (t:=t) R hR h k;rw [mQ];unfold iK
  split
  ·exact ih
  ·rename_i e he
   split
   ·rename_i hcond
    have hu:=hR e hcond.1 (ih.1 e (List.mem_of_getElem? he));refine⟨fun x hx=>?_,fun x hx=>?_⟩
    ·rcases List.mem_or_eq_of_mem_set hx with h1|h1
     ·exact ih.1 x h1
     ·rw [h1];exact hu
    ·rcases bX.1 hx with h1|h1
     ·exact ih.2 x h1
     ·rw [List.mem_singleton.1 h1];exact hu
   ·exact ih
theorem rM {α:Type} {l:List α} {k:Nat} {x:α} (h:x∈cutAt l k):x∈l:=by
 rcases bX.1 h with h|h
 ·exact List.mem_of_mem_take h
 ·exact List.mem_of_mem_drop h
theorem DT {b:Br} (t x:Id) (f:Int) (R:En->Prop) (hR:∀ e,e.tree=t->R e->R (XA e)) (h:∀ e∈b.ent,R e):(∀ e∈(takeB b t x f).1.ent,R e)/\∀ e∈(takeB b t x f).2.1,R e:=by
 unfold takeB
 split
 ·exact⟨h,fun e he=>by simp at he⟩
 ·split
  ·exact⟨h,fun e he=>by simp at he⟩
  ·split
   ·exact⟨h,fun e he=>by simp at he⟩
   ·split
    ·exact⟨fun e he=>h e (rM he),fun e he=>by simp at he⟩
    ·exact xY R hR (fun e he=>h e (rM he)) _
theorem DU (b:Br) (t x:Id) (f:Int):(kH b t x f).2.length<=b.ent.length+1:=by
 unfold kH;have h:=(uj b t x f).2
 split
 ·simp
 ·split
  ·simp
  ·rw [aR,bG];simp;omega
def DV (x:Id) (s:Br×List Ou) (t:Id):Br×List Ou:=((kH s.1 t x (-1)).1,s.2++(kH s.1 t x (-1)).2)
def vJ (b:Br) (x:Id):List Ow:=b.own.filter fun o=>decide (o.id≠x)
def jR (b:Br) (x:Id) (k:Nat):Br×List Ou:=((b.dQ.map Ad.id).take k).foldl (DV x) ({ b with own:=vJ b x },[])
def iR (b:Br) (x:Id):Br×List Ou:=if (vJ b x).length=b.own.length then (b,[]) else jR b x b.dQ.length
theorem lM (b:Br) (x:Id) {k:Nat} {a:Ad} (h:b.dQ[k]?=X a):jR b x (k+1)=DV x (jR b x k) a.id:=by
 unfold jR;rw [bR,bQ,h,List.foldl_append]
 rfl
structure UnI (b0 b:Br) (o:List Ow):Prop where
 me:b.me=b0.me
 near:b.near=b0.near
 dQ:b.dQ=b0.dQ
 seen:b.seen=b0.seen
 own:b.own=o
 len:b.ent.length<=b0.ent.length
theorem UnI.drop {b0 b:Br} {o:List Ow} (h:UnI b0 b o) (t x:Id) (f:Int):UnI b0 (kH b t x f).1 o:=by
 rw [jg];obtain⟨h1,h2,h3,h4,h5⟩:=jQ b t x f;exact⟨h3.trans h.me,h2.trans h.near,h1.trans h.dQ,h4.trans h.seen,h5.trans h.own,aA (uj b t x f).1 h.len⟩
theorem qN (b:Br) (x:Id):∀ k,k<=b.dQ.length->UnI b (jR b x k).1 (vJ b x)/\(jR b x k).2.length<=k * (b.ent.length+1)
 | 0,_=>⟨⟨rfl,rfl,rfl,rfl,rfl,aN _⟩,by simp [jR]⟩
 | k+1,hk=>by
  obtain⟨a,ha⟩:∃ a,b.dQ[k]?=X a:=⟨_,aC hk⟩;obtain⟨h1,h2⟩:=qN b x k (by omega);rw [lM b x ha];refine⟨h1.drop _ _ _,?_⟩;show ((jR b x k).2++(kH (jR b x k).1 a.id x (-1)).2).length<=_;have h3:=DU (jR b x k).1 a.id x (-1);have h4:=h1.len;rw [aR,Nat.add_mul];omega
theorem rO (b:Br) (x:Id) (R:En->Prop) (hR:∀ e,R e->R (XA e)) (h:∀ e∈b.ent,R e):∀ k,k<=b.dQ.length->∀ e∈(jR b x k).1.ent,R e
 | 0,_=>h
 | k+1,hk=>by
  obtain⟨a,ha⟩:∃ a,b.dQ[k]?=X a:=⟨_,aC hk⟩;rw [lM b x ha];show ∀ e∈(kH _ _ _ _).1.ent,R e;rw [jg];exact (DT _ _ _ R (fun e _=>hR e) (rO b x R hR h k (by omega))).1
theorem Aq {W W':aI} {k:Nat} {me:Int} {s1 s2 s3 s4 s5:Sl} {l:List mh} {m:List Ou} (h:fA (rZ W) l m) (hb:dJ W k (jr me s1 s2 s3 s4 s5) 28) (hk:∀ j,j<W.heap.size->j≠k->W'.heap[j]?=W.heap[j]?):fA (rZ W') l m :=
 h.mono fun _ _ hx=>⟨hx.1,hx.2.1,hx.2.2.1,hx.2.2.2.1,iJ uq hx.2.2.2.2.1 hk (rD hb (rE me s1 s2 s3 s4 s5)),hx.2.2.2.2.2⟩
def keepW (x:Id) (o:rz):Bool:=decide ((o.1,o.2.1)≠x)
theorem IC (b:Br) (nv av sv ev ov:Sl) (x:Id) (w:aI) (h:iZ w b nv av sv ev ov) (l2:b.dQ.length<=900) (l3:b.ent.length<=900) (l4:b.own.length<=900) (hok:∀ e∈b.ent,dZ e.p) (hkn:∀ e∈b.ent,e.tree∈b.dQ.map Ad.id) :
  Calls au 38 #[oK b.me nv av sv ev ov,mZ x] w fun e w'=>(∃ ev' Zt lo:Sl,e=.returned (.tuple #[oK b.me nv av sv ev' Zt,dX lo])/\iZ w' (iR b x).1 nv av sv ev' Zt/\jE w' lo (iR b x).2)/\Below w.heap.size w w':=by
 obtain⟨no,nn,nc⟩:=nv;obtain⟨ao,an,ac⟩:=av;obtain⟨so,sn,sc⟩:=sv;obtain⟨eo,en,ec⟩:=ev;obtain⟨oo,dY,oc⟩:=ov;obtain⟨c,d⟩:=x;obtain⟨ws,hw1,hw2⟩:=h.own;obtain⟨q1,q2,hq⟩:=hw1.len;obtain⟨rfl,rfl,rfl⟩:oo=q1/\dY=ws.length/\oc=q2:=by
  have:J oo dY oc=J q1 ws.length q2:=hq;simpa using this
 have HH:=L h;have L2:=L l2;have L3:=L l3;have WL:=L (show ws.length<=900 from by rw [hw2.len]; exact l4);have HW2:=L hw2;have OK:=L hok;have KN:=L hkn;obtain⟨dY,hon⟩:∃ n,n=ws.length:=⟨_,rfl⟩;simp only [<- hon] at HH hw1 ⊢;have N5:=L hon;obtain⟨h0,h1,h2,h3⟩:=gJ w #[V U b.me,J no nn nc,J ao an ac,J so sn sc,J eo en ec,J oo dY oc] #[V U c,V U d] #[V U 0,J Y 0 0,J Y 0 0,J Y 0 0,J Y 0 0,J Y 0 0] 28 31 28;obtain⟨me,hme⟩:∃ me,me=b.me:=⟨_,rfl⟩;simp only [<- hme] at h0 h1 h2 h3 ⊢;have gB:=L (h0);have Lb:=L (h1);have Lc:=L (h2);have Ld:=L (h3);have Le:=L (hw1.on h0);have ME:=L hme;clear h0 h1 h2 h3 h l2 l3 l4 hme hok hkn hw1 hw2 hq hon;show Calls au 38 #[aM #[V U me,J no nn nc,J ao an ac,J so sn sc,J eo en ec,J oo dY oc],aM #[V U c,V U d]] w _;go_enter Tryz.func38,Tryz.ntmps38;go_upto_region 1 with fail;generalize (((w.alloc (aH #[V U me,J no nn nc,J ao an ac,J so sn sc,J eo en ec,J oo dY oc] 28)).alloc (aH #[V U c,V U d] 31)).alloc (aH #[V U 0,J Y 0 0,J Y 0 0,J Y 0 0,J Y 0 0,J Y 0 0] 28))=W at *;have W4:=L (show w.heap.size+3<=W.heap.size from by have:=Ld.out.lt; omega);obtain⟨x0,x1,x2,x3,x4,x5⟩:=Lb.out.fu;go_wp2_with fail;clear x0 x1 x2 x3 x4 x5
 go_loopw [6,17] (fun v i wr=>∃ q:Nat,q<=dY/\i=V U q/\Below W.heap.size W wr/\qC wr W.heap.size v ((ws.take q).filter (keepW (c,d)))) (fun _ i _=>dY-(intOf i).toNat)
 case atStart=>exact⟨0,bH _,rfl,ah _ _,iM _ _⟩
 case round =>
  obtain⟨q,hq,rfl,hbe,hown⟩:=hrel;have BE:=L hbe;have OE:=L hown;clear hbe hown;have l9:dY<=900:=by rw [N5.out]; exact WL.out
  by_cases hlt:q<dY
  ·have hlt':(q:Int)<(dY:Int):=by omega
   have hw:IntKind.i64.wrap ((q:Int)+1)=(q:Int)+1:=IntWalk.i64_in _ (by omega);obtain⟨z,hz⟩:∃ z,ws[q]?=X z:=⟨_,aC (by rw [<- N5.out]; exact hlt)⟩;obtain⟨p,ix,px⟩:=elW Le.out rfl N5.out.symm hz;obtain⟨p0,p1,p2⟩:=px wr BE.out;have FS:=L (zK ws q z (keepW (c,d)) hz);obtain⟨y1,y2,⟨yo,yn,yc⟩⟩:=z;simp only at p0 p1 p2;clear px hz;go_upto_region 5 with fail;clear p0 p1 p2 ix;have NN:=gu wr (aH #[V U y1,V U y2,J yo yn yc] 34);have XE:=L (dO wr #[V U y1,V U y2,J yo yn yc] 34);have Ut:=L (BE.out.trans (NN.mono BE.out.size));have PV:=L (dI OE.out NN);clear BE OE NN;generalize wr.alloc (aH #[V U y1,V U y2,J yo yn yc] 34)=wa at *;obtain⟨e0_,e1_,e2_⟩:=XE.out.cs3;have y0:=(Lc.out.on Ut.out).cell 0;have y1_:=(Lc.out.on Ut.out).cell 1;simp only [ak,ay,aB] at y0 y1_;obtain⟨r,hr⟩:∃ r,(!(y1 == c && y2 == d))=r:=⟨_,rfl⟩;have he:=EG y1 y2 c d r hr;have KW:=L (show keepW (c,d) (y1,y2,(yo,yn,yc))=r by
    rw [<- hr];unfold keepW;by_cases h1:y1=c <;> by_cases h2:y2=d <;> simp [h1,h2])
   clear hr;cases r
   ·go_wp2_with fail
    go_roundw
    case rel=>exact⟨q+1,hlt,by go_num,Ut.out,by rw [FS.out,KW.out]; simpa using PV.out⟩
    case measure=>simp [intOf]; omega
   ·have hl:=iN okW wa [((y1,y2,(yo,yn,yc)):rz)] 1 rfl (by simp) #[V U y1,V U y2,J yo yn yc] (by rfl);have NB:=gu wa (aH #[V U y1,V U y2,J yo yn yc] 34);obtain⟨v',x5,q2,o2,g2⟩:=gI okW W.heap.size (dI PV.out NB) (Row.dH hl) (by have h1:=List.length_filter_le (keepW (c,d)) (ws.take q); rw [aU] at h1; omega) (by simp) (aA Ut.out.size NB.size) 26;have q2:(Builtin.append_ #[26,26] 26 #[u6,J (X ⟨wa.heap.size,0,Y⟩) 1 1]).run au (wa.alloc (aH #[V U y1,V U y2,J yo yn yc] 34))=.ok v' x5:=q2;have BX:=L ((Ut.out.trans (NB.mono Ut.out.size)).grown g2 (aA Ut.out.size NB.size) (fun j hj=>((dI PV.out NB).lt j hj).1));have O2:=L o2;clear hl NB o2 g2;go_wp2_with (first | (at_builtin; refine wpList_append_run rfl _ _ 26 rfl rfl rfl q2 ?_) | fail)
    go_roundw
    case rel=>exact⟨q+1,hlt,by go_num,BX.out,by rw [FS.out,KW.out]; simpa using O2.out⟩
    case measure=>simp [intOf]; omega
  ·obtain rfl:dY=q:=by omega
   have et:ws.take dY=ws:=bF (by have:=N5.out; omega);rw [et] at OE;clear et;have FI:=L (show fA (Gn w) (ws.filter (keepW (c,d))) (vJ b (c,d)) from HW2.out.fil _ _ fun a b h=>by unfold keepW; rw [h.1]);generalize ws.filter (keepW (c,d))=ls at *;obtain⟨la,lc,hlv⟩:=(Row.dH OE.out).len;obtain⟨ln,hln⟩:∃ n,n=ls.length:=⟨_,rfl⟩;rw [<- hln] at hlv;subst hlv;have LN:=L hln;clear hln;have LE:=L (show (vJ b (c,d)).length=ln from by rw [LN.out,FI.out.len]);have LO:=L (show b.own.length=dY from by rw [<- HW2.out.len,N5.out]);have jm:=L (gB.out.trans (BE.out.mono gB.out.size));have Uv:=L (Lb.out.on BE.out);have vK:=L (Lc.out.on BE.out);have nU:=L (Ld.out.on BE.out);have Fp:=L (Le.out.on BE.out);clear gB Lb Lc Ld Le;obtain⟨x0,x1,x2,x3,x4,x5⟩:=Uv.out.fu;by_cases hll:ln=dY
   ·have hq1:((ln:Int) == (dY:Int))=true:=by simp [hll]
    have HI:=L (HH.out.on jm.out);obtain⟨r0,r1,r2,r3,r4,r5⟩:=nU.out.fu;obtain⟨wG,uD,yR,Ae,Af,Ag⟩:=nU.out.kD;have zz:=nU.out.lt;have GG:=L (dL nU.out (V U me) (J no nn nc) (J ao an ac) (J so sn sc) (J eo en ec) (J oo dY oc));have BL:=L (dG (b:=w.heap.size+1+1) jm.out (by omega) (V U me) (J no nn nc) (J ao an ac) (J so sn sc) (J eo en ec) (J oo dY oc));have HK:=L (fun j (_:j<wr.heap.size) (hj:j≠w.heap.size+1+1)=>dK wr (w.heap.size+1+1) (V U me) (J no nn nc) (J ao an ac) (J so sn sc) (J eo en ec) (J oo dY oc) j hj);have HC:=L (fF (s1:=(Y,0,0)) (s2:=(Y,0,0)) (s3:=(Y,0,0)) (s4:=(Y,0,0)) (s5:=(Y,0,0)) HI.out nU.out HK.out (HH.out.near.on BL.out));go_wp2_with fail;obtain⟨v0,v1,v2,v3,v4,v5⟩:=GG.out.fu;refine bodyPost_ret (v:=.tuple #[aM #[V U me,J no nn nc,J ao an ac,J so sn sc,J eo en ec,J oo dY oc],J Y 0 0]) (by simp [results,cK,go_sem,v0,v1,v2,v3,v4,v5]) rfl ?_;have hd:iR b (c,d)=(b,[]):=by unfold iR; rw [if_pos (by rw [LE.out,LO.out]; exact hll)]
    rw [hd];exact⟨⟨(eo,en,ec),(oo,dY,oc),(Y,0,0),rfl,HC.out,qK _⟩,BL.out⟩
   ·have hq1:((ln:Int) == (dY:Int))=false:=by simp; omega
    have DB:=L (show iR b (c,d)=jR b (c,d) b.dQ.length from by unfold iR; rw [if_neg (by rw [LE.out,LO.out]; exact hll)]);have f5:=Uv.out.fr 5;have zz:=Uv.out.lt;go_upto_region 11 with fail;clear x0 x1 x2 x3 x4 x5;have B2:=L (jm.out.setCell (p:=⟨w.heap.size,5,Y⟩) (aN _) (J la ln lc));have X2b:=dR (k:=5) Uv.out (J la ln lc);simp only [List.setIfInBounds_toArray,List.set_cons_zero,List.set_cons_succ] at X2b;have X3b:dJ _ _ _ _:=(aJ wr ⟨w.heap.size,5,Y⟩ (J la ln lc) _ (show w.heap.size+1≠w.heap.size by omega)).trans vK.out;have X4b:dJ _ _ _ _:=(aJ wr ⟨w.heap.size,5,Y⟩ (J la ln lc) _ (show w.heap.size+1+1≠w.heap.size by omega)).trans nU.out;have OL:=L (eO OE.out w.heap.size 5 (J la ln lc) (by have:=W4.out; omega));have BS:=L (show iZ _ { b with own:=vJ b (c,d) } (no,nn,nc) (ao,an,ac) (so,sn,sc) (eo,en,ec) (la,ln,lc) from ⟨HH.out.near.on B2.out,(HH.out.on B2.out).dQ,(HH.out.on B2.out).seen,(HH.out.on B2.out).ent,⟨ls,Row.dH OL.out,FI.out.mono fun _ _ h=>h.on B2.out⟩⟩);clear zz f5 OL OE BE jm Uv vK nU Fp;generalize wr.setCell ⟨w.heap.size,5,Y⟩ (J la ln lc)=w2 at *;have mq:=L (B2.out);have acL:=L (X2b);have oZ:=L (X3b);have pU:=L (X4b);clear B2 X2b X3b X4b;obtain⟨ad0,ha1,ha2⟩:=BS.out.dQ;obtain⟨q1,q2,hqv⟩:=ha1.len;obtain rfl:an=b.dQ.length:=by have h1:(J ao an ac)=J q1 ad0.length q2:=hqv; have h2:an=ad0.length:=(by simpa using congrArg (fun v=>match v with|Value.slice _ n _=>n|_=>0) h1); rw [h2,ha2.len]
    clear hqv ha1 ha2;obtain⟨an,han⟩:∃ n,n=b.dQ.length:=⟨_,rfl⟩;have AN:=L (show b.dQ.length<=900 from L2.out);obtain⟨x0,x1,x2,x3,x4,x5⟩:=acL.out.fu;go_wp2_with fail;clear x0 x1 x2 x3 x4 x5
    go_loopw [9,42] (fun v i wr=>∃ (k:Nat) (ea:Option aS) (iA iB:Nat) (ta:Option aS) (tn tc:Nat),k<=b.dQ.length/\i=V U k/\v=J ta tn tc/\Below w.heap.size w wr/\dJ wr w.heap.size #[V U me,J no nn nc,J ao b.dQ.length ac,J so sn sc,J ea iA iB,J la ln lc] 28/\dJ wr (w.heap.size+1) #[V U c,V U d] 31/\dJ wr (w.heap.size+1+1) #[V U 0,J Y 0 0,J Y 0 0,J Y 0 0,J Y 0 0,J Y 0 0] 28/\iZ wr (jR b (c,d) k).1 (no,nn,nc) (ao,b.dQ.length,ac) (so,sn,sc) (ea,iA,iB) (la,ln,lc)/\jE wr (ta,tn,tc) (jR b (c,d) k).2) (fun _ i _=>b.dQ.length-(intOf i).toNat)
    case atStart=>exact⟨0,eo,en,ec,Y,0,0,bH _,rfl,rfl,mq.out,acL.out,oZ.out,pU.out,BS.out,qK _⟩
    case round =>
     clear BS mq acL oZ pU;obtain⟨k,ea,iA,iB,ta,tn,tc,hk,rfl,rfl,hgb,hx2,hx3,hx4,hbr,hou⟩:=hrel;have Np:=L (hgb);have Uw:=L (hx2);have ZO:=L (hx3);have yC:=L (hx4);have Nq:=L (hbr);have Ux:=L (hou);clear hgb hx2 hx3 hx4 hbr hou;have UK:=L (qN b (c,d) k hk);have l9:=AN.out;by_cases hlt:k<b.dQ.length
     ·have hlt':(k:Int)<(b.dQ.length:Int):=by omega
      have hw:IntKind.i64.wrap ((k:Int)+1)=(k:Int)+1:=IntWalk.i64_in _ (by omega);obtain⟨a,hak⟩:∃ a,b.dQ[k]?=X a:=⟨_,aC hlt⟩;have US:=L (lM b (c,d) hak);have PK:=L (rO b (c,d) (fun e=>dZ e.p) (fun _ h=>h) OK.out k hk);have TKN:=L (rO b (c,d) (fun e=>e.tree∈b.dQ.map Ad.id) (fun _ h=>h) KN.out k hk);obtain⟨ad,yT,wM⟩:=Nq.out.dQ;rw [UK.out.1.dQ] at wM;obtain⟨z,hz1,hz2⟩:=wM.at k a hak;obtain⟨p,ix,px⟩:=Mf yT rfl (by rw [wM.len]) hz1;obtain⟨p0,p1,p2,p3⟩:=px wr (ah _ _);obtain⟨z1,z2,⟨z3,z4,z5⟩,z6⟩:=z;simp only at p0 p1 p2 p3;have ZI:=L (show a.id=(z1,z2) from hz2.1.symm);clear px hz1 hz2 yT wM hak;go_upto_region 15 with fail;clear p0 p1 p2 p3 ix;have NN:=gu wr (aH #[V U z1,V U z2,J z3 z4 z5,V U z6] 74);have yD:=L (Np.out.trans (NN.mono Np.out.size));have Uy:=L (Uw.out.on NN);have Uz:=L (ZO.out.on NN);have ZR:=L (yC.out.on NN);have UD:=L (Nq.out.on NN);have ZT:=L (Ux.out.on NN);clear Np Uw ZO yC Nq Ux;clear NN;have Lf:=L (dO wr #[V U z1,V U z2,J z3 z4 z5,V U z6] 74);generalize wr.alloc (aH #[V U z1,V U z2,J z3 z4 z5,V U z6] 74)=wa at *;have DP:=L (DK (jR b (c,d) k).1 (no,nn,nc) (ao,b.dQ.length,ac) (so,sn,sc) (ea,iA,iB) (la,ln,lc) (z1,z2) (c,d) (-1) wa UD.out (by rw [UK.out.1.dQ]; exact AN.out) (aA UK.out.1.len L3.out) PK.out (by rw [UK.out.1.dQ]; exact TKN.out));rw [UK.out.1.me,<- ME.out] at DP;obtain⟨x0,x1,x2,x3,x4,x5⟩:=Uy.out.fu;obtain⟨y0,y1⟩:=Uz.out.cs2;obtain⟨zc0,zc1,zc2,zc3⟩:=Lf.out.Cx;rw [ZI.out] at US;have UK2:=L (qN b (c,d) (k+1) hlt);rw [US.out] at UK2;go_wp2_with fail;refine DP.out.mono ?_;rintro e1 w1 ⟨⟨⟨nJ,qZ,q8⟩,⟨ta2,tn2,tc2⟩,rfl,hbr,hou⟩,hb⟩;clear DP;clear x0 x1 x2 x3 x4 x5 y0 y1 zc0 zc1 zc2 zc3;have UF:=L (yD.out.trans (hb.mono yD.out.size));have ZU:=L (Uy.out.on hb);have IE:=L (Uz.out.on hb);have ZV:=L (ZR.out.on hb);have afd:=L (UD.out.on hb);have ZW:=L (ZT.out.on hb);have acM:=L (Lf.out.on hb);clear yD Uy Uz ZR UD ZT Lf;have BR2:=L hbr;have OU2:=L hou;clear hb hbr hou afd acM;go_upto_region 16 with fail;have BR3:=L (BR2.out.on (gu w1 (aH #[V U me,J no nn nc,J ao b.dQ.length ac,J so sn sc,J nJ qZ q8,J la ln lc] 28)));have OU3:=L (OU2.out.on (gu w1 (aH #[V U me,J no nn nc,J ao b.dQ.length ac,J so sn sc,J nJ qZ q8,J la ln lc] 28)));clear BR2 OU2;have NN:=gu w1 (aH #[V U me,J no nn nc,J ao b.dQ.length ac,J so sn sc,J nJ qZ q8,J la ln lc] 28);have afe:=L (UF.out.trans (NN.mono UF.out.size));have Nr:=L (ZU.out.on NN);have ZY:=L (IE.out.on NN);have sO:=L (ZV.out.on NN);have aff:=L (ZW.out.on NN);clear UF ZU IE ZV ZW;clear NN;have acN:=L (dO w1 #[V U me,J no nn nc,J ao b.dQ.length ac,J so sn sc,J nJ qZ q8,J la ln lc] 28);generalize w1.alloc (aH #[V U me,J no nn nc,J ao b.dQ.length ac,J so sn sc,J nJ qZ q8,J la ln lc] 28)=wb at *;obtain⟨lo,hlo1,hlo2⟩:=aff.out;obtain⟨ls2,afg,acO⟩:=OU3.out;have LL:=UK.out.2;have LD:=DU (jR b (c,d) k).1 (z1,z2) (c,d) (-1);have LU:=UK.out.1.len;have l3:=L3.out;have LM:k * (b.ent.length+1)<=900 * 901:=bZ (by omega) (by omega);refine afc _ wb w.heap.size w1.heap.size me no ao so nJ la nn nc b.dQ.length ac sn sc qZ q8 ln lc ta ta2 tn tc tn2 tc2 lo ls2 _ _ _ _ _ _ _ _ _ _ _ _ _ _ _ _ _ _ _ _ _ _ _ _ _ _ _ _ _ _ _ _ _ _ _ _ _ _ _ _ _ _ _ _ _ _ _ _ _ _ _ _ _ _ _ _ _ _ _ _ _ _ _ _ _ Nr.out acN.out hlo1 afg (by rw [hlo2.len]; omega) (by rw [acO.len]; omega) ?_;intro x w9 v54 v55 v56 v57 v58 v59 hbx hown hblk hbl;have GX:=L (afe.out.trans (hbl _ (aN _)));have Y2:=L hbx;have Y3:=L (show dJ _ _ _ _ from (hblk _ ZY.out.lt (by omega)).trans ZY.out);have Y4:=L (show dJ _ _ _ _ from (hblk _ sO.out.lt (by omega)).trans sO.out);have BRX:=L (fF (s1:=(no,nn,nc)) (s2:=(ao,b.dQ.length,ac)) (s3:=(so,sn,sc)) (s4:=(ea,iA,iB)) (s5:=(la,ln,lc)) BR3.out Nr.out hblk (by rw [show (kH (jR b (c,d) k).1 (z1,z2) (c,d) (-1)).1.near=b.near from UK2.out.1.near]; exact HH.out.near.on GX.out));have OA:=L ((Aq (s1:=(no,nn,nc)) (s2:=(ao,b.dQ.length,ac)) (s3:=(so,sn,sc)) (s4:=(ea,iA,iB)) (s5:=(la,ln,lc)) hlo2 Nr.out hblk).append (Aq (s1:=(no,nn,nc)) (s2:=(ao,b.dQ.length,ac)) (s3:=(so,sn,sc)) (s4:=(ea,iA,iB)) (s5:=(la,ln,lc)) acO Nr.out hblk));obtain⟨ra,rc,hrv⟩:=(Row.dH hown).len;have RR:=L (Row.dH hown);rw [hrv] at RR;rw [hrv];clear hbx hown hblk hbl hlo1 hlo2 afg acO hrv BR3 OU3;go_wp2_with fail
      go_roundw
      case rel=>exact⟨k+1,nJ,qZ,q8,ra,_,rc,hlt,by go_num,rfl,GX.out,Y2.out,Y3.out,Y4.out,by rw [US.out]; exact BRX.out,by rw [US.out]; exact⟨_,RR.out,OA.out⟩⟩
      case measure=>simp [intOf]; omega
     ·obtain rfl:k=b.dQ.length:=by omega
      obtain⟨x0,x1,x2,x3,x4,x5⟩:=Uw.out.fu;obtain⟨r0,r1,r2,r3,r4,r5⟩:=yC.out.fu;obtain⟨wG,uD,yR,Ae,Af,Ag⟩:=yC.out.kD;have zz:=yC.out.lt;have GG:=L (dL yC.out (V U me) (J no nn nc) (J ao b.dQ.length ac) (J so sn sc) (J ea iA iB) (J la ln lc));have BL:=L (dG (b:=w.heap.size+1+1) Np.out (by omega) (V U me) (J no nn nc) (J ao b.dQ.length ac) (J so sn sc) (J ea iA iB) (J la ln lc));have HK:=L (fun j (_:j<wr.heap.size) (hj:j≠w.heap.size+1+1)=>dK wr (w.heap.size+1+1) (V U me) (J no nn nc) (J ao b.dQ.length ac) (J so sn sc) (J ea iA iB) (J la ln lc) j hj);have HC:=L (fF (s1:=(Y,0,0)) (s2:=(Y,0,0)) (s3:=(Y,0,0)) (s4:=(Y,0,0)) (s5:=(Y,0,0)) Nq.out yC.out HK.out (by rw [UK.out.1.near]; exact HH.out.near.on BL.out));have HO:=L (iw (s1:=(Y,0,0)) (s2:=(Y,0,0)) (s3:=(Y,0,0)) (s4:=(Y,0,0)) (s5:=(Y,0,0)) Ux.out yC.out HK.out);go_wp2_with fail;obtain⟨v0,v1,v2,v3,v4,v5⟩:=GG.out.fu;refine bodyPost_ret (v:=.tuple #[aM #[V U me,J no nn nc,J ao b.dQ.length ac,J so sn sc,J ea iA iB,J la ln lc],J ta tn tc]) (by simp [results,cK,go_sem,v0,v1,v2,v3,v4,v5]) rfl ?_;rw [DB.out];exact⟨⟨(ea,iA,iB),(la,ln,lc),(ta,tn,tc),rfl,HC.out,HO.out⟩,BL.out⟩
def Fq (B b2 _:Nat) (so:Option aS) (sn sc at_:Nat) (lo hiv:aG) (z:rz) (lt ld:List rz) (i:Nat) (v:aG) (x:aI):Prop :=
 match i with
 | 0=>∃ g,v=J (X ⟨g,0,Y⟩) 0 0/\B<=g/\dJ x g #[] 34
 | 1=>v=Z (X ⟨b2,5,Y⟩)
 | 2=>v=J so sn sc
 | 3=>v=V U (at_:Int)
 | 4=>v=lo
 | 5=>qC x B v lt
 | 6=>v=mZ (z.1,z.2.1)
 | 7=>v=dX z.2.2
 | 8=>v=Rq z
 | 9=>qC x B v [z]
 | 10=>qC x B v (lt++[z])
 | 11=>v=Z (X ⟨b2,5,Y⟩)
 | 12=>v=J so sn sc
 | 13=>v=V U (at_:Int)
 | 14=>v=hiv
 | 15=>qC x B v (lt++[z]++ld)
 | 16=>v=Z (X ⟨b2,5,Y⟩)
 | _=>True
noncomputable def UH:Code:=((Tryz.f23.body.bind (eT 6)).getD .skip)
theorem QH (B b2 b3:Nat) (so:Option aS) (sn sc at_:Nat) (lo hiv:aG) (z:rz) (lt ld:List rz) (i:Nat) (v:aG) (x x':aI) (h:Fq B b2 b3 so sn sc at_ lo hiv z lt ld i v x) (hb:Below x.heap.size x x'):Fq B b2 b3 so sn sc at_ lo hiv z lt ld i v x':=by
 by_cases hi:i<17
 ·rcases (by omega:i=0\/i=1\/i=2\/i=3\/i=4\/i=5\/i=6\/i=7\/i=8\/i=9\/i=10\/i=11\/i=12\/i=13\/i=14\/i=15\/i=16) with rfl|rfl|rfl|rfl|rfl|rfl|rfl|rfl|rfl|rfl|rfl|rfl|rfl|rfl|rfl|rfl|rfl
  ·obtain⟨g,h1,h2,h3⟩:=h;exact⟨g,h1,h2,h3.on hb⟩
  ·exact h
  ·exact h
  ·exact h
  ·exact h
  ·exact dI h hb
  ·exact h
  ·exact h
  ·exact h
  ·exact dI h hb
  ·exact dI h hb
  ·exact h
  ·exact h
  ·exact h
  ·exact h
  ·exact dI h hb
  ·exact h
 ·unfold Fq
  split <;> first | omega | trivial
theorem Z7 (Q:Exit->Act->aI->Prop) (W:aI) (b2 b3:Nat) (me:Int) (y1 y2 y3 y4:aG) (so:Option aS) (sn sc at_:Nat) (l:List rz) (z:rz) (u0 u1 u5 u6 u7 u9 u10 u11 u12 u13 u14 u15 u16 u17 u18 u19 u20 u21 u22 u23 u24 u25 u26 u27 u28 u29 u30 u31 u32 u33 u34 u35 u36 u37 u38 u39 u40 u41 u42 u43 u44 u45 u46 u47 u48 u49 u50 u51 u52 u53 u54 u55 u56 u57 u58 u59 u60 u61 u62 u63 u64 u65 u66 u67 u68 u69 u70 u71 u72 u73 u74 u75 u76 u77 u78 u79 u80 u81 u82 u83 u84 u85 u86 u87 u88 u89 u90 u91 u92 u93 u94 u95 u96 u97 u98:aG)
  (h2:dJ W b2 #[V U me,y1,y2,y3,y4,J so sn sc] 28) (hx:∀ x,Below W.heap.size W x->∀ j u,(jO (z.1,z.2.1))[j]?=X u->x.cell? ((⟨b3,0,Y⟩:aS).add j)=X u) (hs:Pq W (J so sn sc) l) (hat:at_<=l.length) (hlen:l.length<=900)
  (hQ:∀ (x:aI) (v47 v48 v49 v50 v51 v52 v53 v54 v55 v56 v57 v58 v59 v60 v61 v62 v63:aG),dJ x b2 #[V U me,y1,y2,y3,y4,v62] 28->qC x W.heap.size v62 (l.take at_++[z]++l.drop at_)->(∀ B,B<=b2->Below B W x)->(∀ c cs t,c≠b2->dJ W c cs t->dJ x c cs t)->(∀ k,k<W.heap.size->k≠b2->x.heap[k]?=W.heap[k]?)->Q .normal ⟨(u0::u1::dX z.2.2::Z (X ⟨b2,0,Y⟩)::Z (X ⟨b3,0,Y⟩)::u5::u6::u7::V U (at_:Int)::u9::u10::u11::u12::u13::u14::u15::u16::u17::u18::u19::u20::u21::u22::u23::u24::u25::u26::u27::u28::u29::u30::u31::u32::u33::u34::u35::u36::u37::u38::u39::u40::u41::u42::u43::u44::u45::u46::v47::v48::v49::v50::v51::v52::v53::v54::v55::v56::v57::v58::v59::v60::v61::v62::v63::u64::u65::u66::u67::u68::u69::u70::u71::u72::u73::u74::u75::u76::u77::u78::u79::u80::u81::u82::u83::u84::u85::u86::u87::u88::u89::u90::u91::u92::u93::u94::u95::u96::u97::u98::[]).toArray,[]⟩ x) :
  Code.wp au UH Q ⟨(u0::u1::dX z.2.2::Z (X ⟨b2,0,Y⟩)::Z (X ⟨b3,0,Y⟩)::u5::u6::u7::V U (at_:Int)::u9::u10::u11::u12::u13::u14::u15::u16::u17::u18::u19::u20::u21::u22::u23::u24::u25::u26::u27::u28::u29::u30::u31::u32::u33::u34::u35::u36::u37::u38::u39::u40::u41::u42::u43::u44::u45::u46::u47::u48::u49::u50::u51::u52::u53::u54::u55::u56::u57::u58::u59::u60::u61::u62::u63::u64::u65::u66::u67::u68::u69::u70::u71::u72::u73::u74::u75::u76::u77::u78::u79::u80::u81::u82::u83::u84::u85::u86::u87::u88::u89::u90::u91::u92::u93::u94::u95::u96::u97::u98::[]).toArray,[]⟩ W:=by
 have HQ:=L hQ;have H2:=L h2;have LX:=L hx;obtain⟨lo,Cj,vN⟩:=uX okW hs at_ (by omega);obtain⟨hiv,Ck,xg⟩:=p9 okW hs (at_) hat;have LT:=L (show (l.take at_).length<=1000 by rw [aU]; omega);have RS:=L (show (l.take at_).length<=900 by rw [aU]; omega);have LD:=L (show (l.drop (at_)).length<=1000 by rw [List.length_drop]; omega);generalize l.take at_=lt at *;generalize l.drop (at_)=ld at *;have SL:=L Cj;have SH:=L Ck;have RL:=L vN;have RH:=L xg;clear hQ h2 hx hs Cj Ck vN xg hat hlen;have iT:=QH W.heap.size b2 b3 so sn sc at_ lo hiv z lt ld;unfold UH
 conv=>arg 2; whnf
 have nd:∀ j,(j<47\/64<=j)->∀ i,i<17->(fun i=>47+i) i≠j:=by
  intro j hj i hi h;simp only at h;omega
 refine Rg.fT 18 17 (fun i=>47+i) (fun i=>if i=0 then 5 else if i=5 then 10 else if i=9 then 10 else if i=10 then 15 else 17) (Fq W.heap.size b2 b3 so sn sc at_ lo hiv z lt ld) (by kernel_rfl) (by kernel_rfl) rfl (by decide) (fun i j _ _ h=>by have h2:47+i=47+j:=h; omega) (fun i hi=>by show 47+i<99; omega) ?_ (fun _=>Rg.jk 1 (by kernel_rfl)) (fun kk o h1 h2=>by omega) ?_
 ·intro i o hi ho a x D hnd hc hD hb seen K hK;clear HQ;rcases (by omega:i=0\/i=1\/i=2\/i=3\/i=4\/i=5\/i=6\/i=7\/i=8\/i=9\/i=10\/i=11\/i=12\/i=13\/i=14\/i=15\/i=16) with rfl|rfl|rfl|rfl|rfl|rfl|rfl|rfl|rfl|rfl|rfl|rfl|rfl|rfl|rfl|rfl|rfl
  ·cases ho;exact aF rfl rfl (dx a.eval _ 26 0 #[] rfl rfl (by simp [go_sem])) (hK (J (X ⟨x.heap.size,0,Y⟩) 0 0) (x.alloc (aH #[] 34)) ⟨x.heap.size,rfl,hb.size,dO x #[] 34⟩ ((ah _ _).alloc hb.size _) fun j u _ _ _ _ _ h=>iT j u _ _ h ((ah _ _).alloc (aN _) _))
  ·cases ho;have e3:a.eval (aj 3)=Z (X ⟨b2,0,Y⟩):=seen.kp 3 _ (nd 3 (by omega)) rfl;exact aF rfl rfl (bV a.eval _ 28 (aj 3) 5 rfl (by rw [e3]; simp [go_sem])) (hK _ _ rfl (ah _ _) fun _ _ _ _ _ _ _ h=>h)
  ·cases ho;have e48:a.eval (aj 48)=Z (X ⟨b2,5,Y⟩):=seen.at_ ⟨1,.data⟩ (by simp) rfl (aD (by decide));have y:=(H2.out.on hb).cell 5;simp only [ak,ay,aB] at y;exact aF rfl rfl (aY a.eval _ 26 (aj 48) rfl (by rw [e48]; simp [go_sem,y])) (hK _ _ rfl (ah _ _) fun _ _ _ _ _ _ _ h=>h)
  ·cases ho;have e8:a.eval (aj 8)=V U (at_:Int):=seen.kp 8 _ (nd 8 (by omega)) rfl;exact aF rfl rfl (cZ a.eval _ (aj 8) rfl x) (hK _ _ e8 (ah _ _) fun _ _ _ _ _ _ _ h=>h)
  ·cases ho;have e49:a.eval (aj 49)=J so sn sc:=seen.at_ ⟨2,.data⟩ (by simp) rfl (aD (by decide));have e50:a.eval (aj 50)=V U (at_:Int):=seen.at_ ⟨3,.data⟩ (by simp) rfl (aD (by decide));exact aF rfl rfl (Rg.kG a.eval _ 26 (aj 49) Y (X (aj 50)) Y rfl (by show (Instr.sliceAt 26 (a.eval (aj 49)) Y (X (a.eval (aj 50))) Y).run au x=.ok lo x; rw [e49,e50]; exact SL.out x)) (hK _ _ rfl (ah _ _) fun _ _ _ _ _ _ _ h=>h)
  ·cases ho;obtain⟨g,q0,hBg,hbx⟩:=seen.at_ ⟨0,.data⟩ (by simp) rfl (bM rfl);have q0:a.eval (aj 47)=J (X ⟨g,0,Y⟩) 0 0:=q0;have e51:a.eval (aj 51)=lo:=seen.at_ ⟨4,.data⟩ (by simp) rfl (aD (by decide));obtain⟨v',x',r,o',gr⟩:=jc okW W.heap.size hbx hBg (RL.out.on hb) LT.out 26;exact aF rfl rfl (dh a.eval _ (aj 47) (aj 51) 26 rfl q0 e51 r) (hK v' x' o' (gr.mono hb.size) fun j u _ _ _ _ _ h=>iT j u _ _ h gr)
  ·cases ho;have e4:a.eval (aj 4)=Z (X ⟨b3,0,Y⟩):=seen.kp 4 _ (nd 4 (by omega)) rfl;exact aF rfl rfl (aY a.eval _ 31 (aj 4) rfl (by rw [e4]; exact CX x _ (z.1,z.2.1) (LX.out x hb))) (hK _ _ rfl (ah _ _) fun _ _ _ _ _ _ _ h=>h)
  ·cases ho;have e2:a.eval (aj 2)=dX z.2.2:=seen.kp 2 _ (nd 2 (by omega)) rfl;exact aF rfl rfl (cZ a.eval _ (aj 2) rfl x) (hK _ _ e2 (ah _ _) fun _ _ _ _ _ _ _ h=>h)
  ·cases ho;have e53:a.eval (aj 53)=mZ (z.1,z.2.1):=seen.at_ ⟨6,.data⟩ (by simp) rfl (aD (by decide));have e54:a.eval (aj 54)=dX z.2.2:=seen.at_ ⟨7,.data⟩ (by simp) rfl (aD (by decide));exact aF rfl rfl (dB a.eval _ 34 #[(0,aj 53),(1,aj 54)] rfl (ps:=#[(0,mZ (z.1,z.2.1)),(1,dX z.2.2)]) (by simp only [aT,bf,bg,e53,e54]) (by simp [go_sem])) (hK _ _ rfl (ah _ _) fun _ _ _ _ _ _ _ h=>h)
  ·cases ho;have e55:a.eval (aj 55)=Rq z:=seen.at_ ⟨8,.data⟩ (by simp) rfl (aD (by decide));have hl:=iN okW x [z] 1 rfl (by simp) (uZ z).toArray (by simp [flat,EW]);have hl:qC (x.alloc (aH (uZ z).toArray 34)) x.heap.size (J (X ⟨x.heap.size,0,Y⟩) 1 1) [z]:=hl;exact aF rfl rfl (dx a.eval _ 26 1 #[(0,aj 55)] rfl (ps:=#[(0,Rq z)]) (by simp [e55]) (by simp [go_sem])) (hK (J (X ⟨x.heap.size,0,Y⟩) 1 1) (x.alloc (aH (uZ z).toArray 34)) (dN hl hb.size) ((ah _ _).alloc hb.size _) fun j u _ _ _ _ _ h=>iT j u _ _ h ((ah _ _).alloc (aN _) _))
  ·cases ho;have o52:qC x W.heap.size (a.eval (aj 52)) (lt):=seen.at_ ⟨5,.data⟩ (by simp) rfl (bM rfl);have o56:qC x W.heap.size (a.eval (aj 56)) ([z]):=seen.at_ ⟨9,.data⟩ (by simp) rfl (bM rfl);have ox:=Row.dH o56;obtain⟨v',x',r,o',gr⟩:=gI okW W.heap.size o52 ox (by have:=LT.out; omega) (by simp) hb.size 26;exact aF rfl rfl (dh a.eval _ (aj 52) (aj 56) 26 rfl rfl rfl r) (hK v' x' o' ((ah _ x).grown gr hb.size fun j hj=>(o52.lt j hj).1) fun j u hj dj nl nx ni h=>by
    rcases (by omega:j=0\/j=1\/j=2\/j=3\/j=4\/j=5\/j=6\/j=7\/j=8\/j=9\/j=10\/j=11\/j=12\/j=13\/j=14\/j=15\/j=16) with rfl|rfl|rfl|rfl|rfl|rfl|rfl|rfl|rfl|rfl|rfl|rfl|rfl|rfl|rfl|rfl|rfl
    ·exact absurd rfl (fun _:(0:Nat)=0=>nl (hc 5 _ (hD ⟨5,.data⟩ (by simp) rfl) rfl ⟨0,.data⟩ (by simp) rfl |> fun _=>hD ⟨5,.data⟩ (by simp) rfl))
    ·exact h
    ·exact h
    ·exact h
    ·exact h
    ·exact absurd rfl (fun _:(0:Nat)=0=>nx rfl)
    ·exact h
    ·exact h
    ·exact h
    ·exact absurd rfl (fun _:(0:Nat)=0=>nx rfl)
    ·exact absurd rfl (fun _:(0:Nat)=0=>ni rfl)
    ·exact h
    ·exact h
    ·exact h
    ·exact h
    ·exact absurd rfl (fun _:(0:Nat)=0=>hnd (hc 15 _ dj rfl ⟨10,.data⟩ (by simp) rfl))
    ·exact h)
  ·cases ho;have e3:a.eval (aj 3)=Z (X ⟨b2,0,Y⟩):=seen.kp 3 _ (nd 3 (by omega)) rfl;exact aF rfl rfl (bV a.eval _ 28 (aj 3) 5 rfl (by rw [e3]; simp [go_sem])) (hK _ _ rfl (ah _ _) fun _ _ _ _ _ _ _ h=>h)
  ·cases ho;have e58:a.eval (aj 58)=Z (X ⟨b2,5,Y⟩):=seen.at_ ⟨11,.data⟩ (by simp) rfl (aD (by decide));have y:=(H2.out.on hb).cell 5;simp only [ak,ay,aB] at y;exact aF rfl rfl (aY a.eval _ 26 (aj 58) rfl (by rw [e58]; simp [go_sem,y])) (hK _ _ rfl (ah _ _) fun _ _ _ _ _ _ _ h=>h)
  ·cases ho;have e8:a.eval (aj 8)=V U (at_:Int):=seen.kp 8 _ (nd 8 (by omega)) rfl;exact aF rfl rfl (cZ a.eval _ (aj 8) rfl x) (hK _ _ e8 (ah _ _) fun _ _ _ _ _ _ _ h=>h)
  ·cases ho;have e59:a.eval (aj 59)=J so sn sc:=seen.at_ ⟨12,.data⟩ (by simp) rfl (aD (by decide));have e60:a.eval (aj 60)=V U (at_:Int):=seen.at_ ⟨13,.data⟩ (by simp) rfl (aD (by decide));exact aF rfl rfl (Rg.kG a.eval _ 26 (aj 59) (X (aj 60)) Y Y rfl (by show (Instr.sliceAt 26 (a.eval (aj 59)) (X (a.eval (aj 60))) Y Y).run au x=.ok hiv x; rw [e59,e60]; exact SH.out x)) (hK _ _ rfl (ah _ _) fun _ _ _ _ _ _ _ h=>h)
  ·cases ho;have o57:qC x W.heap.size (a.eval (aj 57)) ((lt++[z])):=seen.at_ ⟨10,.data⟩ (by simp) rfl (bM rfl);have e61:a.eval (aj 61)=hiv:=seen.at_ ⟨14,.data⟩ (by simp) rfl (aD (by decide));have ox:Pq x (a.eval (aj 61)) ld:=by rw [e61]; exact RH.out.on hb
   obtain⟨v',x',r,o',gr⟩:=gI okW W.heap.size o57 ox (by have:=RS.out; rw [aR,List.length_singleton]; omega) LD.out hb.size 26;exact aF rfl rfl (dh a.eval _ (aj 57) (aj 61) 26 rfl rfl rfl r) (hK v' x' o' ((ah _ x).grown gr hb.size fun j hj=>(o57.lt j hj).1) fun j u hj dj nl nx ni h=>by
    rcases (by omega:j=0\/j=1\/j=2\/j=3\/j=4\/j=5\/j=6\/j=7\/j=8\/j=9\/j=10\/j=11\/j=12\/j=13\/j=14\/j=15\/j=16) with rfl|rfl|rfl|rfl|rfl|rfl|rfl|rfl|rfl|rfl|rfl|rfl|rfl|rfl|rfl|rfl|rfl
    ·exact absurd rfl (fun _:(0:Nat)=0=>nl (hc 10 _ (hD ⟨10,.data⟩ (by simp) rfl) rfl ⟨5,.data⟩ (by simp) rfl))
    ·exact h
    ·exact h
    ·exact h
    ·exact h
    ·exact absurd rfl (fun _:(0:Nat)=0=>nl (hD ⟨10,.data⟩ (by simp) rfl))
    ·exact h
    ·exact h
    ·exact h
    ·exact absurd rfl (fun _:(0:Nat)=0=>nl (hD ⟨10,.data⟩ (by simp) rfl))
    ·exact absurd rfl (fun _:(0:Nat)=0=>nx rfl)
    ·exact h
    ·exact h
    ·exact h
    ·exact h
    ·exact absurd rfl (fun _:(0:Nat)=0=>ni rfl)
    ·exact h)
  ·cases ho;have e3:a.eval (aj 3)=Z (X ⟨b2,0,Y⟩):=seen.kp 3 _ (nd 3 (by omega)) rfl;exact aF rfl rfl (bV a.eval _ 28 (aj 3) 5 rfl (by rw [e3]; simp [go_sem])) (hK _ _ rfl (ah _ _) fun _ _ _ _ _ _ _ h=>h)
 ·intro a w' df sz kp ⟨vs,hv⟩ hb;have gr:a.tmps[62]?=X (vs 15):=(hv 15 (by omega)).1;have gp:a.tmps[63]?=X (Z (X ⟨b2,5,Y⟩)):=by
   have h:vs 16=Z (X ⟨b2,5,Y⟩):=(hv 16 (by omega)).2 (by decide);rw [<- h];exact (hv 16 (by omega)).1
  have oR:qC w' W.heap.size (vs 15) (lt++[z]++ld):=(hv 15 (by omega)).2 (by decide);generalize vs 15=xR at *;obtain⟨ca,cp,eR⟩:=(Row.dH oR).len;have hbx:=H2.out.on hb;have hblt:=H2.out.lt;have c5:=hbx.cell 5;have f5:=hbx.fr 5;simp only [ak,ay,aB] at c5;have hb1:=dR (k:=5) hbx xR;show dn _ _ _ 1 17 a w';simp only [dn];refine Rg.fQ 26 (aj 63) (aj 62) rfl rfl rfl rfl (cu gp) (cu gr) (w':=w'.setCell ⟨b2,5,Y⟩ xR) (by rw [eR]; simp [go_sem,c5,f5]) ?_;have rA:∀ j,(j<47\/64<=j)->a.tmps[j]?=(u0::u1::dX z.2.2::Z (X ⟨b2,0,Y⟩)::Z (X ⟨b3,0,Y⟩)::u5::u6::u7::V U (at_:Int)::u9::u10::u11::u12::u13::u14::u15::u16::u17::u18::u19::u20::u21::u22::u23::u24::u25::u26::u27::u28::u29::u30::u31::u32::u33::u34::u35::u36::u37::u38::u39::u40::u41::u42::u43::u44::u45::u46::u47::u48::u49::u50::u51::u52::u53::u54::u55::u56::u57::u58::u59::u60::u61::u62::u63::u64::u65::u66::u67::u68::u69::u70::u71::u72::u73::u74::u75::u76::u77::u78::u79::u80::u81::u82::u83::u84::u85::u86::u87::u88::u89::u90::u91::u92::u93::u94::u95::u96::u97::u98::[])[j]?:=fun j hj=>(kp j (nd j hj)).trans ak;obtain⟨mid,hmid,rfl⟩:=Rg.gG 47 17 df sz (by simp) rA
  match mid,hmid with
  | [v47,v48,v49,v50,v51,v52,v53,v54,v55,v56,v57,v58,v59,v60,v61,v62,v63],_ =>
   have e1:X v62=X xR:=gr;obtain rfl:=O e1;refine HQ.out _ v47 v48 v49 v50 v51 v52 v53 v54 v55 v56 v57 v58 v59 v60 v61 v62 v63 ?_ ?_ ?_ ?_ ?_
   ·simpa using hb1
   ·exact eO oR b2 5 _ hblt
   ·exact fun B hB=>(hb.mono (aX (bN hB hblt))).setCell hB _
   ·intro c cs t hc hbc;exact (aJ _ _ _ _ hc).trans (hbc.on hb)
   ·intro k hk hne;exact (aJ _ _ _ _ hne).trans (hb.block k hk)
def zi (B:Nat) (b11 _ _:Nat) (_ _ iq c d c2 d2 fr:Int) (up:Bool) (_ po:Option aS) (_ _ pn pc:Nat) (rv:aG) (_:List mh) (i:Nat) (v:aG) (x:aI):Prop :=
 match i with
 | 0=>v=rv
 | 1=>v=Z (X ⟨b11,3,Y⟩)
 | 2=>v=V U iq
 | 3=>v=aM #[V U c,V U d,V U c2,V U d2,J po pn pc,V U fr,bY up]
 | 4=>v=aM #[V U 3,V U c,V U d,V U c2,V U d2,J po pn pc,J Y 0 0]
 | 5=>v=vW (iq,3,c,d,c2,d2,(po,pn,pc),(Y,0,0))
 | 6=>jK x B v [(iq,3,c,d,c2,d2,(po,pn,pc),(Y,0,0))]
 | _=>True
noncomputable def Ns:Code:=((Tryz.f23.body.bind (eT 16)).getD .skip)
theorem Lg (B:Nat) (b11 b12 F0:Nat) (z1 z2 iq c d c2 d2 fr:Int) (up:Bool) (z3 po:Option aS) (z4 z5 pn pc:Nat) (rv:aG) (lo:List mh) (i:Nat) (v:aG) (x x':aI) (h:zi B b11 b12 F0 z1 z2 iq c d c2 d2 fr up z3 po z4 z5 pn pc rv lo i v x) (hb:Below x.heap.size x x'):zi B b11 b12 F0 z1 z2 iq c d c2 d2 fr up z3 po z4 z5 pn pc rv lo i v x':=by
 by_cases hi:i<7
 ·rcases (by omega:i=0\/i=1\/i=2\/i=3\/i=4\/i=5\/i=6) with rfl|rfl|rfl|rfl|rfl|rfl|rfl
  ·exact h
  ·exact h
  ·exact h
  ·exact h
  ·exact h
  ·exact h
  ·exact dI h hb
 ·unfold zi
  split <;> first | omega | trivial
theorem UJ (Q:Exit->Act->aI->Prop) (W:aI) (b11 b12 F0:Nat) (z1 z2 iq c d c2 d2 fr:Int) (up:Bool) (z3 po:Option aS) (z4 z5 pn pc:Nat) (rv:aG) (lo:List mh) (u0 u1 u2 u3 u4 u5 u6 u7 u8 u10 u13 u14 u15 u16 u17 u18 u19 u20 u21 u22 u23 u24 u25 u26 u27 u28 u29 u30 u31 u32 u33 u34 u35 u36 u37 u38 u39 u40 u41 u42 u43 u44 u45 u46 u47 u48 u49 u50 u51 u52 u53 u54 u55 u56 u57 u58 u59 u60 u61 u62 u63 u64 u65 u66 u67 u68 u69 u70 u71 u72 u73 u74 u75 u76 u77 u78 u79 u80 u81 u82 u83 u84 u85 u86 u87 u88 u89 u90 u91 u92 u93 u94 u95 u96 u97 u98:aG)
  (h11:dJ W b11 #[V U z1,V U z2,J z3 z4 z5,V U iq] 74) (h12:dJ W b12 #[V U c,V U d,V U c2,V U d2,J po pn pc,V U fr,bY up] 66) (fw:F0<=W.heap.size) (ho:jK W F0 rv lo) (hl:lo.length<=1000000)
  (hQ:∀ (x0 x:aI) (w9:aG) (v88 v89 v90 v91 v92 v93 v94 v95:aG),Below W.heap.size W x0->x0.grownBy x rv.ownBlock->jK x F0 w9 (lo++[(iq,3,c,d,c2,d2,(po,pn,pc),(Y,0,0))])->Q .normal ⟨(u0::u1::u2::u3::u4::u5::u6::u7::u8::w9::u10::Z (X ⟨b11,0,Y⟩)::Z (X ⟨b12,0,Y⟩)::u13::u14::u15::u16::u17::u18::u19::u20::u21::u22::u23::u24::u25::u26::u27::u28::u29::u30::u31::u32::u33::u34::u35::u36::u37::u38::u39::u40::u41::u42::u43::u44::u45::u46::u47::u48::u49::u50::u51::u52::u53::u54::u55::u56::u57::u58::u59::u60::u61::u62::u63::u64::u65::u66::u67::u68::u69::u70::u71::u72::u73::u74::u75::u76::u77::u78::u79::u80::u81::u82::u83::u84::u85::u86::u87::v88::v89::v90::v91::v92::v93::v94::v95::u96::u97::u98::[]).toArray,[]⟩ x) :
  Code.wp au Ns Q ⟨(u0::u1::u2::u3::u4::u5::u6::u7::u8::rv::u10::Z (X ⟨b11,0,Y⟩)::Z (X ⟨b12,0,Y⟩)::u13::u14::u15::u16::u17::u18::u19::u20::u21::u22::u23::u24::u25::u26::u27::u28::u29::u30::u31::u32::u33::u34::u35::u36::u37::u38::u39::u40::u41::u42::u43::u44::u45::u46::u47::u48::u49::u50::u51::u52::u53::u54::u55::u56::u57::u58::u59::u60::u61::u62::u63::u64::u65::u66::u67::u68::u69::u70::u71::u72::u73::u74::u75::u76::u77::u78::u79::u80::u81::u82::u83::u84::u85::u86::u87::u88::u89::u90::u91::u92::u93::u94::u95::u96::u97::u98::[]).toArray,[]⟩ W:=by
 have HQ:=L hQ;have H11:=L h11;have H12:=L h12;have FW:=L fw;have HO:=L ho;have HL:=L hl;clear hQ h11 h12 fw ho hl;have iT:=Lg W.heap.size b11 b12 F0 z1 z2 iq c d c2 d2 fr up z3 po z4 z5 pn pc rv lo;unfold Ns
 conv=>arg 2; whnf
 have nd:∀ j,(∀ i,i<7->[88,89,90,91,92,93,94].getD i 0≠j)->∀ i,i<7->(fun i=>[88,89,90,91,92,93,94].getD i 0) i≠j:=fun j h=>h;refine Rg.fT 9 7 (fun i=>[88,89,90,91,92,93,94].getD i 0) (fun _=>7) (zi W.heap.size b11 b12 F0 z1 z2 iq c d c2 d2 fr up z3 po z4 z5 pn pc rv lo) (by kernel_rfl) (by kernel_rfl) rfl (by decide) (fun i j hi hj h=>(by decide:∀ i,i<7->∀ j,j<7->[88,89,90,91,92,93,94].getD i 0=[88,89,90,91,92,93,94].getD j 0->i=j) i hi j hj h) (fun i hi=>(by decide:∀ i,i<7->[88,89,90,91,92,93,94].getD i 0<99) i hi) ?_ (fun _=>Rg.jk 14 (by kernel_rfl)) ?_ ?_
 ·intro i o hi ho a x D hnd hc hD hb seen K hK;clear HQ;rcases (by omega:i=0\/i=1\/i=2\/i=3\/i=4\/i=5\/i=6) with rfl|rfl|rfl|rfl|rfl|rfl|rfl
  ·cases ho;have e9:a.eval (aj 9)=rv:=seen.kp 9 _ (nd 9 (by decide)) rfl;exact aF rfl rfl (cZ a.eval _ (aj 9) rfl x) (hK _ _ e9 (ah _ _) fun _ _ _ _ _ _ _ h=>h)
  ·cases ho;have e11:a.eval (aj 11)=Z (X ⟨b11,0,Y⟩):=seen.kp 11 _ (nd 11 (by decide)) rfl;exact aF rfl rfl (bV a.eval _ 74 (aj 11) 2 rfl (by rw [e11]; simp [go_sem])) (hK _ _ rfl (ah _ _) fun _ _ _ _ _ _ _ h=>h)
  ·cases ho;have e89:a.eval (aj 89)=Z (X ⟨b11,3,Y⟩):=seen.at_ ⟨1,.data⟩ (by simp) rfl (aD (by decide));have y3:=(H11.out.on hb).cell 3;simp only [ak,ay,aB] at y3;exact aF rfl rfl (aY a.eval _ 3 (aj 89) rfl (by rw [e89]; simp [go_sem,y3])) (hK _ _ rfl (ah _ _) fun _ _ _ _ _ _ _ h=>h)
  ·cases ho;have e12:a.eval (aj 12)=Z (X ⟨b12,0,Y⟩):=seen.kp 12 _ (nd 12 (by decide)) rfl;obtain⟨y0,y1,y2,y3,y4,y5,y6⟩:=(H12.out.on hb).oJ;exact aF rfl rfl (aY a.eval _ 66 (aj 12) rfl (by rw [e12]; simp [go_sem,y0,y1,y2,y3,y4,y5,y6])) (hK _ _ rfl (ah _ _) fun _ _ _ _ _ _ _ h=>h)
  ·cases ho;have e91:a.eval (aj 91)=aM #[V U c,V U d,V U c2,V U d2,J po pn pc,V U fr,bY up]:=seen.at_ ⟨3,.data⟩ (by simp) rfl (aD (by decide));exact dw rfl rfl (iD a.eval _ (aj 91) 66 48 rfl e91 rfl _ (gD cO rfl rfl _ _)) (ze (c,d,c2,d2,(po,pn,pc),fr,up) x) fun e w1 h=>by
    obtain⟨rfl,h3⟩:=h;exact⟨_,rfl,hK _ _ rfl (h3.mono hb.size) fun j u _ _ _ _ _ h=>iT j u _ _ h h3⟩
  ·cases ho;have e90:a.eval (aj 90)=V U iq:=seen.at_ ⟨2,.data⟩ (by simp) rfl (aD (by decide));have e92:a.eval (aj 92)=aM #[V U 3,V U c,V U d,V U c2,V U d2,J po pn pc,J Y 0 0]:=seen.at_ ⟨4,.data⟩ (by simp) rfl (aD (by decide));exact aF rfl rfl (dB a.eval _ 43 #[(0,aj 90),(1,aj 92)] rfl (ps:=#[(0,V U iq),(1,aM #[V U 3,V U c,V U d,V U c2,V U d2,J po pn pc,J Y 0 0])]) (by simp only [aT,bf,bg,e90,e92]) (by simp [go_sem])) (hK _ _ rfl (ah _ _) fun _ _ _ _ _ _ _ h=>h)
  ·cases ho;have e93:a.eval (aj 93)=vW (iq,3,c,d,c2,d2,(po,pn,pc),(Y,0,0)):=seen.at_ ⟨5,.data⟩ (by simp) rfl (aD (by decide));have hl:=iN Dk x [((iq,3,c,d,c2,d2,(po,pn,pc),(Y,0,0)):mh)] 1 rfl (by simp) (kU (iq,3,c,d,c2,d2,(po,pn,pc),(Y,0,0))).toArray (by simp [flat,EU]);have nb:=gu x (aH (kU (iq,3,c,d,c2,d2,(po,pn,pc),(Y,0,0))).toArray 43);exact aF rfl rfl (dx a.eval _ 35 1 #[(0,aj 93)] rfl (ps:=#[(0,vW (iq,3,c,d,c2,d2,(po,pn,pc),(Y,0,0)))]) (by simp [e93]) (by simp [go_sem])) (hK (J (X ⟨x.heap.size,0,Y⟩) 1 1) (x.alloc (aH (kU (iq,3,c,d,c2,d2,(po,pn,pc),(Y,0,0))).toArray 43)) (dN hl hb.size) (nb.mono hb.size) fun j u _ _ _ _ _ h=>iT j u _ _ h nb)
 ·intro kk o h1 h2 ho;rcases (by omega:kk=8) with rfl
  ·cases ho;exact⟨⟨7,.data⟩,by simp,rfl,rfl⟩
 ·intro a w' df sz kp ⟨vs,hv⟩ hb;have sz':a.tmps.size=99:=sz;have g88:a.tmps[88]?=X (rv):=by
   have h:vs 0=rv:=(hv 0 (by omega)).2 (by decide);rw [<- h];exact (hv 0 (by omega)).1
  have g94:a.tmps[94]?=X (vs 6):=(hv 6 (by omega)).1;have G94:=(hv 6 (by omega)).2 (by decide);have o94:jK w' W.heap.size (vs 6) [(iq,3,c,d,c2,d2,(po,pn,pc),(Y,0,0))]:=G94;generalize vs 6=v6 at *;obtain⟨v',x',r,o',gr⟩:=wN Dk F0 (dI HO.out hb) (Row.dH o94) HL.out (by simp) (aA FW.out hb.size) 35;show dn _ _ _ 2 7 a w';simp only [dn];refine aF rfl rfl (dh a.eval _ (aj 88) (aj 94) 35 rfl (cu g88) (cu g94) r) ?_;have e95:(a.put (X 95) v').eval (aj 95)=v':=cu (by simp [bL,sz']);refine aF rfl rfl (Rg.kI _ _ (aj 95) rfl x') ?_;show Q .normal ((a.put (X 95) v').put (X 9) ((a.put (X 95) v').eval (aj 95))) x';rw [e95];show Q .normal ((a.put (X 95) v').put (X 9) v') x';have ka:∀ j,j≠95->j≠9->((a.put (X 95) v').put (X 9) v').tmps[j]?=a.tmps[j]?:=fun j h1 h2=>by rw [cB _ _ _ _ (by omega),cB _ _ _ _ (by omega)]
  have kt:((a.put (X 95) v').put (X 9) v').tmps[9]?=X (v'):=by simp [bL,sz']
  have rA:∀ j,(j<88\/96<=j)->((a.put (X 95) v').put (X 9) v').tmps[j]?=(u0::u1::u2::u3::u4::u5::u6::u7::u8::v'::u10::Z (X ⟨b11,0,Y⟩)::Z (X ⟨b12,0,Y⟩)::u13::u14::u15::u16::u17::u18::u19::u20::u21::u22::u23::u24::u25::u26::u27::u28::u29::u30::u31::u32::u33::u34::u35::u36::u37::u38::u39::u40::u41::u42::u43::u44::u45::u46::u47::u48::u49::u50::u51::u52::u53::u54::u55::u56::u57::u58::u59::u60::u61::u62::u63::u64::u65::u66::u67::u68::u69::u70::u71::u72::u73::u74::u75::u76::u77::u78::u79::u80::u81::u82::u83::u84::u85::u86::u87::u88::u89::u90::u91::u92::u93::u94::u95::u96::u97::u98::[])[j]?:=fun j hj=>by
   by_cases hj2:j=9
   ·subst hj2;exact kt
   ·have hs:(u0::u1::u2::u3::u4::u5::u6::u7::u8::v'::u10::Z (X ⟨b11,0,Y⟩)::Z (X ⟨b12,0,Y⟩)::u13::u14::u15::u16::u17::u18::u19::u20::u21::u22::u23::u24::u25::u26::u27::u28::u29::u30::u31::u32::u33::u34::u35::u36::u37::u38::u39::u40::u41::u42::u43::u44::u45::u46::u47::u48::u49::u50::u51::u52::u53::u54::u55::u56::u57::u58::u59::u60::u61::u62::u63::u64::u65::u66::u67::u68::u69::u70::u71::u72::u73::u74::u75::u76::u77::u78::u79::u80::u81::u82::u83::u84::u85::u86::u87::u88::u89::u90::u91::u92::u93::u94::u95::u96::u97::u98::[]:List aG)=(u0::u1::u2::u3::u4::u5::u6::u7::u8::rv::u10::Z (X ⟨b11,0,Y⟩)::Z (X ⟨b12,0,Y⟩)::u13::u14::u15::u16::u17::u18::u19::u20::u21::u22::u23::u24::u25::u26::u27::u28::u29::u30::u31::u32::u33::u34::u35::u36::u37::u38::u39::u40::u41::u42::u43::u44::u45::u46::u47::u48::u49::u50::u51::u52::u53::u54::u55::u56::u57::u58::u59::u60::u61::u62::u63::u64::u65::u66::u67::u68::u69::u70::u71::u72::u73::u74::u75::u76::u77::u78::u79::u80::u81::u82::u83::u84::u85::u86::u87::u88::u89::u90::u91::u92::u93::u94::u95::u96::u97::u98::[]).set 9 (v'):=rfl;rw [hs,bI (Ne.symm hj2)];exact (ka j (by omega) hj2).trans ((kp j (nd j fun i hi h=>by have:=(by decide:∀ i,i<7->88<=[88,89,90,91,92,93,94].getD i 0/\[88,89,90,91,92,93,94].getD i 0<96) i hi; omega)).trans ak)
  obtain⟨mid,hmid,hfr⟩:=Rg.gG (a:=(a.put (X 95) v').put (X 9) v') 88 8 (by simp [bL,df]) (by simp [bL,sz']) (by simp) rA;rw [hfr]
  match mid,hmid with
  | [v88,v89,v90,v91,v92,v93,v94,v95],_ =>
   exact HQ.out w' x' _ _ _ _ _ _ _ _ _ hb gr o'
end Bk
namespace Av
open Go.RowKit Go.Sort Rw YtmklifheakemeaaGreat.Nm Pr Bk
def afh (B:Nat) (bq _ _:Nat) (z0 _ _ _ _ t1 t2 i1 i2:Int) (h1:Option aS) (h2 h3:Nat) (g1:Option aS) (g2 g3:Nat) (has vals:List Int) (i:Nat) (v:aG) (x:aI):Prop :=
 match i with
 | 0=>v=Z (X ⟨bq,0,Y⟩)
 | 1=>v=V U z0
 | 2=>v=V U (aP z0 1 7)
 | 3=>v=aM #[V U t1,V U t2]
 | 4=>v=aM #[V U i1,V U i2]
 | 5=>v=Z (X ⟨bq,5,Y⟩)
 | 6=>v=aM #[J h1 h2 h3,J g1 g2 g3]
 | 7=>∃ s:Sl,v=dX s/\gP x B (dX s) ((lG has vals 7).map r5)
 | 8=>∃ s:Sl,v=aM #[V U (aP z0 1 7),V U t1,V U t2,V U i1,V U i2,dX s,J Y 0 0]/\gP x B (dX s) ((lG has vals 7).map r5)
 | 9=>True
 | 10=>True
 | _=>True
noncomputable def Z9:Code:=((Tryz.f11.body.bind (eT 14)).getD .skip)
theorem ahM (Q:Exit->Act->aI->Prop) (W:aI) (bq b7 b8:Nat) (z0 z1 z2 z3 z4 t1 t2 i1 i2:Int) (h1:Option aS) (h2 h3:Nat) (g1:Option aS) (g2 g3:Nat) (has vals:List Int) (u0 u1 u2 u3 u4 u5 u9 u10 u11 u12 u13 u14 u15 u16 u17 u18 u19 u20 u21 u22 u23 u24 u25 u26 u27 u28 u29 u30 u31 u32 u33 u34 u35 u36 u37 u38 u39 u40 u41 u42 u43 u44 u45 u46 u47 u48 u49 u50 u51 u52 u53 u54 u55 u56 u57 u58 u59 u60 u61 u62 u63 u64 u65 u66 u67 u68 u69 u70 u71 u72 u73 u74 u75 u76 u77 u78 u79 u80 u81 u82 u83 u84 u85 u86 u87 u88 u89 u90 u91 u92 u93 u94 u95 u96 u97 u98 u99 u100 u101 u102 u103 u104 u105 u106 u107 u108 u109 u110 u111 u112 u113 u114 u115 u116 u117 u118 u119 u120 u121 u122 u123:aG)
  (q:dJ W bq #[V U z0,V U z1,V U z2,V U z3,V U z4,J h1 h2 h3,J g1 g2 g3] 86) (d0:-9223372036854775808<=z0/\z0<=9223372036854775807) (x7:dJ W b7 #[V U t1,V U t2] 31) (x8:dJ W b8 #[V U i1,V U i2] 31) (ih:In.kK W (J h1 h2 h3) has) (iv:In.kK W (J g1 g2 g3) vals) (lh:has.length<=maxLen) (lv:vals.length<=maxLen)
  (hQ:∀ (x:aI) (bb:Nat) (v57 v58 v59 v60 v61 v62 v63 v64 v65:aG) (m1:Option aS) (m2 m3:Nat),W.heap.size<=bb->dJ x bb #[V U (aP z0 1 7),V U t1,V U t2,V U i1,V U i2,J m1 m2 m3,J Y 0 0] 41->gP x W.heap.size (J m1 m2 m3) ((lG has vals 7).map r5)->Below W.heap.size W x->Q .normal ⟨(u0::u1::u2::u3::u4::u5::Z (X ⟨bq,0,Y⟩)::Z (X ⟨b7,0,Y⟩)::Z (X ⟨b8,0,Y⟩)::u9::Z (X ⟨bb,0,Y⟩)::u11::u12::u13::u14::u15::u16::u17::u18::u19::u20::u21::u22::u23::u24::u25::u26::u27::u28::u29::u30::u31::u32::u33::u34::u35::u36::u37::u38::u39::u40::u41::u42::u43::u44::u45::u46::u47::u48::u49::u50::u51::u52::u53::u54::u55::u56::v57::v58::v59::v60::v61::v62::v63::v64::v65::u66::u67::u68::u69::u70::u71::u72::u73::u74::u75::u76::u77::u78::u79::u80::u81::u82::u83::u84::u85::u86::u87::u88::u89::u90::u91::u92::u93::u94::u95::u96::u97::u98::u99::u100::u101::u102::u103::u104::u105::u106::u107::u108::u109::u110::u111::u112::u113::u114::u115::u116::u117::u118::u119::u120::u121::u122::u123::[]).toArray,[]⟩ x) :
  Code.wp au Z9 Q ⟨(u0::u1::u2::u3::u4::u5::Z (X ⟨bq,0,Y⟩)::Z (X ⟨b7,0,Y⟩)::Z (X ⟨b8,0,Y⟩)::u9::u10::u11::u12::u13::u14::u15::u16::u17::u18::u19::u20::u21::u22::u23::u24::u25::u26::u27::u28::u29::u30::u31::u32::u33::u34::u35::u36::u37::u38::u39::u40::u41::u42::u43::u44::u45::u46::u47::u48::u49::u50::u51::u52::u53::u54::u55::u56::u57::u58::u59::u60::u61::u62::u63::u64::u65::u66::u67::u68::u69::u70::u71::u72::u73::u74::u75::u76::u77::u78::u79::u80::u81::u82::u83::u84::u85::u86::u87::u88::u89::u90::u91::u92::u93::u94::u95::u96::u97::u98::u99::u100::u101::u102::u103::u104::u105::u106::u107::u108::u109::u110::u111::u112::u113::u114::u115::u116::u117::u118::u119::u120::u121::u122::u123::[]).toArray,[]⟩ W:=by
 have HQ:=L hQ;have HQ6:=L q;have D0:=L d0;have H7:=L x7;have H8:=L x8;have IH:=L ih;have IV:=L iv;have LH:=L lh;have LV:=L lv;clear hQ q d0 x7 x8 ih iv lh lv;unfold Z9
 conv=>arg 2; whnf
 have nb6:∀ i,i<11->[57,58,59,60,61,62,63,64,65,10,10].getD i 0≠6:=by decide
 have nb7:∀ i,i<11->[57,58,59,60,61,62,63,64,65,10,10].getD i 0≠7:=by decide
 have nb8:∀ i,i<11->[57,58,59,60,61,62,63,64,65,10,10].getD i 0≠8:=by decide
 refine Rg.xD 11 9 10 8 (fun i=>[57,58,59,60,61,62,63,64,65,10,10].getD i 0) (fun i=>if i=7 then 8 else 11) (afh W.heap.size bq b7 b8 z0 z1 z2 z3 z4 t1 t2 i1 i2 h1 h2 h3 g1 g2 g3 has vals) 41 #[V U 0,V U 0,V U 0,V U 0,V U 0,J Y 0 0,J Y 0 0] (fun v=>match v with | aM c=>c | _=>#[]) (by kernel_rfl) (by kernel_rfl) rfl (by decide) (by decide) (by decide) (by decide) (by decide) (by decide) (by decide) (fun i j hi hj h1 h2 h=>(by decide:∀ i,i<11->∀ j,j<11->i≠10->j≠10->[57,58,59,60,61,62,63,64,65,10,10].getD i 0=[57,58,59,60,61,62,63,64,65,10,10].getD j 0->i=j) i hi j hj h1 h2 h) (fun i hi=>(by decide:∀ i,i<11->[57,58,59,60,61,62,63,64,65,10,10].getD i 0<124) i hi) ?_ ?_ ?_ ?_ ?_ ?_
 ·intro i v x x' hi h hb;rcases (by omega:i=0\/i=1\/i=2\/i=3\/i=4\/i=5\/i=6\/i=7\/i=8\/i=9\/i=10) with rfl|rfl|rfl|rfl|rfl|rfl|rfl|rfl|rfl|rfl|rfl
  ·exact h
  ·exact h
  ·exact h
  ·exact h
  ·exact h
  ·exact h
  ·exact h
  ·obtain⟨s,h1,h2⟩:=h; exact⟨s,h1,Bk.dI h2 hb⟩
  ·obtain⟨s,h1,h2⟩:=h; exact⟨s,h1,Bk.dI h2 hb⟩
  ·exact h
  ·exact h
 ·intro o ho;cases ho;exact⟨⟨⟨9,.data⟩,by simp,rfl,rfl⟩,⟨⟨8,.data⟩,by simp,rfl,rfl⟩⟩
 ·intro i o hi Zn Rc ho a x hb seen K hK;clear HQ;rcases (by omega:i=0\/i=1\/i=2\/i=3\/i=4\/i=5\/i=6\/i=7\/i=8) with rfl|rfl|rfl|rfl|rfl|rfl|rfl|rfl|rfl
  ·cases ho;have e6:a.eval (aj 6)=Z (X ⟨bq,0,Y⟩):=seen.kp 6 _ nb6 rfl;exact aF rfl rfl (bV a.eval _ 86 (aj 6) 0 rfl (by rw [e6]; simp [go_sem])) (hK _ x rfl (ah _ _))
  ·cases ho;have e57:a.eval (aj 57)=Z (X ⟨bq,0,Y⟩):=seen.at_ ⟨0,.data⟩ (by simp) rfl (by decide) (by decide) (aD (by decide));have y0:=(HQ6.out.on hb).cell 0;simp only [ak,ay] at y0;exact aF rfl rfl (aY a.eval _ 3 (aj 57) rfl (by rw [e57]; simp [go_sem,y0])) (hK _ x rfl (ah _ _))
  ·cases ho;have e58:a.eval (aj 58)=V U z0:=seen.at_ ⟨1,.data⟩ (by simp) rfl (by decide) (by decide) (aD (by decide));exact dw rfl rfl (Rg.zA a.eval _ (aj 58) (.const (V U 1)) (.const (V U 7)) 3 13 rfl e58 rfl rfl rfl _ (gD Tryz.func13 rfl rfl _ _)) (Wi.jy z0 1 7 x (by omega) (by omega) (by omega) D0.out.1 D0.out.2) fun e w1 h=>by
    obtain⟨rfl,rfl⟩:=h;exact⟨_,rfl,hK _ _ rfl (ah _ _)⟩
  ·cases ho;have e7:a.eval (aj 7)=Z (X ⟨b7,0,Y⟩):=seen.kp 7 _ nb7 rfl;obtain⟨y0,y1⟩:=(H7.out.on hb).cs2;exact aF rfl rfl (aY a.eval _ 31 (aj 7) rfl (by rw [e7]; simp [go_sem,y0,y1])) (hK _ x rfl (ah _ _))
  ·cases ho;have e8:a.eval (aj 8)=Z (X ⟨b8,0,Y⟩):=seen.kp 8 _ nb8 rfl;obtain⟨y0,y1⟩:=(H8.out.on hb).cs2;exact aF rfl rfl (aY a.eval _ 31 (aj 8) rfl (by rw [e8]; simp [go_sem,y0,y1])) (hK _ x rfl (ah _ _))
  ·cases ho;have e6:a.eval (aj 6)=Z (X ⟨bq,0,Y⟩):=seen.kp 6 _ nb6 rfl;exact aF rfl rfl (bV a.eval _ 86 (aj 6) 5 rfl (by rw [e6]; simp [go_sem])) (hK _ x rfl (ah _ _))
  ·cases ho;have e62:a.eval (aj 62)=Z (X ⟨bq,5,Y⟩):=seen.at_ ⟨5,.data⟩ (by simp) rfl (by decide) (by decide) (aD (by decide));have y5:=(HQ6.out.on hb).cell 5;have y6:=(HQ6.out.on hb).cell 6;simp only [ak,ay,aB] at y5 y6;exact aF rfl rfl (aY a.eval _ 49 (aj 62) rfl (by rw [e62]; simp [go_sem,y5,y6])) (hK _ x rfl (ah _ _))
  ·cases ho;have e63:a.eval (aj 63)=aM #[J h1 h2 h3,J g1 g2 g3]:=seen.at_ ⟨6,.data⟩ (by simp) rfl (by decide) (by decide) (aD (by decide));exact dw rfl rfl (Rw.iD a.eval _ (aj 63) 49 16 rfl e63 rfl _ (gD Tryz.func16 rfl rfl _ _)) (GJ (J h1 h2 h3) (J g1 g2 g3) has vals x (IH.out.on hb) (IV.out.on hb) LH.out LV.out) fun e w1 h=>by
    obtain⟨v,rfl,q1,q2⟩:=h;obtain⟨a1,a2,hvv⟩:=(Row.dH q1).len;have q3:=dN q1 hb.size;rw [hvv] at q3;exact⟨_,rfl,hK _ _ ⟨(a1,_,a2),hvv,q3⟩ q2⟩
  ·cases ho;have e59:a.eval (aj 59)=V U (aP z0 1 7):=seen.at_ ⟨2,.data⟩ (by simp) rfl (by decide) (by decide) (aD (by decide));have e60:a.eval (aj 60)=aM #[V U t1,V U t2]:=seen.at_ ⟨3,.data⟩ (by simp) rfl (by decide) (by decide) (aD (by decide));have e61:a.eval (aj 61)=aM #[V U i1,V U i2]:=seen.at_ ⟨4,.data⟩ (by simp) rfl (by decide) (by decide) (aD (by decide));have E64:=seen.at_ ⟨7,.data⟩ (by simp) rfl (by decide) (by decide) (bM rfl);obtain⟨s,q0,q1⟩:=E64;have q0:a.eval (aj 64)=dX s:=q0;exact aF rfl rfl (dB a.eval _ 41 #[(0,aj 59),(1,aj 60),(2,aj 61),(3,aj 64)] rfl (ps:=#[(0,V U (aP z0 1 7)),(1,aM #[V U t1,V U t2]),(2,aM #[V U i1,V U i2]),(3,dX s)]) (by simp only [aT,bf,bg,e59,e60,e61,q0]) (by simp [go_sem])) (hK _ x ⟨s,rfl,q1⟩ (ah _ _))
 ·intro o ho a x K hK;cases ho;exact aF rfl rfl (Rg.zD a.eval _ 41 rfl (by simp [go_sem])) hK
 ·intro o ho a x bb v D hc hD hb hA hC Ul hbb mo K hK;clear HQ;cases ho;obtain⟨⟨m1,m2,m3⟩,hv1,hv2⟩:=Ul;subst hv1;obtain⟨x0,x1,x2,x3,x4,x5,x6⟩:=mo.oJ;obtain⟨f0,f1,f2,f3,f4,f5,f6⟩:=mo.fs7;have hst:(Instr.storeAt 41 (Z (X ⟨bb,0,Y⟩)) (aM #[V U (aP z0 1 7),V U t1,V U t2,V U i1,V U i2,J m1 m2 m3,J Y 0 0])).run au x=.ok () (((((((x.setCell ⟨bb,0,Y⟩ (V U (aP z0 1 7))).setCell ⟨bb,1,Y⟩ (V U t1)).setCell ⟨bb,2,Y⟩ (V U t2)).setCell ⟨bb,3,Y⟩ (V U i1)).setCell ⟨bb,4,Y⟩ (V U i2)).setCell ⟨bb,5,Y⟩ (J m1 m2 m3)).setCell ⟨bb,6,Y⟩ (J Y 0 0)):=by simp [go_sem,x0,x1,x2,x3,x4,x5,x6,f0,f1,f2,f3,f4,f5,f6]
  have acA:=dR (k:=6) (dR (k:=5) (dR (k:=4) (dR (k:=3) (dR (k:=2) (dR (k:=1) (dR (k:=0) mo (V U (aP z0 1 7))) (V U t1)) (V U t2)) (V U i1)) (V U i2)) (J m1 m2 m3)) (J Y 0 0);have Lh:But bb x (((((((x.setCell ⟨bb,0,Y⟩ (V U (aP z0 1 7))).setCell ⟨bb,1,Y⟩ (V U t1)).setCell ⟨bb,2,Y⟩ (V U t2)).setCell ⟨bb,3,Y⟩ (V U i1)).setCell ⟨bb,4,Y⟩ (V U i2)).setCell ⟨bb,5,Y⟩ (J m1 m2 m3)).setCell ⟨bb,6,Y⟩ (J Y 0 0)):=(((((((dP _ bb _ _).trans (dP _ bb _ _)).trans (dP _ bb _ _)).trans (dP _ bb _ _)).trans (dP _ bb _ _)).trans (dP _ bb _ _)).trans (dP _ bb _ _));refine Rg.fQ 41 (aj 10) (aj 65) rfl rfl rfl rfl hA hC hst (hK _ (((((((hb.setCell (p:=⟨bb,0,Y⟩) hbb _).setCell (p:=⟨bb,1,Y⟩) hbb _).setCell (p:=⟨bb,2,Y⟩) hbb _).setCell (p:=⟨bb,3,Y⟩) hbb _).setCell (p:=⟨bb,4,Y⟩) hbb _).setCell (p:=⟨bb,5,Y⟩) hbb _).setCell (p:=⟨bb,6,Y⟩) hbb _) (by simpa using acA) ?_);exact fun j u hj hjA hjS hdj hnl hls h=>by
   rcases (by omega:j=0\/j=1\/j=2\/j=3\/j=4\/j=5\/j=6\/j=7\/j=8) with rfl|rfl|rfl|rfl|rfl|rfl|rfl|rfl|rfl
   ·have h2:u=Z (X ⟨bq,0,Y⟩):=h; exact h2
   ·have h2:u=V U z0:=h; exact h2
   ·have h2:u=V U (aP z0 1 7):=h; exact h2
   ·have h2:u=aM #[V U t1,V U t2]:=h; exact h2
   ·have h2:u=aM #[V U i1,V U i2]:=h; exact h2
   ·have h2:u=Z (X ⟨bq,5,Y⟩):=h; exact h2
   ·have h2:u=aM #[J h1 h2 h3,J g1 g2 g3]:=h; exact h2
   ·exact absurd (hD ⟨8,.data⟩ (by simp) rfl) hnl
   ·obtain⟨s,h1,h2⟩:=h; exact⟨s,h1,Lh.own h2 mo (by decide)⟩
 ·intro a x bb v df sz kp gA gC hbb mo Ul hbel ⟨vs,hv⟩;obtain⟨⟨m1,m2,m3⟩,hv1,hv2⟩:=Ul;subst hv1;have g10:a.tmps[10]?=X (Z (X ⟨bb,0,Y⟩)):=gA;have rA:∀ j,(j<10\/66<=j)->a.tmps[j]?=(u0::u1::u2::u3::u4::u5::Z (X ⟨bq,0,Y⟩)::Z (X ⟨b7,0,Y⟩)::Z (X ⟨b8,0,Y⟩)::u9::u10::u11::u12::u13::u14::u15::u16::u17::u18::u19::u20::u21::u22::u23::u24::u25::u26::u27::u28::u29::u30::u31::u32::u33::u34::u35::u36::u37::u38::u39::u40::u41::u42::u43::u44::u45::u46::u47::u48::u49::u50::u51::u52::u53::u54::u55::u56::u57::u58::u59::u60::u61::u62::u63::u64::u65::u66::u67::u68::u69::u70::u71::u72::u73::u74::u75::u76::u77::u78::u79::u80::u81::u82::u83::u84::u85::u86::u87::u88::u89::u90::u91::u92::u93::u94::u95::u96::u97::u98::u99::u100::u101::u102::u103::u104::u105::u106::u107::u108::u109::u110::u111::u112::u113::u114::u115::u116::u117::u118::u119::u120::u121::u122::u123::[])[j]?:=fun j hj=>(kp j (fun i hi h=>by have:=(by decide:∀ i,i<11->10<=[57,58,59,60,61,62,63,64,65,10,10].getD i 0/\[57,58,59,60,61,62,63,64,65,10,10].getD i 0<66) i hi; omega)).trans ak;obtain⟨mid,hmid,rfl⟩:=Rg.gG 10 56 df sz (by simp) rA
  match mid,hmid with
  | v10::v11::v12::v13::v14::v15::v16::v17::v18::v19::v20::v21::v22::v23::v24::v25::v26::v27::v28::v29::v30::v31::v32::v33::v34::v35::v36::v37::v38::v39::v40::v41::v42::v43::v44::v45::v46::v47::v48::v49::v50::v51::v52::v53::v54::v55::v56::v57::v58::v59::v60::v61::v62::v63::v64::v65::[],_ =>
   obtain rfl:v10=Z (X ⟨bb,0,Y⟩):=O g10;obtain rfl:v11=u11:=O (kp 11 (fun i hi h=>(by decide:∀ i,i<11->[57,58,59,60,61,62,63,64,65,10,10].getD i 0≠11) i hi h));obtain rfl:v12=u12:=O (kp 12 (fun i hi h=>(by decide:∀ i,i<11->[57,58,59,60,61,62,63,64,65,10,10].getD i 0≠12) i hi h));obtain rfl:v13=u13:=O (kp 13 (fun i hi h=>(by decide:∀ i,i<11->[57,58,59,60,61,62,63,64,65,10,10].getD i 0≠13) i hi h));obtain rfl:v14=u14:=O (kp 14 (fun i hi h=>(by decide:∀ i,i<11->[57,58,59,60,61,62,63,64,65,10,10].getD i 0≠14) i hi h));obtain rfl:v15=u15:=O (kp 15 (fun i hi h=>(by decide:∀ i,i<11->[57,58,59,60,61,62,63,64,65,10,10].getD i 0≠15) i hi h));obtain rfl:v16=u16:=O (kp 16 (fun i hi h=>(by decide:∀ i,i<11->[57,58,59,60,61,62,63,64,65,10,10].getD i 0≠16) i hi h));obtain rfl:v17=u17:=O (kp 17 (fun i hi h=>(by decide:∀ i,i<11->[57,58,59,60,61,62,63,64,65,10,10].getD i 0≠17) i hi h));obtain rfl:v18=u18:=O (kp 18 (fun i hi h=>(by decide:∀ i,i<11->[57,58,59,60,61,62,63,64,65,10,10].getD i 0≠18) i hi h));obtain rfl:v19=u19:=O (kp 19 (fun i hi h=>(by decide:∀ i,i<11->[57,58,59,60,61,62,63,64,65,10,10].getD i 0≠19) i hi h));obtain rfl:v20=u20:=O (kp 20 (fun i hi h=>(by decide:∀ i,i<11->[57,58,59,60,61,62,63,64,65,10,10].getD i 0≠20) i hi h));obtain rfl:v21=u21:=O (kp 21 (fun i hi h=>(by decide:∀ i,i<11->[57,58,59,60,61,62,63,64,65,10,10].getD i 0≠21) i hi h));obtain rfl:v22=u22:=O (kp 22 (fun i hi h=>(by decide:∀ i,i<11->[57,58,59,60,61,62,63,64,65,10,10].getD i 0≠22) i hi h));obtain rfl:v23=u23:=O (kp 23 (fun i hi h=>(by decide:∀ i,i<11->[57,58,59,60,61,62,63,64,65,10,10].getD i 0≠23) i hi h));obtain rfl:v24=u24:=O (kp 24 (fun i hi h=>(by decide:∀ i,i<11->[57,58,59,60,61,62,63,64,65,10,10].getD i 0≠24) i hi h));obtain rfl:v25=u25:=O (kp 25 (fun i hi h=>(by decide:∀ i,i<11->[57,58,59,60,61,62,63,64,65,10,10].getD i 0≠25) i hi h));obtain rfl:v26=u26:=O (kp 26 (fun i hi h=>(by decide:∀ i,i<11->[57,58,59,60,61,62,63,64,65,10,10].getD i 0≠26) i hi h));obtain rfl:v27=u27:=O (kp 27 (fun i hi h=>(by decide:∀ i,i<11->[57,58,59,60,61,62,63,64,65,10,10].getD i 0≠27) i hi h));obtain rfl:v28=u28:=O (kp 28 (fun i hi h=>(by decide:∀ i,i<11->[57,58,59,60,61,62,63,64,65,10,10].getD i 0≠28) i hi h));obtain rfl:v29=u29:=O (kp 29 (fun i hi h=>(by decide:∀ i,i<11->[57,58,59,60,61,62,63,64,65,10,10].getD i 0≠29) i hi h));obtain rfl:v30=u30:=O (kp 30 (fun i hi h=>(by decide:∀ i,i<11->[57,58,59,60,61,62,63,64,65,10,10].getD i 0≠30) i hi h));obtain rfl:v31=u31:=O (kp 31 (fun i hi h=>(by decide:∀ i,i<11->[57,58,59,60,61,62,63,64,65,10,10].getD i 0≠31) i hi h));obtain rfl:v32=u32:=O (kp 32 (fun i hi h=>(by decide:∀ i,i<11->[57,58,59,60,61,62,63,64,65,10,10].getD i 0≠32) i hi h));obtain rfl:v33=u33:=O (kp 33 (fun i hi h=>(by decide:∀ i,i<11->[57,58,59,60,61,62,63,64,65,10,10].getD i 0≠33) i hi h));obtain rfl:v34=u34:=O (kp 34 (fun i hi h=>(by decide:∀ i,i<11->[57,58,59,60,61,62,63,64,65,10,10].getD i 0≠34) i hi h));obtain rfl:v35=u35:=O (kp 35 (fun i hi h=>(by decide:∀ i,i<11->[57,58,59,60,61,62,63,64,65,10,10].getD i 0≠35) i hi h));obtain rfl:v36=u36:=O (kp 36 (fun i hi h=>(by decide:∀ i,i<11->[57,58,59,60,61,62,63,64,65,10,10].getD i 0≠36) i hi h));obtain rfl:v37=u37:=O (kp 37 (fun i hi h=>(by decide:∀ i,i<11->[57,58,59,60,61,62,63,64,65,10,10].getD i 0≠37) i hi h));obtain rfl:v38=u38:=O (kp 38 (fun i hi h=>(by decide:∀ i,i<11->[57,58,59,60,61,62,63,64,65,10,10].getD i 0≠38) i hi h));obtain rfl:v39=u39:=O (kp 39 (fun i hi h=>(by decide:∀ i,i<11->[57,58,59,60,61,62,63,64,65,10,10].getD i 0≠39) i hi h));obtain rfl:v40=u40:=O (kp 40 (fun i hi h=>(by decide:∀ i,i<11->[57,58,59,60,61,62,63,64,65,10,10].getD i 0≠40) i hi h));obtain rfl:v41=u41:=O (kp 41 (fun i hi h=>(by decide:∀ i,i<11->[57,58,59,60,61,62,63,64,65,10,10].getD i 0≠41) i hi h));obtain rfl:v42=u42:=O (kp 42 (fun i hi h=>(by decide:∀ i,i<11->[57,58,59,60,61,62,63,64,65,10,10].getD i 0≠42) i hi h));obtain rfl:v43=u43:=O (kp 43 (fun i hi h=>(by decide:∀ i,i<11->[57,58,59,60,61,62,63,64,65,10,10].getD i 0≠43) i hi h));obtain rfl:v44=u44:=O (kp 44 (fun i hi h=>(by decide:∀ i,i<11->[57,58,59,60,61,62,63,64,65,10,10].getD i 0≠44) i hi h));obtain rfl:v45=u45:=O (kp 45 (fun i hi h=>(by decide:∀ i,i<11->[57,58,59,60,61,62,63,64,65,10,10].getD i 0≠45) i hi h));obtain rfl:v46=u46:=O (kp 46 (fun i hi h=>(by decide:∀ i,i<11->[57,58,59,60,61,62,63,64,65,10,10].getD i 0≠46) i hi h));obtain rfl:v47=u47:=O (kp 47 (fun i hi h=>(by decide:∀ i,i<11->[57,58,59,60,61,62,63,64,65,10,10].getD i 0≠47) i hi h));obtain rfl:v48=u48:=O (kp 48 (fun i hi h=>(by decide:∀ i,i<11->[57,58,59,60,61,62,63,64,65,10,10].getD i 0≠48) i hi h));obtain rfl:v49=u49:=O (kp 49 (fun i hi h=>(by decide:∀ i,i<11->[57,58,59,60,61,62,63,64,65,10,10].getD i 0≠49) i hi h));obtain rfl:v50=u50:=O (kp 50 (fun i hi h=>(by decide:∀ i,i<11->[57,58,59,60,61,62,63,64,65,10,10].getD i 0≠50) i hi h));obtain rfl:v51=u51:=O (kp 51 (fun i hi h=>(by decide:∀ i,i<11->[57,58,59,60,61,62,63,64,65,10,10].getD i 0≠51) i hi h));obtain rfl:v52=u52:=O (kp 52 (fun i hi h=>(by decide:∀ i,i<11->[57,58,59,60,61,62,63,64,65,10,10].getD i 0≠52) i hi h));obtain rfl:v53=u53:=O (kp 53 (fun i hi h=>(by decide:∀ i,i<11->[57,58,59,60,61,62,63,64,65,10,10].getD i 0≠53) i hi h));obtain rfl:v54=u54:=O (kp 54 (fun i hi h=>(by decide:∀ i,i<11->[57,58,59,60,61,62,63,64,65,10,10].getD i 0≠54) i hi h));obtain rfl:v55=u55:=O (kp 55 (fun i hi h=>(by decide:∀ i,i<11->[57,58,59,60,61,62,63,64,65,10,10].getD i 0≠55) i hi h));obtain rfl:v56=u56:=O (kp 56 (fun i hi h=>(by decide:∀ i,i<11->[57,58,59,60,61,62,63,64,65,10,10].getD i 0≠56) i hi h));exact HQ.out x bb _ _ _ _ _ _ _ _ _ m1 m2 m3 hbb mo hv2 hbel
end Av
namespace Av
open Go.RowKit Go.ChangeShapes Go.WideShapes Bk
theorem YO:Tryz.prog.cellsOf 86=7:=by kernel_rfl
theorem YP (a:aS) (m len cap:Nat) (h:m<len) (w:aI):(Instr.indexAt 45 (J (X a) len cap) (V U m)).run au w=.ok (Z (X (a.add (m * 7)))) w:=by
 have h1:(m:Int)<len:=by omega
 simp [go_sem,bS,h1]
structure Li (W:aI) (v:aG) (n:Nat):Prop where
 shape:∃ ao cap,v=J ao n cap
 at_:∀ i:Nat,i<n->∃ (p:aS) (z0 z1 z2 z3 z4:Int) (h1:Option aS) (h2 h3:Nat) (g1:Option aS) (g2 g3:Nat) (has vals:List Int),p.block<W.heap.size/\(∀ w,(Instr.indexAt 45 v (V U i)).run au w=.ok (Z (X p)) w)/\(∀ j u,([V U z0,V U z1,V U z2,V U z3,V U z4,J h1 h2 h3,J g1 g2 g3]:List aG)[j]?=X u->W.cell? (p.add j)=X u)/\((-9223372036854775808<=z0/\z0<=9223372036854775807)/\(-9223372036854775808<=z1/\z1<=9223372036854775807)/\(-9223372036854775808<=z2/\z2<=9223372036854775807)/\(-9223372036854775808<=z3/\z3<=9223372036854775807)/\(-9223372036854775808<=z4/\z4<=9223372036854775807))/\In.kK W (J h1 h2 h3) has/\In.kK W (J g1 g2 g3) vals/\has.length<=maxLen/\vals.length<=maxLen
theorem Li.on {W W':aI} {v:aG} {n:Nat} (h:Li W v n) (hb:Below W.heap.size W W'):Li W' v n :=
 ⟨h.shape,fun i hi=>by
  obtain⟨p,z0,z1,z2,z3,z4,x1,x2,x3,y1,y2,y3,has,vals,h1,h2,h3,h4,h5,h6,h7⟩:=h.at_ i hi;exact⟨p,z0,z1,z2,z3,z4,x1,x2,x3,y1,y2,y3,has,vals,aQ h1 hb.size,h2,fun j u hu=>by rw [hb.cell (by rw [vV]; exact h1)]; exact h3 j u hu,h4,h5.on hb,h6.on hb,h7⟩⟩
end Av
namespace Bk
open Go.RowKit Go.Sort Rw YtmklifheakemeaaGreat.Nm Pr
end Bk
namespace Av
open Go.RowKit Go.ChangeShapes Go.WideShapes Bk
theorem acP {H:Type} {enc:TypeId×aG->H} {W:aI} {sp:Nat->Bool} {held:Bool} {fuel:Nat} {g1:aG} {x:DataW H×List MemPlace}
  (hf:aK enc au W 0 sp held fuel 45 [g1]=X x):∃ n:Nat,n<=maxLen/\Li W g1 n:=by
 rcases Deep.open_slice bS hf with⟨h1,_⟩|⟨a,len,cap,m,n,D,Pl,h1,_,h3,h4,h5,_,hx⟩
 ·have e:g1=J Y 0 0:=by simpa using h1
  exact⟨0,bH _,⟨Y,0,e⟩,fun i hi=>by omega⟩
 ·have e:g1=J (X a) len cap:=by simpa using h1
  rw [e];have hle:len<=m:=by rw [h5]; split <;> omega
  refine⟨len,by omega,⟨X a,cap,rfl⟩,fun i hi=>?_⟩;obtain⟨cs',k1,k2⟩:=hx i (by omega);obtain⟨xs,n',_,_,hcl,hxl,hy⟩:=aZ Tryz.underlying86 k2;rw [YO] at hcl k1
  match cs',hcl with
  | [c0,c1,c2,c3,c4,c5,d1],_ =>
   have f0:aK enc au W 0 sp held n' 3 (([c0,c1,c2,c3,c4,c5,d1].drop 0).take (Tryz.prog.cellsOf 3))=xs[0]?:=hy 0 _ rfl;have f1:aK enc au W 0 sp held n' 3 (([c0,c1,c2,c3,c4,c5,d1].drop 1).take (Tryz.prog.cellsOf 3))=xs[1]?:=hy 1 _ rfl;have f2:aK enc au W 0 sp held n' 3 (([c0,c1,c2,c3,c4,c5,d1].drop 2).take (Tryz.prog.cellsOf 3))=xs[2]?:=hy 2 _ rfl;have f3:aK enc au W 0 sp held n' 3 (([c0,c1,c2,c3,c4,c5,d1].drop 3).take (Tryz.prog.cellsOf 3))=xs[3]?:=hy 3 _ rfl;have f4:aK enc au W 0 sp held n' 3 (([c0,c1,c2,c3,c4,c5,d1].drop 4).take (Tryz.prog.cellsOf 3))=xs[4]?:=hy 4 _ rfl;have fp:aK enc au W 0 sp held n' 49 (([c0,c1,c2,c3,c4,c5,d1].drop 5).take (Tryz.prog.cellsOf 49))=xs[5]?:=hy 5 _ rfl;have aej:xs.length=5+1:=hxl;simp only [In.J3,Pr.Sw,bJ,aV,aW,bK] at f0 f1 f2 f3 f4 fp;rw [aC (by omega)] at f0 f1 f2 f3 f4 fp;obtain⟨m0,e0,_,w0⟩:=aO aL f0;obtain⟨m1,e1,_,w1⟩:=aO aL f1;obtain⟨m2,e2,_,w2⟩:=aO aL f2;obtain⟨m3,e3,_,w3⟩:=aO aL f3;obtain⟨m4,e4,_,w4⟩:=aO aL f4;simp only [List.cons.injEq,and_true] at e0 e1 e2 e3 e4;subst e0 e1 e2 e3 e4;obtain⟨ys,n2,_,_,_,hyl,hp⟩:=aZ Tryz.underlying49 fp;have aly:ys.length=2:=hyl;have q0:aK enc au W 0 sp held n2 22 (([c5,d1].drop 0).take (Tryz.prog.cellsOf 22))=ys[0]?:=hp 0 _ rfl;have q1:aK enc au W 0 sp held n2 22 (([c5,d1].drop 1).take (Tryz.prog.cellsOf 22))=ys[1]?:=hp 1 _ rfl;simp only [Pr.Ms,bJ,aV,aW,bK] at q0 q1;rw [aC (by omega)] at q0 q1;obtain⟨has,l1,i1⟩:=In.yV q0;obtain⟨vals,l2,i2⟩:=In.yV q1;obtain⟨x1,y1,rfl⟩:=i1.shape;obtain⟨x2,y2,rfl⟩:=i2.shape;obtain⟨_,_,k3⟩:=World.cells?_some k1;have k0:=k3 0 (by decide);rw [Rw.add_zero] at k0;refine⟨a.add (i * 7),m0,m1,m2,m3,m4,x1,_,y1,x2,_,y2,has,vals,World.block_lt_of_cell? W _ k0,fun w=>YP a i len cap hi w,fun j u hu=>?_,⟨In.tH w0,In.tH w1,In.tH w2,In.tH w3,In.tH w4⟩,i1,i2,l1,l2⟩;have hj:j<7:=(List.getElem?_eq_some_iff.1 hu).1;rw [<- hu];exact k3 j hj
theorem UM:Tryz.prog.cellsOf 47=2:=by kernel_rfl
theorem UN:Tryz.prog.cellsOf 45=1:=by kernel_rfl
theorem UQ {n:Int} (h:(Lit.int U n).wf=true):-9223372036854775808<=n/\n<=9223372036854775807:=by
 have h2:(decide (IntKind.i64.min<=n) && decide (n<=IntKind.i64.max))=true:=h;rw [Bool.and_eq_true,decide_eq_true_eq,decide_eq_true_eq,show IntKind.i64.min=-9223372036854775808 by decide,show IntKind.i64.max=9223372036854775807 by decide] at h2;exact h2
theorem UR {H:Type} {enc:TypeId×aG->H} {W:aI} {r:Reach} {b0:Nat} {sp:Nat->Bool} {held:Bool} {v:aG} {d:DataW H} {ps:List MemPlace}
  (hval:Value.okWide au W r b0 47 v) (hd:DataW.Trod enc au W 0 sp held 47 v d ps) :
  ∃ (zn:Int) (u:aG) (n:Nat),v=aM #[V U zn,u]/\-9223372036854775808<=zn/\zn<=9223372036854775807/\n<=maxLen/\Li W u n:=by
 obtain⟨cs,rfl,hsz⟩:=okWide_struct bU hval;obtain⟨fuel,hf⟩:=hd;obtain⟨xs,n,_,_,_,hxl,hx⟩:=aZ bU hf;rw [UM] at hsz;obtain⟨l⟩:=cs
 match l,hsz with
 | [c0,c1],_ =>
  have f0:aK enc au W 0 sp held n 3 (([c0,c1].drop 0).take (Tryz.prog.cellsOf 3))=xs[0]?:=hx 0 _ rfl;have f1:aK enc au W 0 sp held n 45 (([c0,c1].drop 1).take (Tryz.prog.cellsOf 45))=xs[1]?:=hx 1 _ rfl;have aej:xs.length=2:=hxl;simp only [In.J3,UN,bJ,aV,aW,bK] at f0 f1;rw [aC (by omega)] at f0 f1;obtain⟨m0,e0,_,w0⟩:=aO aL f0;simp only [List.cons.injEq,and_true] at e0;subst e0;obtain⟨k,h1,h2⟩:=acP f1;exact⟨m0,c1,k,rfl,(UQ w0).1,(UQ w0).2,h1,h2⟩
end Av
end Go.Proofs.YtmklifheakemeaaGreat
