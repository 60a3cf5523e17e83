/-
  Brokers of broadside. Conditions as told.
-/
import Derived.Test.YtkcfgbddlpomgaaGreatOQ027
import Derived.Test.YtkcfgbddlpomgaaGreatOQ018
set_option maxRecDepth 100000
set_option maxHeartbeats 64000000
open _root_.Array renaming length_toList->aS
open _root_.Bool renaming false->aJ,true->aT
open _root_.Go renaming below_regrown->au,World->aH,bodyPost_ret->aI,Value->aQ,Calls->bF,redrawn->bL,Addr->bZ
open Go.Act renaming eval->ak
open Go.Builtin renaming append_->aj
open Go.Ending renaming returned->aO
open Go.Instr renaming indexAt->bH
open Go.IntKind renaming i64->V
open Go.Lib renaming hid->L
open Go.Obj renaming cells->aB
open Go.Operand renaming tmp->aA
open Go.Proofs.Tryz renaming prog->ah,results109->aP,ntmps109->aU,func109->bf,results63->bR,results62->bS
open Go.Proofs.YtkcfgbddlpomgaaGreat.Rw.Row renaming dH->aV
open Go.RowKit.Below renaming refl->Z
open Go.Value renaming slice->J,int->O,pointer->ay,string->aF,bool->aX,agg->aZ
open _root_.List renaming length_map->aC,getElem?_cons_zero->aK,getElem?_map->aL,getElem?_eq_getElem->aM,length_append->aW,getElem?_cons_succ->aY,getElem?_toArray->bg,map_cons->bI,map_append->bK,map_toArray->bM,length_take->bN,length_drop->bO,mem_append->bQ,map_take->bU,map_drop->bV,map_nil->bW
open _root_.Nat renaming le_refl->aD,le_trans->aG,le_succ->aR,lt_of_lt_of_le->bA,le_of_lt->bJ,zero_le->bY
open _root_.Option renaming some->X,none->Y
open _root_.Or renaming inr->aN
namespace Go.Proofs.YtkcfgbddlpomgaaGreat
namespace Bk
open Go.RowKit Go.Sort Rw YtkcfgbddlpomgaaGreat.Nm Pr
def oV (W:Nat) (bv:aQ) (c d c2 d2:Int) (av:aQ) (ki:Nat) (p:bZ) (iA:Int) (po:Option bZ) (pn pc:Nat) (fr:Int) (up:Bool) (b3 b5:Nat) (i:Nat) (v:aQ) (x:aH):Prop :=
 match i with
 | 0=>v=bv
 | 1=>v=ay (X ⟨b3,2,Y⟩)
 | 2=>v=av
 | 3=>v=bv
 | 4=>v=ay (X ⟨b5,1,Y⟩)
 | 5=>v=mY (c,d)
 | 6=>v=O V (ki:Int)
 | 7=>v=ay (X p)
 | 8=>v=ay (X ⟨p.block,p.off+3,Y⟩)
 | 9=>v=O V iA
 | 10=>v=qg (c,d,c2,d2,(po,pn,pc),fr,up)
 | 11=>v=aZ #[O V 3,O V c,O V d,O V c2,O V d2,J po pn pc,J Y 0 0]
 | 12=>v=Ag (iA,3,c,d,c2,d2,(po,pn,pc),(Y,0,0))
 | 13=>jB x W v [(iA,3,c,d,c2,d2,(po,pn,pc),(Y,0,0))]
 | 15=>jB x W v [(iA,3,c,d,c2,d2,(po,pn,pc),(Y,0,0))]
 | _=>True
def oF (W:aH) (b6:Nat) (bc:Array aQ) (D:Nat->Prop) (x:aH):Prop :=
 (∀ j,j<W.heap.size->j≠b6->x.heap[j]?=W.heap[j]?)/\(∀ B,B<=b6->Below B W x)/\(¬ D 14->Below W.heap.size W x)/\(D 14->dN x b6 bc 33)/\W.heap.size<=x.heap.size
noncomputable def aaL:Code:=((Tryz.f63.body.bind (eP 5)).getD .skip)
theorem adM (Q:Exit->Act->aH->Prop) (W:aH) (b3 b5 b6 b8:Nat) (me mk c d c2 d2 fr iA:Int) (up:Bool) (o1 o2 o3 o4 o5:Option bZ) (n1 k1 n2 k2 n3 k3 n4 k4 n5 k5:Nat) (po qo:Option bZ) (pn pc qn qc:Nat) (ad:List kr) (ki:Nat) (p:bZ) (z0 z1 z2 z3 z4 z5:aQ) (u0 u1 u2 u4 u7 u9 u10 u11 u12 u13 u14 u15 u16 u17 u18 u19 u20 u21 u22 u23 u24 u25 u26 u27 u28 u29 u30 u31 u32 u33 u34 u35 u36 u37 u38 u39 u40:aQ)
  (h3:dN W b3 #[O V me,J o1 n1 k1,J o2 n2 k2,J o3 n3 k3,J o4 n4 k4,J o5 n5 k5] 33) (h5:dN W b5 #[O V mk,O V c,O V d,O V c2,O V d2,J po pn pc,J qo qn qc] 43) (h6:dN W b6 #[z0,z1,z2,z3,z4,z5] 33) (h8:dN W b8 #[O V c,O V d,O V c2,O V d2,J po pn pc,O V fr,aX up] 68) (n3_:b3≠b6) (n5_:b5≠b6) (n8_:b8≠b6) (hd:wB W (J o2 n2 k2) ad) (fk:fK (ad.map fun y=>(y.1,y.2.1)) (c,d)=ki) (ix:∀ w,(bH 28 (J o2 n2 k2) (O V (ki:Int))).run ah w=.ok (ay (X p)) w) (px:W.cell? ⟨p.block,p.off+3,Y⟩=X (O V iA)) (pl:p.block<W.heap.size) (pn_:p.block≠b6)
  (hQ:∀ (a:Act) (x:aH) (sl:Sl),a.defers=[]->a.tmps[6]?=X (ay (X ⟨b6,0,Y⟩))->a.tmps[7]?=X (dU sl)->dN x b6 #[O V me,J o1 n1 k1,J o2 n2 k2,J o3 n3 k3,J o4 n4 k4,J o5 n5 k5] 33->jB x W.heap.size (dU sl) [(iA,3,c,d,c2,d2,(po,pn,pc),(Y,0,0))]->(∀ k,k<W.heap.size->k≠b6->x.heap[k]?=W.heap[k]?)->(∀ B,B<=b6->Below B W x)->Q .normal a x) :
  Code.wp ah aaL Q ⟨(u0::u1::u2::ay (X ⟨b3,0,Y⟩)::u4::ay (X ⟨b5,0,Y⟩)::ay (X ⟨b6,0,Y⟩)::u7::ay (X ⟨b8,0,Y⟩)::u9::u10::u11::u12::u13::u14::u15::u16::u17::u18::u19::u20::u21::u22::u23::u24::u25::u26::u27::u28::u29::u30::u31::u32::u33::u34::u35::u36::u37::u38::u39::u40::[]).toArray,[]⟩ W:=by
 have HQ:=L hQ;have H3:=L h3;have H5:=L h5;have H6:=L h6;have H8:=L h8;have N3:=L n3_;have N5:=L n5_;have N8:=L n8_;have HD:=L hd;have FK:=L fk;have IX:=L ix;have PX:=L px;have PL:=L pl;have PN:=L pn_;clear hQ h3 h5 h6 h8 n3_ n5_ n8_ hd fk ix px pl pn_;unfold aaL
 conv=>arg 2; whnf
 have nd:∀ j,(∀ i,i<16->[X 27,X 28,X 29,X 30,X 31,X 32,X 33,X 34,X 35,X 36,X 37,X 38,X 39,X 40,Y,X 7].getD i Y≠X j)->∀ i,i<16->(fun i=>[X 27,X 28,X 29,X 30,X 31,X 32,X 33,X 34,X 35,X 36,X 37,X 38,X 39,X 40,Y,X 7].getD i Y) i≠X j:=fun j h=>h;refine Rg.yV 16 (fun i=>[X 27,X 28,X 29,X 30,X 31,X 32,X 33,X 34,X 35,X 36,X 37,X 38,X 39,X 40,Y,X 7].getD i Y) (fun _=>16) (oV W.heap.size (aZ #[O V me,J o1 n1 k1,J o2 n2 k2,J o3 n3 k3,J o4 n4 k4,J o5 n5 k5]) c d c2 d2 (J o2 n2 k2) ki p iA po pn pc fr up b3 b5) (oF W b6 #[O V me,J o1 n1 k1,J o2 n2 k2,J o3 n3 k3,J o4 n4 k4,J o5 n5 k5]) (by kernel_rfl) (by kernel_rfl) rfl (fun i j e hi hj h1 h2=>(by decide:∀ i,i<16->∀ j,j<16->([X 27,X 28,X 29,X 30,X 31,X 32,X 33,X 34,X 35,X 36,X 37,X 38,X 39,X 40,Y,X 7].getD i Y).isSome=aT->[X 27,X 28,X 29,X 30,X 31,X 32,X 33,X 34,X 35,X 36,X 37,X 38,X 39,X 40,Y,X 7].getD i Y=[X 27,X 28,X 29,X 30,X 31,X 32,X 33,X 34,X 35,X 36,X 37,X 38,X 39,X 40,Y,X 7].getD j Y->i=j) i hi j hj (by have h1:[X 27,X 28,X 29,X 30,X 31,X 32,X 33,X 34,X 35,X 36,X 37,X 38,X 39,X 40,Y,X 7].getD i Y=X e:=h1; rw [h1]; rfl) (h1.trans h2.symm)) (fun i e hi h=>(by decide:∀ i,i<16->∀ q∈[X 27,X 28,X 29,X 30,X 31,X 32,X 33,X 34,X 35,X 36,X 37,X 38,X 39,X 40,Y,X 7].getD i Y,q<41) i hi e h) ⟨fun _ _ _=>rfl,fun _ _=>(Z _ _).drew,fun _=>(Z _ _).drew,False.elim,aD _⟩ ?_ ?_
 ·intro i o hi ho a x D hnd hc hD hF seen K hK;clear HQ;have still:∀ i,i≠14->oF W b6 #[O V me,J o1 n1 k1,J o2 n2 k2,J o3 n3 k3,J o4 n4 k4,J o5 n5 k5] (fun j=>j=i\/D j) x:=fun i h9=>⟨hF.1,hF.2.1,fun h=>hF.2.2.1 fun h2=>h (aN h2),fun h=>hF.2.2.2.1 (h.resolve_left (Ne.symm h9)),hF.2.2.2.2⟩;rcases (by omega:i=0\/i=1\/i=2\/i=3\/i=4\/i=5\/i=6\/i=7\/i=8\/i=9\/i=10\/i=11\/i=12\/i=13\/i=14\/i=15) with rfl|rfl|rfl|rfl|rfl|rfl|rfl|rfl|rfl|rfl|rfl|rfl|rfl|rfl|rfl|rfl
  ·cases ho;have e3:a.eval (aA 3)=ay (X ⟨b3,0,Y⟩):=seen.kp 3 _ (nd 3 (by decide)) rfl;have Vi:=show dN x _ _ _ from (hF.1 _ H3.out.lt N3.out).trans H3.out;exact Rg.dD rfl rfl (Rg.dZ a.eval _ 33 (aA 3) rfl (by rw [e3]; exact vP Vi)) (hK _ _ rfl (still 0 (by decide)) fun _ _ _ _ _ _ _ h=>h)
  ·cases ho;have e3:a.eval (aA 3)=ay (X ⟨b3,0,Y⟩):=seen.kp 3 _ (nd 3 (by decide)) rfl;exact Rg.dD rfl rfl (Rg.dX a.eval _ 33 (aA 3) 2 rfl (by rw [e3]; simp [go_sem])) (hK _ _ rfl (still 1 (by decide)) fun _ _ _ _ _ _ _ h=>h)
  ·cases ho;have e28:a.eval (aA 28)=ay (X ⟨b3,2,Y⟩):=seen.at_ ⟨1,.data⟩ (by simp) rfl (aN (by decide)) _ rfl;have Vi:=show dN x _ _ _ from (hF.1 _ H3.out.lt N3.out).trans H3.out;have y:=Vi.cell 2;simp only [bg,aK,aY] at y;exact Rg.dD rfl rfl (Rg.dZ a.eval _ 28 (aA 28) rfl (by rw [e28]; simp [go_sem,y])) (hK _ _ rfl (still 2 (by decide)) fun _ _ _ _ _ _ _ h=>h)
  ·cases ho;have e3:a.eval (aA 3)=ay (X ⟨b3,0,Y⟩):=seen.kp 3 _ (nd 3 (by decide)) rfl;have Vi:=show dN x _ _ _ from (hF.1 _ H3.out.lt N3.out).trans H3.out;exact Rg.dD rfl rfl (Rg.dZ a.eval _ 33 (aA 3) rfl (by rw [e3]; exact vP Vi)) (hK _ _ rfl (still 3 (by decide)) fun _ _ _ _ _ _ _ h=>h)
  ·cases ho;have e5:a.eval (aA 5)=ay (X ⟨b5,0,Y⟩):=seen.kp 5 _ (nd 5 (by decide)) rfl;exact Rg.dD rfl rfl (Rg.dX a.eval _ 43 (aA 5) 1 rfl (by rw [e5]; simp [go_sem])) (hK _ _ rfl (still 4 (by decide)) fun _ _ _ _ _ _ _ h=>h)
  ·cases ho;have e31:a.eval (aA 31)=ay (X ⟨b5,1,Y⟩):=seen.at_ ⟨4,.data⟩ (by simp) rfl (aN (by decide)) _ rfl;have afC:=show dN x _ _ _ from (hF.1 _ H5.out.lt N5.out).trans H5.out;have y1:=afC.cell 1;have y2:=afC.cell 2;simp only [bg,aK,aY] at y1 y2;exact Rg.dD rfl rfl (Rg.dZ a.eval _ 38 (aA 31) rfl (by rw [e31]; simp [go_sem,y1,y2])) (hK _ _ rfl (still 5 (by decide)) fun _ _ _ _ _ _ _ h=>h)
  ·cases ho;have e30:a.eval (aA 30)=aZ #[O V me,J o1 n1 k1,J o2 n2 k2,J o3 n3 k3,J o4 n4 k4,J o5 n5 k5]:=seen.at_ ⟨3,.data⟩ (by simp) rfl (aN (by decide)) _ rfl;have e32:a.eval (aA 32)=mY (c,d):=seen.at_ ⟨5,.data⟩ (by simp) rfl (aN (by decide)) _ rfl;have nS:¬ D 14:=fun h=>hnd (hc 11 _ (hc 14 _ h rfl ⟨11,.chain⟩ (by simp) rfl) rfl ⟨6,.chain⟩ (by simp) rfl);have hb:=hF.2.2.1 nS;have n13:¬ D 13:=fun h=>hnd (hc 11 _ (hc 12 _ (hc 13 _ h rfl ⟨12,.data⟩ (by simp) rfl) rfl ⟨11,.data⟩ (by simp) rfl) rfl ⟨6,.chain⟩ (by simp) rfl);exact Rg.gH rfl rfl (pE a.eval _ (aA 30) (aA 32) 33 38 36 rfl e30 e32 rfl _ (fT Tryz.func36 rfl rfl _ _)) (uF me _ _ _ _ (o2,n2,k2) ad (c,d) x (HD.out.on hb)) fun e w1 h=>by
    obtain⟨rfl,h3⟩:=h;refine⟨_,rfl,hK _ _ (by rw [FK.out]; rfl) ⟨fun j hj hne=>(h3.block j (bA hj hb.size)).trans (hF.1 j hj hne),fun B hB=>(hF.2.1 B hB).trans (h3.mono (aG (aG hB (bJ H6.out.lt)) hb.size)),fun _=>hb.trans (h3.mono hb.size),fun h=>absurd (h.resolve_left (by decide)) nS,aG hb.size h3.size⟩ fun j u hj dj _ _ _ h=>?_⟩;rcases (by omega:j=0\/j=1\/j=2\/j=3\/j=4\/j=5\/j=6\/j=7\/j=8\/j=9\/j=10\/j=11\/j=12\/j=13\/j=14\/j=15) with rfl|rfl|rfl|rfl|rfl|rfl|rfl|rfl|rfl|rfl|rfl|rfl|rfl|rfl|rfl|rfl
    ·exact h
    ·exact h
    ·exact h
    ·exact h
    ·exact h
    ·exact h
    ·exact h
    ·exact h
    ·exact h
    ·exact h
    ·exact h
    ·exact h
    ·exact h
    ·exact absurd dj n13
    ·exact h
    ·exact absurd (hc 15 _ dj rfl ⟨13,.data⟩ (by simp) rfl) n13
  ·cases ho;have e29:a.eval (aA 29)=J o2 n2 k2:=seen.at_ ⟨2,.data⟩ (by simp) rfl (aN (by decide)) _ rfl;have e33:a.eval (aA 33)=O V (ki:Int):=seen.at_ ⟨6,.data⟩ (by simp) rfl (aN (by decide)) _ rfl;exact Rg.dD rfl rfl (Rg.pq a.eval _ 28 (aA 29) (aA 33) rfl (by rw [e29,e33]; exact IX.out x)) (hK _ _ rfl (still 7 (by decide)) fun _ _ _ _ _ _ _ h=>h)
  ·cases ho;have e34:a.eval (aA 34)=ay (X p):=seen.at_ ⟨7,.data⟩ (by simp) rfl (aN (by decide)) _ rfl;exact Rg.dD rfl rfl (Rg.dX a.eval _ 53 (aA 34) 2 rfl (by rw [e34]; simp [go_sem])) (hK _ _ rfl (still 8 (by decide)) fun _ _ _ _ _ _ _ h=>h)
  ·cases ho;have e35:a.eval (aA 35)=ay (X ⟨p.block,p.off+3,Y⟩):=seen.at_ ⟨8,.data⟩ (by simp) rfl (aN (by decide)) _ rfl;have y:x.cell? ⟨p.block,p.off+3,Y⟩=X (O V iA):=by
    have h:=PX.out;unfold World.cell? at h ⊢;rw [hF.1 _ PL.out PN.out];exact h
   exact Rg.dD rfl rfl (Rg.dZ a.eval _ 3 (aA 35) rfl (by rw [e35]; simp [go_sem,y])) (hK _ _ rfl (still 9 (by decide)) fun _ _ _ _ _ _ _ h=>h)
  ·cases ho;have e8:a.eval (aA 8)=ay (X ⟨b8,0,Y⟩):=seen.kp 8 _ (nd 8 (by decide)) rfl;have aiw:=show dN x _ _ _ from (hF.1 _ H8.out.lt N8.out).trans H8.out;obtain⟨y0,y1,y2,y3,y4,y5,y6⟩:=aiw.oI;exact Rg.dD rfl rfl (Rg.dZ a.eval _ 68 (aA 8) rfl (by rw [e8]; simp [go_sem,y0,y1,y2,y3,y4,y5,y6])) (hK _ _ rfl (still 10 (by decide)) fun _ _ _ _ _ _ _ h=>h)
  ·cases ho;have e37:a.eval (aA 37)=qg (c,d,c2,d2,(po,pn,pc),fr,up):=seen.at_ ⟨10,.data⟩ (by simp) rfl (aN (by decide)) _ rfl;have nS:¬ D 14:=fun h=>hnd (hc 14 _ h rfl ⟨11,.chain⟩ (by simp) rfl);have hb:=hF.2.2.1 nS;have n13:¬ D 13:=fun h=>hnd (hc 12 _ (hc 13 _ h rfl ⟨12,.data⟩ (by simp) rfl) rfl ⟨11,.data⟩ (by simp) rfl);exact Rg.gH rfl rfl (iG a.eval _ (aA 37) 68 58 rfl e37 rfl _ (fT Tryz.func58 rfl rfl _ _)) (zD (c,d,c2,d2,(po,pn,pc),fr,up) x) fun e w1 h=>by
    obtain⟨rfl,h3⟩:=h;refine⟨_,rfl,hK _ _ rfl ⟨fun j hj hne=>(h3.block j (bA hj hb.size)).trans (hF.1 j hj hne),fun B hB=>(hF.2.1 B hB).trans (h3.mono (aG (aG hB (bJ H6.out.lt)) hb.size)),fun _=>hb.trans (h3.mono hb.size),fun h=>absurd (h.resolve_left (by decide)) nS,aG hb.size h3.size⟩ fun j u hj dj _ _ _ h=>?_⟩;rcases (by omega:j=0\/j=1\/j=2\/j=3\/j=4\/j=5\/j=6\/j=7\/j=8\/j=9\/j=10\/j=11\/j=12\/j=13\/j=14\/j=15) with rfl|rfl|rfl|rfl|rfl|rfl|rfl|rfl|rfl|rfl|rfl|rfl|rfl|rfl|rfl|rfl
    ·exact h
    ·exact h
    ·exact h
    ·exact h
    ·exact h
    ·exact h
    ·exact h
    ·exact h
    ·exact h
    ·exact h
    ·exact h
    ·exact h
    ·exact h
    ·exact absurd dj n13
    ·exact h
    ·exact absurd (hc 15 _ dj rfl ⟨13,.data⟩ (by simp) rfl) n13
  ·cases ho;have e36:a.eval (aA 36)=O V iA:=seen.at_ ⟨9,.data⟩ (by simp) rfl (aN (by decide)) _ rfl;have e38:a.eval (aA 38)=aZ #[O V 3,O V c,O V d,O V c2,O V d2,J po pn pc,J Y 0 0]:=seen.at_ ⟨11,.data⟩ (by simp) rfl (aN (by decide)) _ rfl;exact Rg.dD rfl rfl (Rg.iW a.eval _ 58 #[(0,aA 36),(1,aA 38)] rfl (ps:=#[(0,O V iA),(1,aZ #[O V 3,O V c,O V d,O V c2,O V d2,J po pn pc,J Y 0 0])]) (by simp only [bM,bI,bW,e36,e38]) (by simp [go_sem])) (hK _ _ rfl (still 12 (by decide)) fun _ _ _ _ _ _ _ h=>h)
  ·cases ho;have e39:a.eval (aA 39)=Ag (iA,3,c,d,c2,d2,(po,pn,pc),(Y,0,0)):=seen.at_ ⟨12,.data⟩ (by simp) rfl (aN (by decide)) _ rfl;have n15:¬ D 15:=fun h=>hnd (hc 15 _ h rfl ⟨13,.data⟩ (by simp) rfl);have hl:=iD Il x [((iA,3,c,d,c2,d2,(po,pn,pc),(Y,0,0)):qd)] 1 rfl (by simp) (kG (iA,3,c,d,c2,d2,(po,pn,pc),(Y,0,0))).toArray (by simp [flat,EU]);have nb:=fI x (aB (kG (iA,3,c,d,c2,d2,(po,pn,pc),(Y,0,0))).toArray 58);have sz:=hF.2.2.2.2;have ff:oF W b6 #[O V me,J o1 n1 k1,J o2 n2 k2,J o3 n3 k3,J o4 n4 k4,J o5 n5 k5] (fun j=>j=13\/D j) (x.alloc (aB (kG (iA,3,c,d,c2,d2,(po,pn,pc),(Y,0,0))).toArray 58)):=⟨fun j hj hne=>(nb.block j (bA hj sz)).trans (hF.1 j hj hne),fun B hB=>(hF.2.1 B hB).trans (nb.mono (aG (aG hB (bJ H6.out.lt)) sz)),fun h=>(hF.2.2.1 fun q=>h (aN q)).trans (nb.mono sz),fun h=>(hF.2.2.2.1 (h.resolve_left (by decide))).on nb,aG sz nb.size⟩;have st:∀ j u,j<16->D j->j≠13->oV W.heap.size (aZ #[O V me,J o1 n1 k1,J o2 n2 k2,J o3 n3 k3,J o4 n4 k4,J o5 n5 k5]) c d c2 d2 (J o2 n2 k2) ki p iA po pn pc fr up b3 b5 j u x->oV W.heap.size (aZ #[O V me,J o1 n1 k1,J o2 n2 k2,J o3 n3 k3,J o4 n4 k4,J o5 n5 k5]) c d c2 d2 (J o2 n2 k2) ki p iA po pn pc fr up b3 b5 j u (x.alloc (aB (kG (iA,3,c,d,c2,d2,(po,pn,pc),(Y,0,0))).toArray 58)):=fun j u hj dj ni h=>by
    rcases (by omega:j=0\/j=1\/j=2\/j=3\/j=4\/j=5\/j=6\/j=7\/j=8\/j=9\/j=10\/j=11\/j=12\/j=13\/j=14\/j=15) with rfl|rfl|rfl|rfl|rfl|rfl|rfl|rfl|rfl|rfl|rfl|rfl|rfl|rfl|rfl|rfl
    ·exact h
    ·exact h
    ·exact h
    ·exact h
    ·exact h
    ·exact h
    ·exact h
    ·exact h
    ·exact h
    ·exact h
    ·exact h
    ·exact h
    ·exact h
    ·exact absurd rfl ni
    ·exact h
    ·exact absurd dj n15
   have q:=hK (J (X ⟨x.heap.size,0,Y⟩) 1 1) (x.alloc (aB (kG (iA,3,c,d,c2,d2,(po,pn,pc),(Y,0,0))).toArray 58)) (dJ hl sz) ff fun j u hj dj _ _ ni h=>st j u hj dj ni h;exact Rg.dD rfl rfl (Rg.iQ a.eval _ 44 1 #[(0,aA 39)] rfl (ps:=#[(0,Ag (iA,3,c,d,c2,d2,(po,pn,pc),(Y,0,0)))]) (by simp [e39]) (by simp [go_sem])) q
  ·cases ho;have e27:a.eval (aA 27)=aZ #[O V me,J o1 n1 k1,J o2 n2 k2,J o3 n3 k3,J o4 n4 k4,J o5 n5 k5]:=seen.at_ ⟨0,.data⟩ (by simp) rfl (aN (by decide)) _ rfl;have e6:a.eval (aA 6)=ay (X ⟨b6,0,Y⟩):=seen.kp 6 _ (nd 6 (by decide)) rfl;have hb:=hF.2.2.1 hnd;have H6x:=H6.out.on hb;have s4:=dL x b6 (O V me) (J o1 n1 k1) (J o2 n2 k2) (J o3 n3 k3) (J o4 n4 k4) (J o5 n5 k5);have hx:=dM H6x (O V me) (J o1 n1 k1) (J o2 n2 k2) (J o3 n3 k3) (J o4 n4 k4) (J o5 n5 k5);have hs:=sK H6x me o1 o2 o3 o4 o5 n1 k1 n2 k2 n3 k3 n4 k4 n5 k5;have hy:∀ B,B<=b6->Below B W (gY x b6 (O V me) (J o1 n1 k1) (J o2 n2 k2) (J o3 n3 k3) (J o4 n4 k4) (J o5 n5 k5)):=fun B hB=>dI (hF.2.1 B hB) hB _ _ _ _ _ _;have so:∀ v l,jB x W.heap.size v l->jB (gY x b6 (O V me) (J o1 n1 k1) (J o2 n2 k2) (J o3 n3 k3) (J o4 n4 k4) (J o5 n5 k5)) W.heap.size v l:=fun v l h=>fC h b6 H6.out.lt _ _ _ _ _ _;have sz:x.heap.size<=(gY x b6 (O V me) (J o1 n1 k1) (J o2 n2 k2) (J o3 n3 k3) (J o4 n4 k4) (J o5 n5 k5)).heap.size:=by simp [gY]
   generalize gY x b6 (O V me) (J o1 n1 k1) (J o2 n2 k2) (J o3 n3 k3) (J o4 n4 k4) (J o5 n5 k5)=x2 at *;have n15:¬ D 15:=fun h=>hnd (hc 15 _ h rfl ⟨14,.chain⟩ (by simp) rfl);have ff:oF W b6 #[O V me,J o1 n1 k1,J o2 n2 k2,J o3 n3 k3,J o4 n4 k4,J o5 n5 k5] (fun j=>j=14\/D j) x2:=⟨fun j hj hne=>(s4 j hne).trans (hF.1 j hj hne),hy,fun h=>absurd (Or.inl rfl) h,fun _=>hx,aG hF.2.2.2.2 sz⟩;have st:∀ j u,j<16->D j->oV W.heap.size (aZ #[O V me,J o1 n1 k1,J o2 n2 k2,J o3 n3 k3,J o4 n4 k4,J o5 n5 k5]) c d c2 d2 (J o2 n2 k2) ki p iA po pn pc fr up b3 b5 j u x->oV W.heap.size (aZ #[O V me,J o1 n1 k1,J o2 n2 k2,J o3 n3 k3,J o4 n4 k4,J o5 n5 k5]) c d c2 d2 (J o2 n2 k2) ki p iA po pn pc fr up b3 b5 j u x2:=fun j u hj dj h=>by
    rcases (by omega:j=0\/j=1\/j=2\/j=3\/j=4\/j=5\/j=6\/j=7\/j=8\/j=9\/j=10\/j=11\/j=12\/j=13\/j=14\/j=15) with rfl|rfl|rfl|rfl|rfl|rfl|rfl|rfl|rfl|rfl|rfl|rfl|rfl|rfl|rfl|rfl
    ·exact h
    ·exact h
    ·exact h
    ·exact h
    ·exact h
    ·exact h
    ·exact h
    ·exact h
    ·exact h
    ·exact h
    ·exact h
    ·exact h
    ·exact h
    ·exact so _ _ h
    ·exact h
    ·exact absurd dj n15
   have q:=hK (aX aT) x2 trivial ff fun j u hj dj _ _ _ h=>st j u hj dj h;have q2:K a x2:=q;exact Rg.fP 33 (aA 6) (aA 27) rfl rfl rfl rfl e6 e27 hs q2
  ·cases ho;have o40:jB x W.heap.size (a.eval (aA 40)) [(iA,3,c,d,c2,d2,(po,pn,pc),(Y,0,0))]:=seen.at_ ⟨13,.data⟩ (by simp) rfl (aN (by decide)) _ rfl;exact Rg.dD rfl rfl (Rg.jM a.eval _ (aA 40) rfl x) (hK _ _ o40 (still 15 (by decide)) fun _ _ _ _ _ _ _ h=>h)
 ·intro a x df sz kp ⟨vs,hv⟩ ⟨D,hall,hF⟩;have h2:jB x W.heap.size (vs 15) [(iA,3,c,d,c2,d2,(po,pn,pc),(Y,0,0))]:=(hv 15 (by omega)).2 (by decide);have g9:a.tmps[7]?=X (vs 15):=(hv 15 (by omega)).1 7 rfl;obtain⟨sa,sc,hs⟩:=(aV h2).len;rw [hs] at h2 g9;exact HQ.out a x (sa,_,sc) df ((kp 6 (nd 6 (by decide))).trans rfl) g9 (hF.2.2.2.1 (hall 14 (by omega))) h2 hF.1 hF.2.1
end Bk
namespace Rl
open Go.RowKit Go.Sort Pu Rw Pr Va
theorem rP {n:ByteArray} {r:Option Kd} {b:Bool} {k:Kd} {w w':aH} {e:Ending} (hr:r=if b=aT then X k else Y) (he:e=aO (.tuple #[cv (r5 (n,k)),aX b])) (h:Below w.heap.size w w'):Nf n r w e w':=by
 subst hr he;exact adl b k h
theorem afD {s t:ByteArray} (h:t.size<=s.size):fE (.pr s) (.pr t)=if pfx t s=aT then X (.pr s) else Y:=by
 simp only [fE];by_cases h1:pfx s t=aT
 ·rw [if_pos h1];have e1:=(fU _ _).1 h1;have e2:s=t:=tN (e1.eq_of_length_le (by rw [aS,aS]; exact h));subst e2;rw [if_pos (pI s)]
 ·rw [if_neg h1]
theorem afE {s t:ByteArray} (h:¬ t.size<=s.size):fE (.pr s) (.pr t)=if pfx s t=aT then X (.pr t) else Y:=by
 simp only [fE];by_cases h1:pfx s t=aT
 ·rw [if_pos h1,if_pos h1]
 ·have h2:¬ pfx t s=aT:=fun h2=>by
   have:=((fU _ _).1 h2).length_le;rw [aS,aS] at this;exact h this
  rw [if_neg h1,if_neg h1,if_neg h2]
theorem Vj (n:ByteArray) (s t:ByteArray) (w:aH):bF ah 109 #[cv (r5 (n,(.tx s))),cv (r5 (n,(.tx t)))] w (Nf n (fE (.tx s) (.tx t)) w):=by
 obtain⟨ba,bb,bz,hb⟩:=I4 w (r5 (n,(.tx s))) (r5 (n,(.tx t))) (⟨#[]⟩,0,0,0,⟨#[]⟩);have B:=L hb;have BA:=L ba;have BB:=L bb;have BZ:=L bz;obtain⟨q,hq⟩:∃ q,eG (.tx t) (aT,0,s)=q:=⟨_,rfl⟩;have HR:=L (show fE (.tx s) (.tx t)=if q=aT then X (.tx s) else Y by rw [<- hq]; rw [nL]; simp only [fE,beq_iff_eq]);have HC:=L (fun W=>vN (n,.tx t) aT 0 s W);simp only [hq] at HC;generalize fE (.tx s) (.tx t)=r at *;clear ba bb bz hb hq;simp only [r5,kN,jN,jO,kT] at *;go_enter bf,aU;go_wp2_with fail
 go_region_with (go_at_call 67; refine (HC.out _).mono ?_; rintro e w3 ⟨rfl,hb3⟩; have ZB:=L (BZ.out.drew.on hb3); have AB:=L (BA.out.drew.on hb3); have DB:=L (BB.out.drew.on hb3); obtain⟨z0,z1,z2,z3,z4⟩:=eZ ZB.out; obtain⟨a0,a1,a2,a3,a4⟩:=eZ AB.out; obtain⟨d0,d1,d2,d3,d4⟩:=eZ DB.out; have fz:=fun k=>ZB.out.fr k; simp only at z0 z1 z2 z3 z4 a0 a1 a2 a3 a4 d0 d1 d2 d3 d4)
 all_goals try simp only [Exit.then]
 all_goals try apply_assumption
 all_goals try go_wp2
 all_goals refine aI (v:=.tuple #[cv (r5 (n,(.tx s))),aX q]) (by simp [results,aP,go_sem,z0,z1,z2,z3,z4,r5,kN,jN,jO,kT]) rfl ?_
 all_goals exact rP HR.out rfl (iO (B.out.drew.trans (hb3.mono B.out.drew.size)) (w.heap.size+1+1) (by omega) _ _ _ _ _)
theorem Vk (n:ByteArray) (s t:ByteArray) (w:aH):bF ah 109 #[cv (r5 (n,(.tx s))),cv (r5 (n,(.pr t)))] w (Nf n (fE (.tx s) (.pr t)) w):=by
 obtain⟨ba,bb,bz,hb⟩:=I4 w (r5 (n,(.tx s))) (r5 (n,(.pr t))) (⟨#[]⟩,0,0,0,⟨#[]⟩);have B:=L hb;have BA:=L ba;have BB:=L bb;have BZ:=L bz;obtain⟨q,hq⟩:∃ q,eG (.pr t) (aT,0,s)=q:=⟨_,rfl⟩;have HR:=L (show fE (.tx s) (.pr t)=if q=aT then X (.tx s) else Y by rw [<- hq]; rw [lT]; rfl);have HC:=L (fun W=>vN (n,.pr t) aT 0 s W);simp only [hq] at HC;generalize fE (.tx s) (.pr t)=r at *;clear ba bb bz hb hq;simp only [r5,kN,jN,jO,kT] at *;go_enter bf,aU;go_wp2_with fail
 go_region_with (go_at_call 67; refine (HC.out _).mono ?_; rintro e w3 ⟨rfl,hb3⟩; have ZB:=L (BZ.out.drew.on hb3); have AB:=L (BA.out.drew.on hb3); have DB:=L (BB.out.drew.on hb3); obtain⟨z0,z1,z2,z3,z4⟩:=eZ ZB.out; obtain⟨a0,a1,a2,a3,a4⟩:=eZ AB.out; obtain⟨d0,d1,d2,d3,d4⟩:=eZ DB.out; have fz:=fun k=>ZB.out.fr k; simp only at z0 z1 z2 z3 z4 a0 a1 a2 a3 a4 d0 d1 d2 d3 d4)
 all_goals try simp only [Exit.then]
 all_goals try apply_assumption
 all_goals try go_wp2
 all_goals refine aI (v:=.tuple #[cv (r5 (n,(.tx s))),aX q]) (by simp [results,aP,go_sem,z0,z1,z2,z3,z4,r5,kN,jN,jO,kT]) rfl ?_
 all_goals exact rP HR.out rfl (iO (B.out.drew.trans (hb3.mono B.out.drew.size)) (w.heap.size+1+1) (by omega) _ _ _ _ _)
theorem Vl (n:ByteArray) (s t:ByteArray) (w:aH):bF ah 109 #[cv (r5 (n,(.pr s))),cv (r5 (n,(.tx t)))] w (Nf n (fE (.pr s) (.tx t)) w):=by
 obtain⟨ba,bb,bz,hb⟩:=I4 w (r5 (n,(.pr s))) (r5 (n,(.tx t))) (⟨#[]⟩,0,0,0,⟨#[]⟩);have B:=L hb;have BA:=L ba;have BB:=L bb;have BZ:=L bz;obtain⟨q,hq⟩:∃ q,eG (.pr s) (aT,0,t)=q:=⟨_,rfl⟩;have HR:=L (show fE (.pr s) (.tx t)=if q=aT then X (.tx t) else Y by rw [<- hq]; rw [lT]; rfl);have HC:=L (fun W=>vN (n,.pr s) aT 0 t W);simp only [hq] at HC;generalize fE (.pr s) (.tx t)=r at *;clear ba bb bz hb hq;simp only [r5,kN,jN,jO,kT] at *;go_enter bf,aU;go_wp2_with fail
 go_region_with (go_at_call 67; refine (HC.out _).mono ?_; rintro e w3 ⟨rfl,hb3⟩; have ZB:=L (BZ.out.drew.on hb3); have AB:=L (BA.out.drew.on hb3); have DB:=L (BB.out.drew.on hb3); obtain⟨z0,z1,z2,z3,z4⟩:=eZ ZB.out; obtain⟨a0,a1,a2,a3,a4⟩:=eZ AB.out; obtain⟨d0,d1,d2,d3,d4⟩:=eZ DB.out; have fz:=fun k=>ZB.out.fr k; simp only at z0 z1 z2 z3 z4 a0 a1 a2 a3 a4 d0 d1 d2 d3 d4)
 all_goals try simp only [Exit.then]
 all_goals try apply_assumption
 all_goals try go_wp2
 all_goals refine aI (v:=.tuple #[cv (r5 (n,(.tx t))),aX q]) (by simp [results,aP,go_sem,z0,z1,z2,z3,z4,r5,kN,jN,jO,kT]) rfl ?_
 all_goals exact rP HR.out rfl (iO (B.out.drew.trans (hb3.mono B.out.drew.size)) (w.heap.size+1+1) (by omega) _ _ _ _ _)
theorem Vm (n:ByteArray) (s t:ByteArray) (w:aH) (h:t.size<=s.size):bF ah 109 #[cv (r5 (n,(.pr s))),cv (r5 (n,(.pr t)))] w (Nf n (fE (.pr s) (.pr t)) w):=by
 obtain⟨ba,bb,bz,hb⟩:=I4 w (r5 (n,(.pr s))) (r5 (n,(.pr t))) (⟨#[]⟩,0,0,0,⟨#[]⟩);have B:=L hb;have BA:=L ba;have BB:=L bb;have BZ:=L bz;obtain⟨q,hq⟩:∃ q,pfx t s=q:=⟨_,rfl⟩;have HR:=L (show fE (.pr s) (.pr t)=if q=aT then X (.pr s) else Y by rw [<- hq]; exact afD h);have HC:=L (fun W=>(pQ s t W).mono (fun e w' (h:e=aO (aX (pfx t s))/\w'=W)=>(show e=aO (aX (pfx t s))/\Below W.heap.size W w' from ⟨h.1,h.2 ▸ Z _ _⟩)));simp only [hq] at HC;have e1:decide ((t.size:Int)<=(s.size:Int))=aT:=by simp; omega
 have e2:(t.size:Int)<=(s.size:Int):=by omega
 generalize fE (.pr s) (.pr t)=r at *;clear ba bb bz hb hq;simp only [r5,kN,jN,jO,kT] at *;go_enter bf,aU;go_wp2_with fail
 go_region_with (go_at_call 96; refine (HC.out _).mono ?_; rintro e w3 ⟨rfl,hb3⟩; have ZB:=L (BZ.out.drew.on hb3); have AB:=L (BA.out.drew.on hb3); have DB:=L (BB.out.drew.on hb3); obtain⟨z0,z1,z2,z3,z4⟩:=eZ ZB.out; obtain⟨a0,a1,a2,a3,a4⟩:=eZ AB.out; obtain⟨d0,d1,d2,d3,d4⟩:=eZ DB.out; have fz:=fun k=>ZB.out.fr k; simp only at z0 z1 z2 z3 z4 a0 a1 a2 a3 a4 d0 d1 d2 d3 d4)
 all_goals try simp only [Exit.then]
 all_goals try apply_assumption
 all_goals try go_wp2
 all_goals refine aI (v:=.tuple #[cv (r5 (n,(.pr s))),aX q]) (by simp [results,aP,go_sem,z0,z1,z2,z3,z4,r5,kN,jN,jO,kT]) rfl ?_
 all_goals exact rP HR.out rfl (iO (B.out.drew.trans (hb3.mono B.out.drew.size)) (w.heap.size+1+1) (by omega) _ _ _ _ _)
theorem Vn (n:ByteArray) (s t:ByteArray) (w:aH) (h:¬ t.size<=s.size):bF ah 109 #[cv (r5 (n,(.pr s))),cv (r5 (n,(.pr t)))] w (Nf n (fE (.pr s) (.pr t)) w):=by
 obtain⟨ba,bb,bz,hb⟩:=I4 w (r5 (n,(.pr s))) (r5 (n,(.pr t))) (⟨#[]⟩,0,0,0,⟨#[]⟩);have B:=L hb;have BA:=L ba;have BB:=L bb;have BZ:=L bz;obtain⟨q,hq⟩:∃ q,pfx s t=q:=⟨_,rfl⟩;have HR:=L (show fE (.pr s) (.pr t)=if q=aT then X (.pr t) else Y by rw [<- hq]; exact afE h);have HC:=L (fun W=>(pQ t s W).mono (fun e w' (h:e=aO (aX (pfx s t))/\w'=W)=>(show e=aO (aX (pfx s t))/\Below W.heap.size W w' from ⟨h.1,h.2 ▸ Z _ _⟩)));simp only [hq] at HC;have e1:decide ((t.size:Int)<=(s.size:Int))=aJ:=by simp; omega
 have e2:¬ ((t.size:Int)<=(s.size:Int)):=by omega
 generalize fE (.pr s) (.pr t)=r at *;clear ba bb bz hb hq;simp only [r5,kN,jN,jO,kT] at *;go_enter bf,aU;go_wp2_with fail
 go_region_with (go_at_call 96; refine (HC.out _).mono ?_; rintro e w3 ⟨rfl,hb3⟩; have ZB:=L (BZ.out.drew.on hb3); have AB:=L (BA.out.drew.on hb3); have DB:=L (BB.out.drew.on hb3); obtain⟨z0,z1,z2,z3,z4⟩:=eZ ZB.out; obtain⟨a0,a1,a2,a3,a4⟩:=eZ AB.out; obtain⟨d0,d1,d2,d3,d4⟩:=eZ DB.out; have fz:=fun k=>ZB.out.fr k; simp only at z0 z1 z2 z3 z4 a0 a1 a2 a3 a4 d0 d1 d2 d3 d4)
 all_goals try simp only [Exit.then]
 all_goals try apply_assumption
 all_goals try go_wp2
 all_goals refine aI (v:=.tuple #[cv (r5 (n,(.pr t))),aX q]) (by simp [results,aP,go_sem,z0,z1,z2,z3,z4,r5,kN,jN,jO,kT]) rfl ?_
 all_goals exact rP HR.out rfl (iO (B.out.drew.trans (hb3.mono B.out.drew.size)) (w.heap.size+1+1) (by omega) _ _ _ _ _)
theorem Vo (n:ByteArray) (a b c d:Int) (w:aH):bF ah 109 #[cv (r5 (n,(.rg a b))),cv (r5 (n,(.rg c d)))] w (Nf n (fE (.rg a b) (.rg c d)) w):=by
 have R:=L (show fE (.rg a b) (.rg c d)=if max a c<=min b d then X (.rg (max a c) (min b d)) else Y from rfl);have B:=L (I4 w (r5 (n,(.rg a b))) (r5 (n,(.rg c d))) (⟨#[]⟩,0,0,0,⟨#[]⟩)).2.2.2;generalize fE (.rg a b) (.rg c d)=r at *;simp only [r5,kN,jN,jO,kT] at *;go_enter bf,aU;go_wp2_with fail
 go_region
 all_goals simp only [Exit.then]
 all_goals apply_assumption
 have e1:(if a<c then c else a)=max a c:=by split <;> omega
 have e2:(if d<b then d else b)=min b d:=by split <;> omega
 try rw [e1]
 try rw [e2]
 clear e1 e2;generalize max a c=M at R ⊢;generalize min b d=N at R ⊢;have HR:=L (show r=if decide (M<=N)=aT then X (.rg M N) else Y by rw [R.out]; simp);clear R;go_wp2_with fail
 go_region
 all_goals try simp only [Exit.then]
 all_goals try apply_assumption
 all_goals try go_wp2
 all_goals refine aI (v:=.tuple #[cv (r5 (n,(.rg M N))),aX (decide (M<=N))]) (by simp [results,aP,go_sem,r5,kN,jN,jO,kT]) rfl ?_
 all_goals refine rP HR.out rfl ?_
 all_goals first
  | exact (b3 w _ _ _).drew.drew
  | exact (b3 w _ _ _).drew
  | exact (b3 w _ _ _)
theorem QI (n:ByteArray) (a b:Kd) (w:aH):bF ah 109 #[cv (r5 (n,a)),cv (r5 (n,b))] w (Nf n (fE a b) w):=by
 cases a with
 | rg p q=>cases b with
  | rg r s=>exact Vo n p q r s w
  | tx t=>exact TM n p q t w
  | pr t=>exact TP n p q t w
 | tx s=>cases b with
  | rg r q=>exact TQ n s r q w
  | tx t=>exact Vj n s t w
  | pr t=>exact Vk n s t w
 | pr s=>cases b with
  | rg r q=>exact TR n s r q w
  | tx t=>exact Vl n s t w
  | pr t =>
   by_cases h:t.size<=s.size
   ·exact Vm n s t w h
   ·exact Vn n s t w h
theorem cnt_lt:∀ (m:List Cn) (n:ByteArray) (k:Nat) (y:Cn),k<ng m n->m[k]?=X y->Op.bytesLess y.1.toList n.toList=aT
 | [],n,k,y,_,h=>by simp at h
 | x::r,n,0,y,hk,h=>by
  simp only [aK,Option.some.injEq] at h;subst h;simp only [ng] at hk
  split at hk
  ·rename_i h; exact h
  ·omega
 | x::r,n,k+1,y,hk,h=>by
  simp only [ng] at hk
  split at hk
  ·exact cnt_lt r n k y (by omega) (by simpa using h)
  ·omega
theorem Vp:∀ (m:List Cn) (n:ByteArray) (y:Cn),m[ng m n]?=X y->Op.bytesLess y.1.toList n.toList=aJ
 | [],n,y,h=>by simp at h
 | x::r,n,y,h=>by
  simp only [ng] at h
  split at h
  ·exact Vp r n y (by simpa using h)
  ·rename_i hn
   simp only [aK,Option.some.injEq] at h;subst h;exact Bool.eq_false_iff.2 hn
theorem Vq {m:List Cn} {n:ByteArray} {y:Cn} (h:m[ng m n]?=X y):qM m n=decide (y.1=n):=by
 unfold qM;rw [h]
theorem QJ {m:List Cn} {n:ByteArray} (h:m.length<=ng m n):qM m n=aJ:=by
 unfold qM;rw [List.getElem?_eq_none h]
theorem LK (m r:List Cn) (c:Cn):jK m (c::r)=match sH m c with
  | none=>Y
  | some n=>jK n r:=rfl
theorem Jj {W U:aH} {v1 xv hi:aQ} {a b:List C5} {c:C5} (h1:jP U W.heap.size v1 a) (hx:gu U xv [c]) (hh:gu W hi b) (la:a.length<=100) (lb:b.length<=100) (hb:Below W.heap.size W U) :
  ∃ v2 w2 v3 w3,(aj #[41,41] 41 #[v1,xv]).run ah U=.ok v2 w2/\(aj #[41,41] 41 #[v2,hi]).run ah w2=.ok v3 w3/\jP w3 W.heap.size v3 (a++c::b)/\Below W.heap.size W w3:=by
 obtain⟨v2,w2,r2,o2,g2⟩:=Km W.heap.size h1 hx (by omega) (by simp) hb.size;have b2:=hb.grown g2 hb.size (fun j hj=>(h1.lt j hj).1);obtain⟨v3,w3,r3,o3,g3⟩:=Km W.heap.size o2 (hh.on b2) (by simp; omega) (by omega) b2.size;have b3:=b2.grown g3 b2.size (fun j hj=>(o2.lt j hj).1);exact⟨v2,w2,v3,w3,r2,r3,by simpa using o3,b3⟩
theorem Vr {U w:aH} {cb:Nat} {c:C5} {row:Option Nat} (hx:gu U (J (X ⟨cb,0,Y⟩) 1 1) [c]) (hg:U.grownBy w row) (hne:row≠X cb):gu w (J (X ⟨cb,0,Y⟩) 1 1) [c]:=by
 rcases hx with⟨h,_⟩|⟨a,cap,h1,h2,h3,h4⟩
 ·cases h
 ·obtain⟨rfl,rfl⟩:(⟨cb,0,Y⟩:bZ)=a/\1=cap:=by simpa using h1
  exact aN ⟨_,1,rfl,h2,h3,fun j u hj=>hg.cell (h4 j u hj) (by rw [lS]; exact fun e=>hne e.symm)⟩
theorem adN {W:aH} {lo hi:aQ} {a b:List C5} (c:C5) (hl:gu W lo a) (hh:gu W hi b) (la:a.length<=100) (lb:b.length<=100) :
  ∃ v1 w1 v2 w2 v3 w3,(aj #[41,41] 41 #[J (X ⟨W.heap.size,0,Y⟩) 0 0,lo]).run ah (W.alloc (aB #[] 106))=.ok v1 w1 /\
   (aj #[41,41] 41 #[v1,J (X ⟨w1.heap.size,0,Y⟩) 1 1]).run ah (w1.alloc (aB #[aF c.1,O V c.2.1,O V c.2.2.1,O V c.2.2.2.1,aF c.2.2.2.2] 106))=.ok v2 w2 /\
   (aj #[41,41] 41 #[v2,hi]).run ah w2=.ok v3 w3/\Below W.heap.size W w1/\jP w3 W.heap.size v3 (a++c::b)/\Below W.heap.size W w3:=by
 have b0:=(Z W.heap.size W).alloc (aD _) (aB #[] 106);obtain⟨v1,w1,r1,o1,g1⟩:=Km W.heap.size (pJ W) (hl.on b0) (by simp) (by omega) (by simp);have b1:=b0.grown g1 b0.size (fun j hj=>((pJ W).lt j hj).1);have o1':=dG o1 ((Z _ _).alloc (aD _) (aB #[aF c.1,O V c.2.1,O V c.2.2.1,O V c.2.2.2.1,aF c.2.2.2.2] 106));obtain⟨v2,w2,v3,w3,r2,r3,o3,b3⟩:=Jj (a:=a) (by simpa using o1') (wF w1 c) hh la lb (b1.alloc b1.size _);exact⟨v1,w1,v2,w2,v3,w3,r1,r2,r3,b1,o3,b3⟩
theorem Vs {W U:aH} {g cb:Nat} {lo hi:aQ} {a b:List C5} {c:C5} (h0:jP U W.heap.size (J (X ⟨g,0,Y⟩) 0 0) []) (hx:gu U (J (X ⟨cb,0,Y⟩) 1 1) [c]) (hne:g≠cb) (hU:Below W.heap.size W U) (hl:gu W lo a) (hh:gu W hi b) (la:a.length<=100) (lb:b.length<=100) :
  ∃ v1 w1 v2 w2 v3 w3,(aj #[41,41] 41 #[J (X ⟨g,0,Y⟩) 0 0,lo]).run ah U=.ok v1 w1 /\
   (aj #[41,41] 41 #[v1,J (X ⟨cb,0,Y⟩) 1 1]).run ah w1=.ok v2 w2 /\
   (aj #[41,41] 41 #[v2,hi]).run ah w2=.ok v3 w3/\jP w3 W.heap.size v3 (a++c::b)/\Below W.heap.size W w3:=by
 obtain⟨v1,w1,r1,o1,g1⟩:=Km W.heap.size h0 (hl.on hU) (by simp) (by omega) hU.size;have b1:=hU.grown g1 hU.size (fun j hj=>(h0.lt j hj).1);obtain⟨v2,w2,v3,w3,r2,r3,o3,b3⟩:=Jj (a:=a) (by simpa using o1) (Vr hx g1 (by simp [Value.ownBlock,hne])) hh la lb b1;exact⟨v1,w1,v2,w2,v3,w3,r1,r2,r3,o3,b3⟩
theorem NV {U:aH} {lo hi:aQ} {a b:List C5} (c:C5) (hl:gu U lo a) (hh:gu U hi b) (la:a.length<=100) (lb:b.length<=100) :
  ∃ v1 w1 v2 w2 v3 w3,(aj #[41,41] 41 #[J (X ⟨U.heap.size,0,Y⟩) 0 0,lo]).run ah (U.drew.alloc (aB #[] 106))=.ok v1 w1 /\
   (aj #[41,41] 41 #[v1,J (X ⟨w1.heap.size,0,Y⟩) 1 1]).run ah (w1.alloc (aB #[aF c.1,O V c.2.1,O V c.2.2.1,O V c.2.2.2.1,aF c.2.2.2.2] 106))=.ok v2 w2 /\
   (aj #[41,41] 41 #[v2,hi]).run ah w2=.ok v3 w3/\Below U.heap.size U w1/\jP w3 U.heap.size v3 (a++c::b)/\Below U.heap.size U w3:=by
 obtain⟨v1,w1,v2,w2,v3,w3,r1,r2,r3,b1,o3,b3⟩:=adN (W:=U.drew) c (hl.on (Z _ _).drew) (hh.on (Z _ _).drew) la lb;exact⟨v1,w1,v2,w2,v3,w3,r1,r2,r3,(Z _ _).drew.trans b1,o3,(Z _ _).drew.trans b3⟩
theorem NW {U:aH} {lo hi:aQ} {a b:List C5} (c:C5) (hl:gu U lo a) (hh:gu U hi b) (la:a.length<=100) (lb:b.length<=100) :
  ∃ v1 w1 v2 w2 v3 w3,(aj #[41,41] 41 #[J (X ⟨U.heap.size+1,0,Y⟩) 0 0,lo]).run ah ((U.drew.alloc (aB #[aF c.1,O V c.2.1,O V c.2.2.1,O V c.2.2.2.1,aF c.2.2.2.2] 106)).alloc (aB #[] 106))=.ok v1 w1 /\
   (aj #[41,41] 41 #[v1,J (X ⟨U.heap.size,0,Y⟩) 1 1]).run ah w1=.ok v2 w2 /\
   (aj #[41,41] 41 #[v2,hi]).run ah w2=.ok v3 w3/\jP w3 U.heap.size v3 (a++c::b)/\Below U.heap.size U w3:=by
 have h0:jP ((U.drew.alloc (aB #[aF c.1,O V c.2.1,O V c.2.2.1,O V c.2.2.2.1,aF c.2.2.2.2] 106)).alloc (aB #[] 106)) U.drew.heap.size (J (X ⟨U.heap.size+1,0,Y⟩) 0 0) []:=by
  have h:=nP (B':=U.drew.heap.size) (by simp) (pJ (U.drew.alloc (aB #[aF c.1,O V c.2.1,O V c.2.2.1,O V c.2.2.2.1,aF c.2.2.2.2] 106)))
  rwa [show (U.drew.alloc (aB #[aF c.1,O V c.2.1,O V c.2.2.1,O V c.2.2.2.1,aF c.2.2.2.2] 106)).heap.size=U.heap.size+1 by simp] at h
 obtain⟨v1,w1,v2,w2,v3,w3,r1,r2,r3,o3,b3⟩:=Vs (W:=U.drew) (cb:=U.heap.size) h0 ((wF U.drew c).on ((Z _ _).alloc (aD _) _)) (by omega) (((Z _ _).alloc (aD _) _).alloc (by simp) _) (hl.on (Z _ _).drew) (hh.on (Z _ _).drew) la lb;exact⟨v1,w1,v2,w2,v3,w3,r1,r2,r3,o3,(Z _ _).drew.trans b3⟩
theorem NY {U:aH} {lo hi:aQ} {a b:List C5} (c:C5) (hl:gu U lo a) (hh:gu U hi b) (la:a.length<=100) (lb:b.length<=100) :
  ∃ v1 w1 v2 w2 v3 w3,(aj #[41,41] 41 #[J (X ⟨U.heap.size,0,Y⟩) 0 0,lo]).run ah ((U.drew.alloc (aB #[] 106)).alloc (aB #[aF c.1,O V c.2.1,O V c.2.2.1,O V c.2.2.2.1,aF c.2.2.2.2] 106))=.ok v1 w1 /\
   (aj #[41,41] 41 #[v1,J (X ⟨U.heap.size+1,0,Y⟩) 1 1]).run ah w1=.ok v2 w2 /\
   (aj #[41,41] 41 #[v2,hi]).run ah w2=.ok v3 w3/\jP w3 U.heap.size v3 (a++c::b)/\Below U.heap.size U w3:=by
 have hx:gu ((U.drew.alloc (aB #[] 106)).alloc (aB #[aF c.1,O V c.2.1,O V c.2.2.1,O V c.2.2.2.1,aF c.2.2.2.2] 106)) (J (X ⟨U.heap.size+1,0,Y⟩) 1 1) [c]:=by
  have h:=wF (U.drew.alloc (aB #[] 106)) c
  rwa [show (U.drew.alloc (aB #[] 106)).heap.size=U.heap.size+1 by simp] at h
 obtain⟨v1,w1,v2,w2,v3,w3,r1,r2,r3,o3,b3⟩:=Vs (W:=U.drew) (g:=U.heap.size) (dG (pJ U.drew) ((Z _ _).alloc (aD _) _)) hx (by omega) (((Z _ _).alloc (aD _) _).alloc (by simp) _) (hl.on (Z _ _).drew) (hh.on (Z _ _).drew) la lb;exact⟨v1,w1,v2,w2,v3,w3,r1,r2,r3,o3,(Z _ _).drew.trans b3⟩
theorem Zh (a b:ByteArray) (h:¬ a=b):(a.toList == b.toList)=aJ:=by
 rw [beq_eq_false_iff_ne];exact fun e=>h (pG e)
def Zi (r:Option (List Cn)) (w:aH) (e:Ending) (w':aH):Prop:=Below w.heap.size w w'/\(match r with
 | some p=>∃ v,e=aO (.tuple #[v,aX aT])/\gu w' v (p.map r5)
 | none=>e=aO (.tuple #[J Y 0 0,aX aJ]))
theorem QK (lv:aQ) (l:List Cn) (w:aH) (hl:gu w lv (l.map r5)) (h10:l.length<=10):bF ah 90 #[lv] w (Zi (jK [] l) w):=by
 have HL:=L hl;have LN:=L (show (l.map r5).length=l.length from aC ..);obtain⟨ao,ac,rfl⟩:=hl.len;rw [aC] at HL ⊢;obtain⟨n,hn⟩:∃ n,n=l.length:=⟨_,rfl⟩;rw [<- hn] at HL h10 ⊢;have HN:=L hn;obtain⟨res,hres⟩:∃ r,r=jK [] l:=⟨_,rfl⟩;have HR:=L hres;have QS:=L (fun e w' (h:Zi res w e w')=>(show Zi (jK [] l) w e w' from hres ▸ h));generalize hq:Zi (jK [] l) w=q at *;clear hq hl hn hres;go_enter Tryz.func90,Tryz.ntmps90;go_wp2
 go_loopw [4,12] (fun ov i wr=>∃ (j:Nat) (m:List Cn),j<=n/\i=O V j/\jP wr w.heap.size ov (m.map r5)/\oz m/\m.length<=j/\res=jK m (l.drop j)/\Below w.heap.size w wr) (fun _ i _=>n-(intOf i).toNat)
 case atStart=>exact⟨0,[],bY _,rfl,gB _ _,List.Pairwise.nil,by simp,by rw [HR.out]; rfl,Z _ _⟩
 case round =>
  obtain⟨j,m,hj,rfl,hown,hrise,hmj,aaM,hb⟩:=hrel;have BW:=L hb;have OW:=L hown;have RM:=L hrise;have FO:=L aaM;have m10:m.length<=10:=by omega
  clear hb hown hrise aaM;by_cases hjl:j<n
  ·obtain⟨⟨xn,xk⟩,hx⟩:∃ x,l[j]?=X x:=⟨_,aM (by have:=HN.out; omega)⟩;obtain⟨p,ix,px⟩:=elC (x:=r5 (xn,xk)) HL.out rfl (LN.out.trans HN.out.symm) (by rw [aL,hx]; rfl);obtain⟨p0,p1,p2,p3,p4⟩:=px _ BW.out;have DR:l.drop j=(xn,xk)::l.drop (j+1):=by
    have h:=List.drop_eq_getElem_cons (l:=l) (i:=j) (by have:=HN.out; omega);rw [h]
    congr 1
    exact (List.getElem?_eq_some_iff.1 hx).2
   have F2:=FO.out;rw [DR,LK] at F2;have F3:=L F2;have B4:=L (BW.out.alloc BW.out.size (aB #[aF xn,O V (kN xk),O V (jN xk),O V (jO xk),aF (kT xk)] 106));have O4:=L (dG OW.out ((Z wr.heap.size wr).alloc (aD _) (aB #[aF xn,O V (kN xk),O V (jN xk),O V (jO xk),aF (kT xk)] 106)));have X4:=L (show dN (wr.alloc (aB #[aF xn,O V (kN xk),O V (jN xk),O V (jO xk),aF (kT xk)] 106)) wr.heap.size (cells5 (r5 (xn,xk))).toArray 106 from dO wr _ _);obtain⟨oo,oc,hov⟩:=(aV OW.out).len;rw [aC] at hov;subst hov;have CL:=M0 m xn;simp only [r5] at p0 p1 p2 p3 p4;clear hx px F2 DR FO BW OW;go_wp2_with fail;clear ix p0 p1 p2 p3 p4;generalize wr.alloc (aB #[aF xn,O V (kN xk),O V (jN xk),O V (jO xk),aF (kT xk)] 106)=W1 at *;generalize wr.heap.size=cb at *
   go_loopw [7] (fun at_ wi=>∃ k:Nat,k<=ng m xn/\at_=O V k/\Below W1.heap.size W1 wi) (fun i _=>m.length-(intOf i).toNat)
   case atStart=>exact⟨0,bY _,rfl,Z _ _⟩
   case round =>
    obtain⟨k,hk,rfl,hbi⟩:=hrel;have BI:=L hbi;have B5:=L (B4.out.trans (hbi.mono B4.out.size));have O5:=L (dG O4.out hbi);have X5:=L (X4.out.on hbi);clear hbi;obtain⟨b0,b1,b2,b3,b4⟩:=uf X5.out;simp only [r5] at b0 b1 b2 b3 b4;have OL:=L (show (m.map r5).length=m.length from aC ..);by_cases hkc:k<ng m xn
    ·obtain⟨⟨yn,yk⟩,hy⟩:∃ y,m[k]?=X y:=⟨_,aM (by omega)⟩;obtain⟨q,iy,q0,q1,q2,q3,q4⟩:=sP (x:=r5 (yn,yk)) (aV O5.out) rfl OL.out (by rw [aL,hy]; rfl) (Z _ _);have lt:=cnt_lt m xn k _ hkc hy;have hkl:k<m.length:=by omega
     have d0:decide (k<m.length)=aT:=by simpa using hkl
     have d1:decide ((k:Int)<(m.length:Int))=aT:=by simpa using hkl
     simp only [r5] at q0 q1 q2 q3 q4 lt;clear hy;go_wp2;refine wp_region_quiet_below (by kernel_rfl) (by kernel_rfl) ?_
     repeat (go_big_quiet_step (fail))
     refine wpQuiet_nil ?_;intro _ hw';obtain⟨⟨dq,osq⟩,hw''⟩:=hw';subst hw'';have BN:=L (BI.out.trans ((au wr dq osq).mono BI.out.size));clear iy q0 q1 q2 q3 q4 lt b0 b1 b2 b3 b4;go_wp2
     go_roundw
     case rel=>exact⟨k+1,by omega,by go_num,BN.out⟩
     case measure=>simp [intOf]; omega
    ·have hkk:k=ng m xn:=by omega
     have HK:=L hkk;by_cases hkl:k<m.length
     ·obtain⟨⟨yn,yk⟩,hy⟩:∃ y,m[k]?=X y:=⟨_,aM hkl⟩;obtain⟨q,iy,q0,q1,q2,q3,q4⟩:=sP (x:=r5 (yn,yk)) (aV O5.out) rfl OL.out (by rw [aL,hy]; rfl) (Z _ _);have lt:=Vp m xn (yn,yk) (by rw [<- hkk]; exact hy);have d0:decide (k<m.length)=aT:=by simpa using hkl
      have d1:decide ((k:Int)<(m.length:Int))=aT:=by simpa using hkl
      have TH:=L (Vq (m:=m) (n:=xn) (y:=(yn,yk)) (by rw [<- hkk]; exact hy));have HY:=L hy;simp only [r5] at q0 q1 q2 q3 q4 lt;clear hy hkk hkc;by_cases he:yn=xn
      ·skip
       obtain rfl:yn=xn:=he;have TT:=L (show qM m yn=aT by rw [TH.out]; simp);obtain⟨x,hx1,hx2,hx3⟩:=PV (c:=(yn,xk)) TT.out;rw [<- HK.out,HY.out] at hx1;obtain rfl:=Option.some.inj hx1;rw [<- HK.out] at hx3;have INS:=L hx3;clear hx1 hx2 hx3 TH TT;go_wp2;refine wp_region_quiet_below (by kernel_rfl) (by kernel_rfl) ?_
       repeat (go_big_quiet_step (fail))
       refine wpQuiet_nil ?_;intro _ hw';obtain⟨⟨dq,osq⟩,hw''⟩:=hw';subst hw'';clear iy q0 q1 q2 q3 q4 b0 b1 b2 b3 b4;have BN:=L (B5.out.trans ((au wr dq osq).mono B5.out.size));have ON:=L (dG O5.out (au wr dq osq));have XN:=L (X5.out.on (au wr dq osq));clear B5 O5 X5 BI;generalize grow (bL wr dq) osq=w2 at *;obtain⟨b0,b1,b2,b3,b4⟩:=uf XN.out;obtain⟨q,iy,q0,q1,q2,q3,q4⟩:=sP (x:=r5 (yn,yk)) (aV ON.out) rfl OL.out (by rw [aL,HY.out]; rfl) (Z _ _);simp only [r5] at q0 q1 q2 q3 q4 b0 b1 b2 b3 b4;go_wp2;refine wp_region_quiet_below (by kernel_rfl) (by kernel_rfl) ?_
       repeat (go_big_quiet_step (fail))
       refine wpQuiet_nil ?_;intro _ hw';obtain⟨⟨dq,osq⟩,hw''⟩:=hw';subst hw'';clear iy q0 q1 q2 q3 q4 b0 b1 b2 b3 b4;have BU:=L (BN.out.trans ((au w2 dq osq).mono BN.out.size));have OU:=L (dG ON.out (au w2 dq osq));have XU:=L (XN.out.on (au w2 dq osq));clear BN ON XN;generalize grow (bL w2 dq) osq=U at *;obtain⟨q,iy,_,qx⟩:=nC Dk (x:=r5 (yn,yk)) (aV OU.out) rfl OL.out (by rw [aL,HY.out]; rfl);have QX:=L (fun w hw=>five (qx w hw));obtain⟨q0,q1,q2,q3,q4⟩:=QX.out U (Z _ _);obtain⟨x0,x1,x2,x3,x4⟩:=eZ XU.out;have CB:=L (fun W=>QI yn yk xk W);generalize fE yk xk=r at *;have hcb:cb<U.heap.size:=XU.out.lt;simp only [r5] at q0 q1 q2 q3 q4 x0 x1 x2 x3 x4 CB;clear qx;change ∀ w,(bH 41 (J oo m.length oc) (O V k)).run ah w=.ok (ay (X q)) w at iy;go_wp2_with fail
       rename_i K hK
       have TAIL:∀ (pb:Nat) (wf:aH) (y:C5) (u13 u14 u15 u16 u17 u18 u19 u20 u21 u22 u23 u24 u25 u26 u27 u28 u29 u30 u31 u32 u33 u34 u35 u36 u37 u38 u39 u40 u41 u42 u43 u44 u45 u46 u47 u48 u49 u50 u51 u52 u53 u54 u55 u56 u57 u58 u59 u60 u61 u62 u63 u64 u65 u66 u67 u68 u69 u70 u71 u72 u73 u74 u75 u76:aQ),dN wf pb (cells5 y).toArray 106->Below U.heap.size U wf->(∀ k',r=X k'->y=r5 (yn,k'))->K ⟨#[J ao n ac,undef,u2,u3,J oo m.length oc,undef,ay (X ⟨cb,0,Y⟩),O V k,ay (X ⟨pb,0,Y⟩),aX r.isSome,J ao n ac,O V n,O V j,u13,u14,u15,u16,u17,u18,u19,u20,u21,u22,u23,u24,u25,u26,u27,u28,u29,u30,u31,u32,u33,u34,u35,u36,u37,u38,u39,u40,u41,u42,u43,u44,u45,u46,u47,u48,u49,u50,u51,u52,u53,u54,u55,u56,u57,u58,u59,u60,u61,u62,u63,u64,u65,u66,u67,u68,u69,u70,u71,u72,u73,u74,u75,u76,undef],[]⟩ wf:=by
        clear q0 q1 q2 q3 q4 x0 x1 x2 x3 x4 CB iy QX XU hcb d0 d1 lt;intro pb wf y u13 u14 u15 u16 u17 u18 u19 u20 u21 u22 u23 u24 u25 u26 u27 u28 u29 u30 u31 u32 u33 u34 u35 u36 u37 u38 u39 u40 u41 u42 u43 u44 u45 u46 u47 u48 u49 u50 u51 u52 u53 u54 u55 u56 u57 u58 u59 u60 u61 u62 u63 u64 u65 u66 u67 u68 u69 u70 u71 u72 u73 u74 u75 u76 hyb hbw hyk;have HYB:=L hyb;have HBW:=L hbw;have HYK:=L hyk;have BF:=L (BU.out.trans (hbw.mono BU.out.size));clear hyb hbw hyk;apply hK;clear hK;rcases r with _|k'
        ·have F4:=L (show res=Y by rw [F3.out,INS.out]; rfl);go_wp2;refine QS.out _ _ ⟨BF.out,?_⟩;rw [F4.out]
         rfl
        ·have F4:=L (show res=jK (m.set k (yn,k')) (l.drop (j+1)) by rw [F3.out,INS.out]; rfl);have R4:=L (kL m (yn,xk) (m.set k (yn,k')) RM.out (by rw [INS.out]; rfl)).1;have YE:=L (HYK.out k' rfl);have ROF:=L (show gu wf (J oo m.length oc) (m.map r5) from aV (dG OU.out HBW.out));have BA:=L ((Z wf.heap.size wf).alloc (aD _) (aB #[] 106));have MK:=pJ wf;obtain⟨v1,w1,r1,o0,g1⟩:=Km wf.heap.size MK (ROF.out.on BA.out) (by simp) (by simp; omega) (by simp);have B1:=L (BA.out.grown g1 (by simp) (fun jj hj=>(MK.lt jj hj).1));have o1:jP w1 wf.heap.size v1 (m.map r5):=by simpa using o0
         rcases gQ o1 with⟨_,h2⟩|⟨g,cap,cur,rfl,hBg,hg,hlc,hcm,hsz,htk⟩
         ·rw [List.map_eq_nil_iff] at h2;rw [h2] at hkl;exact absurd hkl (Nat.not_lt_zero _)
         ·have fl:=Fg Dk (m.map r5) k (r5 (yn,yk)) (by rw [aL,HY.out]; rfl);have cl:∀ jj u,jj<5->(cells5 (r5 (yn,yk)))[jj]?=X u->w1.cell? ⟨g,k * 5+jj,Y⟩=X u:=fun jj u hj hu=>(World.ownsRow.cellAt o1 (k * 5+jj) (by rw [aC]; show _<m.length * 5; omega)).trans ((fl jj hj).trans hu);have c0:=cl 0 _ (by decide) rfl;have c1:=cl 1 _ (by decide) rfl;have c2:=cl 2 _ (by decide) rfl;have c3:=cl 3 _ (by decide) rfl;have c4:=cl 4 _ (by decide) rfl;have fz:=fun jj=>(show dN w1 g cur 106 from hg).fr jj;have BG:=L hBg;have O1:=L o1;have ix:=oW Dk g k m.length cap hkl;change ∀ w,(bH 41 (J (X ⟨g,0,Y⟩) m.length cap) (O V k)).run ah w=.ok (ay (X ⟨g,k * 5,Y⟩)) w at ix;change w1.cell? ⟨g,k * 5,Y⟩=X (aF yn) at c0;obtain⟨y0,y1,y2,y3,y4⟩:=eZ (HYB.out.on B1.out);rw [aC] at r1 O1;simp only [r5] at c1 c2 c3 c4;clear o0 o1 g1 MK hBg hg hlc hcm hsz htk fl cl BA ROF;go_wp2_with (first | (at_builtin; refine wpList_append_run rfl _ _ 41 rfl rfl rfl r1 ?_) | fail)
          go_roundw
          case rel=>exact⟨j+1,m.set k (yn,k'),by omega,by go_num,by
           rw [List.map_set,<- YE.out];exact nP BF.out.size (Qr O1.out (by rw [aC]) hkl),R4.out,by rw [List.length_set]; omega,F4.out,Gg (BF.out.trans (B1.out.mono BF.out.size)) g (aG BF.out.size BG.out) _ _ _ _ _ _⟩
          case measure=>simp [intOf]; omega
       clear hK
       go_region_with (go_at_call 109; refine (CB.out _).mono ?_; rintro e w3 ⟨⟨y,rfl,hy⟩,hb3⟩; (try (have ZB:=L ((dO U.drew (cells5 (⟨#[]⟩,0,0,0,⟨#[]⟩)).toArray 106).on hb3); obtain⟨z0,z1,z2,z3,z4⟩:=eZ ZB.out; have fz:=fun k=>ZB.out.fr k; simp only [World.size_drew] at z0 z1 z2 z3 z4 fz)))
       all_goals simp only [Exit.then]
       all_goals first
        | exact TAIL w3.heap.size _ y _ _ _ _ _ _ _ _ _ _ _ _ _ _ _ _ _ _ _ _ _ _ _ _ _ _ _ _ _ _ _ _ _ _ _ _ _ _ _ _ _ _ _ _ _ _ _ _ _ _ _ _ _ _ _ _ _ _ _ _ _ _ _ _ (dO w3 _ _) (((Z U.heap.size U).drew.trans hb3).alloc hb3.size _) hy
        | exact TAIL U.heap.size _ y _ _ _ _ _ _ _ _ _ _ _ _ _ _ _ _ _ _ _ _ _ _ _ _ _ _ _ _ _ _ _ _ _ _ _ _ _ _ _ _ _ _ _ _ _ _ _ _ _ _ _ _ _ _ _ _ _ _ _ _ _ _ _ _ (yH ((dO U.drew (cells5 (⟨#[]⟩,0,0,0,⟨#[]⟩)).toArray 106).on hb3) y) (iO (((Z U.heap.size U).drew.alloc (by simp) _).trans (hb3.mono (by simp))) U.heap.size (aD _) _ _ _ _ _) hy
      ·have eq:=Zh yn xn he;have NT:=L (show qM m xn=aJ by rw [TH.out]; simpa using he);clear he TH;go_wp2;refine wp_region_quiet_below (by kernel_rfl) (by kernel_rfl) ?_
       repeat (go_big_quiet_step (fail))
       refine wpQuiet_nil ?_;intro _ hw';obtain⟨⟨dq,osq⟩,hw''⟩:=hw';subst hw'';clear iy q0 q1 q2 q3 q4 b0 b1 b2 b3 b4;have BN:=L (B5.out.trans ((au wr dq osq).mono B5.out.size));have ON:=L (dG O5.out (au wr dq osq));have XN:=L (X5.out.on (au wr dq osq));clear B5 O5 X5 BI;generalize grow (bL wr dq) osq=w2 at *;obtain⟨b0,b1,b2,b3,b4⟩:=uf XN.out;obtain⟨q,iy,q0,q1,q2,q3,q4⟩:=sP (x:=r5 (yn,yk)) (aV ON.out) rfl OL.out (by rw [aL,HY.out]; rfl) (Z _ _);simp only [r5] at q0 q1 q2 q3 q4 b0 b1 b2 b3 b4;go_wp2;refine wp_region_quiet_below (by kernel_rfl) (by kernel_rfl) ?_
       repeat (go_big_quiet_step (fail))
       refine wpQuiet_nil ?_;intro _ hw';obtain⟨⟨dq,osq⟩,hw''⟩:=hw';subst hw'';have BU:=L (BN.out.trans ((au w2 dq osq).mono BN.out.size));have OU:=L (dG ON.out (au w2 dq osq));have XU:=L (XN.out.on (au w2 dq osq));clear BN ON XN;generalize grow (bL w2 dq) osq=U at *;have INS:=L (M6 (c:=(xn,xk)) NT.out);rw [<- HK.out] at INS;have F4:=L (show res=jK (m.take k++(xn,xk)::m.drop k) (l.drop (j+1)) by rw [F3.out,INS.out]);have R4:=L (kL m (xn,xk) _ RM.out INS.out).1;have L4:=L (show (m.take k++(xn,xk)::m.drop k).length<=j+1 by have:=HK.out; simp; omega);have KM:=L (show k<=(m.map r5).length by have:=HK.out; rw [aC]; omega);obtain⟨lo,Cy,wm⟩:=loC (aV OU.out) k KM.out;obtain⟨hi,Cz,xQ⟩:=hiC (aV OU.out) k KM.out;have la:((m.map r5).take k).length<=100:=by simp; omega
       have lb:((m.map r5).drop k).length<=100:=by simp; omega
       have MP:=L (show (m.take k++(xn,xk)::m.drop k).map r5=(m.map r5).take k++(xn,kN xk,jN xk,jO xk,kT xk)::(m.map r5).drop k by rw [bK,bI,bU,bV]; rfl);obtain⟨va1,wa1,va2,wa2,va3,wa3,ra1,ra2,ra3,ba1,oa3,ba3⟩:=NV (xn,kN xk,jN xk,jO xk,kT xk) wm xQ la lb;obtain⟨vb1,wb1,vb2,wb2,vb3,wb3,rb1,rb2,rb3,ob3,bb3⟩:=NW (xn,kN xk,jN xk,jO xk,kT xk) wm xQ la lb;obtain⟨vc1,wc1,vc2,wc2,vc3,wc3,rc1,rc2,rc3,oc3,bc3⟩:=NY (xn,kN xk,jN xk,jO xk,kT xk) wm xQ la lb;have ENDS:=L (fun (v3:aQ) (w3:aH) (o3:jP w3 U.heap.size v3 ((m.map r5).take k++(xn,kN xk,jN xk,jO xk,kT xk)::(m.map r5).drop k)) (b3:Below U.heap.size U w3)=>(show jP w3 w.heap.size v3 ((m.take k++(xn,xk)::m.drop k).map r5)/\Below w.heap.size w w3 from ⟨by rw [MP.out]; exact nP BU.out.size o3,BU.out.trans (b3.mono BU.out.size)⟩));have EA:=L (ENDS.out va3 wa3 oa3 ba3);have EB:=L (ENDS.out vb3 wb3 ob3 bb3);have EC_:=L (ENDS.out vc3 wc3 oc3 bc3);obtain⟨x0,x1,x2,x3,x4⟩:=eZ XU.out;obtain⟨y0,y1,y2,y3,y4⟩:=eZ (XU.out.on ba1);simp only [r5] at x0 x1 x2 x3 x4 y0 y1 y2 y3 y4 ra2 rb1 rc1;have hcb:cb<U.heap.size:=XU.out.lt;clear oa3 ba3 ob3 bb3 oc3 bc3 ENDS wm xQ la lb ba1 MP XU OU BU;go_wp2_with fail
       go_region_law (first
        | (refine eU rfl (aA 64) (aA 67) 41 rfl (by simp [ak]) (by simp [ak]) ra1 ?_)
        | (refine eU rfl (aA 64) (aA 67) 41 rfl (by simp [ak]) (by simp [ak]) rb1 ?_)
        | (refine eU rfl (aA 64) (aA 67) 41 rfl (by simp [ak]) (by simp [ak]) rc1 ?_)
        | (refine eU rfl (aA 68) (aA 70) 41 rfl (by simp [ak]) (by simp [ak]) ra2 ?_)
        | (refine eU rfl (aA 68) (aA 70) 41 rfl (by simp [ak]) (by simp [ak]) rb2 ?_)
        | (refine eU rfl (aA 68) (aA 70) 41 rfl (by simp [ak]) (by simp [ak]) rc2 ?_)
        | (refine eU rfl (aA 71) (aA 74) 41 rfl (by simp [ak]) (by simp [ak]) ra3 ?_)
        | (refine eU rfl (aA 71) (aA 74) 41 rfl (by simp [ak]) (by simp [ak]) rb3 ?_)
        | (refine eU rfl (aA 71) (aA 74) 41 rfl (by simp [ak]) (by simp [ak]) rc3 ?_))
       all_goals simp only [Exit.inBlock,Exit.then]
       all_goals
        apply_assumption
        clear ra1 ra2 ra3 rb1 rb2 rb3 rc1 rc2 rc3 x0 x1 x2 x3 x4 y0 y1 y2 y3 y4 Cy Cz;go_wp2
        go_roundw
        case rel=>first
         | exact⟨j+1,_,by omega,by go_num,EA.out.1,R4.out,L4.out,F4.out,EA.out.2⟩
         | exact⟨j+1,_,by omega,by go_num,EB.out.1,R4.out,L4.out,F4.out,EB.out.2⟩
         | exact⟨j+1,_,by omega,by go_num,EC_.out.1,R4.out,L4.out,F4.out,EC_.out.2⟩
        case measure=>simp [intOf]; omega
     ·have d0:decide (k<m.length)=aJ:=by simpa using hkl
      have d1:decide ((k:Int)<(m.length:Int))=aJ:=by simpa using hkl
      have NT:=L (QJ (m:=m) (n:=xn) (by rw [<- hkk]; omega));clear hkk hkc hkl;go_wp2;refine wp_region_quiet_below (by kernel_rfl) (by kernel_rfl) ?_
      repeat (go_big_quiet_step (fail))
      refine wpQuiet_nil ?_;intro _ hw';obtain⟨⟨dq,osq⟩,hw''⟩:=hw';subst hw'';clear b0 b1 b2 b3 b4;have BN:=L (B5.out.trans ((au wr dq osq).mono B5.out.size));have ON:=L (dG O5.out (au wr dq osq));have XN:=L (X5.out.on (au wr dq osq));clear B5 O5 X5 BI;generalize grow (bL wr dq) osq=w2 at *;go_wp2;refine wp_region_quiet_below (by kernel_rfl) (by kernel_rfl) ?_
      repeat (go_big_quiet_step (fail))
      refine wpQuiet_nil ?_;intro _ hw';obtain⟨⟨dq,osq⟩,hw''⟩:=hw';subst hw'';have BU:=L (BN.out.trans ((au w2 dq osq).mono BN.out.size));have OU:=L (dG ON.out (au w2 dq osq));have XU:=L (XN.out.on (au w2 dq osq));clear BN ON XN;generalize grow (bL w2 dq) osq=U at *;have INS:=L (M6 (c:=(xn,xk)) NT.out);rw [<- HK.out] at INS;have F4:=L (show res=jK (m.take k++(xn,xk)::m.drop k) (l.drop (j+1)) by rw [F3.out,INS.out]);have R4:=L (kL m (xn,xk) _ RM.out INS.out).1;have L4:=L (show (m.take k++(xn,xk)::m.drop k).length<=j+1 by have:=HK.out; simp; omega);have KM:=L (show k<=(m.map r5).length by have:=HK.out; rw [aC]; omega);obtain⟨lo,Cy,wm⟩:=loC (aV OU.out) k KM.out;obtain⟨hi,Cz,xQ⟩:=hiC (aV OU.out) k KM.out;have la:((m.map r5).take k).length<=100:=by simp; omega
      have lb:((m.map r5).drop k).length<=100:=by simp; omega
      have MP:=L (show (m.take k++(xn,xk)::m.drop k).map r5=(m.map r5).take k++(xn,kN xk,jN xk,jO xk,kT xk)::(m.map r5).drop k by rw [bK,bI,bU,bV]; rfl);obtain⟨va1,wa1,va2,wa2,va3,wa3,ra1,ra2,ra3,ba1,oa3,ba3⟩:=NV (xn,kN xk,jN xk,jO xk,kT xk) wm xQ la lb;obtain⟨vb1,wb1,vb2,wb2,vb3,wb3,rb1,rb2,rb3,ob3,bb3⟩:=NW (xn,kN xk,jN xk,jO xk,kT xk) wm xQ la lb;obtain⟨vc1,wc1,vc2,wc2,vc3,wc3,rc1,rc2,rc3,oc3,bc3⟩:=NY (xn,kN xk,jN xk,jO xk,kT xk) wm xQ la lb;have ENDS:=L (fun (v3:aQ) (w3:aH) (o3:jP w3 U.heap.size v3 ((m.map r5).take k++(xn,kN xk,jN xk,jO xk,kT xk)::(m.map r5).drop k)) (b3:Below U.heap.size U w3)=>(show jP w3 w.heap.size v3 ((m.take k++(xn,xk)::m.drop k).map r5)/\Below w.heap.size w w3 from ⟨by rw [MP.out]; exact nP BU.out.size o3,BU.out.trans (b3.mono BU.out.size)⟩));have EA:=L (ENDS.out va3 wa3 oa3 ba3);have EB:=L (ENDS.out vb3 wb3 ob3 bb3);have EC_:=L (ENDS.out vc3 wc3 oc3 bc3);obtain⟨x0,x1,x2,x3,x4⟩:=eZ XU.out;obtain⟨y0,y1,y2,y3,y4⟩:=eZ (XU.out.on ba1);simp only [r5] at x0 x1 x2 x3 x4 y0 y1 y2 y3 y4 ra2 rb1 rc1;have hcb:cb<U.heap.size:=XU.out.lt;clear oa3 ba3 ob3 bb3 oc3 bc3 ENDS wm xQ la lb ba1 MP XU OU BU;go_wp2_with fail
      go_region_law (first
       | (refine eU rfl (aA 64) (aA 67) 41 rfl (by simp [ak]) (by simp [ak]) ra1 ?_)
       | (refine eU rfl (aA 64) (aA 67) 41 rfl (by simp [ak]) (by simp [ak]) rb1 ?_)
       | (refine eU rfl (aA 64) (aA 67) 41 rfl (by simp [ak]) (by simp [ak]) rc1 ?_)
       | (refine eU rfl (aA 68) (aA 70) 41 rfl (by simp [ak]) (by simp [ak]) ra2 ?_)
       | (refine eU rfl (aA 68) (aA 70) 41 rfl (by simp [ak]) (by simp [ak]) rb2 ?_)
       | (refine eU rfl (aA 68) (aA 70) 41 rfl (by simp [ak]) (by simp [ak]) rc2 ?_)
       | (refine eU rfl (aA 71) (aA 74) 41 rfl (by simp [ak]) (by simp [ak]) ra3 ?_)
       | (refine eU rfl (aA 71) (aA 74) 41 rfl (by simp [ak]) (by simp [ak]) rb3 ?_)
       | (refine eU rfl (aA 71) (aA 74) 41 rfl (by simp [ak]) (by simp [ak]) rc3 ?_))
      all_goals simp only [Exit.inBlock,Exit.then]
      all_goals
       apply_assumption
       clear ra1 ra2 ra3 rb1 rb2 rb3 rc1 rc2 rc3 x0 x1 x2 x3 x4 y0 y1 y2 y3 y4 Cy Cz;go_wp2
       go_roundw
       case rel=>first
        | exact⟨j+1,_,by omega,by go_num,EA.out.1,R4.out,L4.out,F4.out,EA.out.2⟩
        | exact⟨j+1,_,by omega,by go_num,EB.out.1,R4.out,L4.out,F4.out,EB.out.2⟩
        | exact⟨j+1,_,by omega,by go_num,EC_.out.1,R4.out,L4.out,F4.out,EC_.out.2⟩
       case measure=>simp [intOf]; omega
  ·obtain rfl:j=n:=by omega
   have R:=L (show res=X m by rw [FO.out,List.drop_of_length_le (by have:=HN.out; omega)]; rfl);go_wp2;refine QS.out _ _ ⟨BW.out,?_⟩;rw [R.out];exact⟨_,rfl,aV OW.out⟩
theorem QL {W:aH} {Dq bv:aQ} {a b:List Cn} (ha:gu W Dq (a.map r5)) (hb:gu W bv (b.map r5)) (la:a.length<=5) (lb:b.length<=5) :
  ∃ v1 w1 v2 w2,(aj #[41,41] 41 #[J (X ⟨W.heap.size,0,Y⟩) 0 0,Dq]).run ah (W.alloc (aB #[] 106))=.ok v1 w1 /\
   (aj #[41,41] 41 #[v1,bv]).run ah w1=.ok v2 w2/\gu w2 v2 ((a++b).map r5)/\Below W.heap.size W w2:=by
 have b0:=(Z W.heap.size W).alloc (aD _) (aB #[] 106);obtain⟨v1,w1,r1,o1,g1⟩:=Km W.heap.size (pJ W) (ha.on b0) (by simp) (by rw [aC]; omega) (by simp);have b1:=b0.grown g1 b0.size (fun j hj=>((pJ W).lt j hj).1);obtain⟨v2,w2,r2,o2,g2⟩:=Km W.heap.size o1 (hb.on b1) (by simp; omega) (by rw [aC]; omega) b1.size;have b2:=b1.grown g2 b1.size (fun j hj=>(o1.lt j hj).1);exact⟨v1,w1,v2,w2,r1,r2,by rw [bK]; exact aV (by simpa using o2),b2⟩
theorem Jk (Dq bv:aQ) (a b:List Cn) (w:aH) (ha:gu w Dq (a.map r5)) (hb:gu w bv (b.map r5)) (na:NF a) (nb:NF b):bF ah 56 #[Dq,bv] w fun e w'=>e=aO (aX (zQ a b))/\Below w.heap.size w w':=by
 obtain⟨v1,w1,v2,w2,r1,r2,ro,b2⟩:=QL ha hb na.five nb.five;have B2:=L b2;have MK:=L (QK v2 (a++b) w2 ro (by have:=na.five; have:=nb.five; simp; omega));have RB:=L (Tp (b:=b) na.rise);have MR:=L (Tq (b:=b) na.rise na.five);rw [RB.out] at MK;generalize jK a b=res at *;generalize zQ a b=r at *;clear ha hb na nb ro b2 RB;go_enter Tryz.func56,Tryz.ntmps56;go_wp2_with (first | (at_builtin; refine wpList_append_run rfl _ _ 41 rfl rfl rfl r1 ?_) | (at_builtin; refine wpList_append_run rfl _ _ 41 rfl rfl rfl r2 ?_) | fail);refine MK.out.mono ?_;rintro e3 w3 ⟨hb3,h3⟩;have B3:=L (B2.out.trans (hb3.mono B2.out.size));clear hb3 MK r1 r2;rcases res with _|p
 ·have R:=L (show r=aJ from MR.out);obtain rfl:=h3;clear MR;go_wp2;go_ret;exact⟨fu R.out.symm,B3.out⟩
 ·obtain⟨v,rfl,hp⟩:=h3;obtain⟨po,pc,rfl⟩:=hp.len;have R:=L (show r=decide (p.length<=5) from MR.out);rw [aC];clear MR hp;by_cases h5:p.length<=5
  ·have d1:decide ((p.length:Int)<=5)=aT:=by simp; omega
   have R2:=L (show r=aT by rw [R.out]; simpa using h5);clear R h5;go_wp2;go_ret;exact⟨fu R2.out.symm,B3.out⟩
  ·have d1:decide ((p.length:Int)<=5)=aJ:=by simp; omega
   have R2:=L (show r=aJ by rw [R.out]; simpa using h5);clear R h5;go_wp2;go_ret;exact⟨fu R2.out.symm,B3.out⟩
end Rl
namespace Bk
open Go.RowKit Go.Sort Rw YtkcfgbddlpomgaaGreat.Nm Pr Rl
def kH (p q:List C5):Bool:=zQ (p.map YG) (q.map YG)
theorem Gl (Dq bv:aQ) (p q:List C5) (w:aH) (ha:gu w Dq p) (hb:gu w bv q) (hp:dW p) (hq:dW q) :
  bF ah 56 #[Dq,bv] w fun e w'=>e=aO (aX (kH p q))/\Below w.heap.size w w':=by
 obtain⟨a,na,rfl⟩:=hp;obtain⟨b,nb,rfl⟩:=hq;unfold kH;rw [qy,qy];exact Jk Dq bv a b w ha hb na nb
abbrev mgv (k:Int) (t x:Id) (pv qv:Sl):aQ:=aZ #[O V k,O V t.1,O V t.2,O V x.1,O V x.2,dU pv,dU qv]
theorem Gm (b:Br) (nv av sv ev ov:Sl) (f mk:Int) (t x:Id) (pv qv:Sl) (w:aH) (h:iI w b nv av sv ev ov) (l2:b.dQ.length<=900) (l3:b.ent.length<=900) (hok:∀ e∈b.ent,dW e.p) (hkn:∀ e∈b.ent,e.tree∈b.dQ.map Ad.id) :
  bF ah 64 #[mJ b.me nv av sv ev ov,O V f,mgv mk t x pv qv] w fun e w'=>(∃ ev' lo:Sl,e=aO (.tuple #[mJ b.me nv av sv ev' ov,dU lo])/\iI w' (kE b t x f).1 nv av sv ev' ov/\lW w' lo (kE b t x f).2)/\Below w.heap.size w w':=by
 obtain⟨no,nn,nc⟩:=nv;obtain⟨ao,an,ac⟩:=av;obtain⟨so,sn,sc⟩:=sv;obtain⟨eo,en,ec⟩:=ev;obtain⟨oo,eB,oc⟩:=ov;obtain⟨po,pn,pc⟩:=pv;obtain⟨qo,qn,qc⟩:=qv;obtain⟨c,d⟩:=t;obtain⟨c2,d2⟩:=x;have DP:=L (fun W hb'=>DX b (no,nn,nc) (ao,an,ac) (so,sn,sc) (eo,en,ec) (oo,eB,oc) (c,d) (c2,d2) f W (h.on (show Below w.heap.size w W from hb')) l2 l3 hok hkn);have xI:=L h.near;obtain⟨h0,h1,h2,h3⟩:=gX w #[O V b.me,J no nn nc,J ao an ac,J so sn sc,J eo en ec,J oo eB oc] #[O V mk,O V c,O V d,O V c2,O V d2,J po pn pc,J qo qn qc] #[O V 0,J Y 0 0,J Y 0 0,J Y 0 0,J Y 0 0,J Y 0 0] 33 43 33;obtain⟨me,hme⟩:∃ me,me=b.me:=⟨_,rfl⟩;simp only [<- hme] at h0 h1 h2 h3 DP ⊢;have gU:=L (h0);have oP:=L (h1);have lV:=L (h2);have mR:=L (h3);clear h0 h1 h2 h3 h l2 hme hok hkn;show bF ah 64 #[aZ #[O V me,J no nn nc,J ao an ac,J so sn sc,J eo en ec,J oo eB oc],O V f,aZ #[O V mk,O V c,O V d,O V c2,O V d2,J po pn pc,J qo qn qc]] w _;go_enter Tryz.func64,Tryz.ntmps64;go_upto_region 1 with fail;generalize (((w.alloc (aB #[O V me,J no nn nc,J ao an ac,J so sn sc,J eo en ec,J oo eB oc] 33)).alloc (aB #[O V mk,O V c,O V d,O V c2,O V d2,J po pn pc,J qo qn qc] 43)).alloc (aB #[O V 0,J Y 0 0,J Y 0 0,J Y 0 0,J Y 0 0,J Y 0 0] 33))=W at *;have SW:=L (DP.out W gU.out);clear DP;obtain⟨x0,x1,x2,x3,x4,x5⟩:=oP.out.fB;obtain⟨y0,y1,y2,y3,y4,y5,y6⟩:=lV.out.oI;go_wp2_with fail;refine SW.out.mono ?_;rintro e1 w1 ⟨⟨⟨ea,iL,iM⟩,⟨la,ln,lc⟩,rfl,hbr,hou⟩,hb⟩;clear SW;clear x0 x1 x2 x3 x4 x5 y0 y1 y2 y3 y4 y5 y6;have om:=L (gU.out.trans (hb.mono gU.out.size));have kK:=L (oP.out.on hb);have LY:=L (lV.out.on hb);have oQ:=L (mR.out.on hb);clear gU oP lV mR;obtain⟨r0,r1,r2,r3,r4,r5⟩:=oQ.out.fB;obtain⟨DI,DJ,DK,DL,DN,DT⟩:=oQ.out.kJ;have zz:=oQ.out.lt;have GG:=L (dM oQ.out (O V me) (J no nn nc) (J ao an ac) (J so sn sc) (J ea iL iM) (J oo eB oc));have BL:=L (dI (b:=w.heap.size+1+1) om.out (by omega) (O V me) (J no nn nc) (J ao an ac) (J so sn sc) (J ea iL iM) (J oo eB oc));have HK:=L (fun j (_:j<w1.heap.size) (hj:j≠w.heap.size+1+1)=>dL w1 (w.heap.size+1+1) (O V me) (J no nn nc) (J ao an ac) (J so sn sc) (J ea iL iM) (J oo eB oc) j hj);have HC:=L (fD (s1:=(Y,0,0)) (s2:=(Y,0,0)) (s3:=(Y,0,0)) (s4:=(Y,0,0)) (s5:=(Y,0,0)) hbr oQ.out HK.out (by rw [jl,(jw b (c,d) (c2,d2) f).2.1]; exact xI.out.on BL.out));have HO:=L (jk (s1:=(Y,0,0)) (s2:=(Y,0,0)) (s3:=(Y,0,0)) (s4:=(Y,0,0)) (s5:=(Y,0,0)) hou oQ.out HK.out);go_wp2_with fail;obtain⟨v0,v1,v2,v3,v4,v5⟩:=GG.out.fB;refine aI (v:=.tuple #[aZ #[O V me,J no nn nc,J ao an ac,J so sn sc,J ea iL iM,J oo eB oc],J la ln lc]) (by simp [results,Tryz.results64,go_sem,v0,v1,v2,v3,v4,v5]) rfl ?_;exact⟨⟨(ea,iL,iM),(la,ln,lc),rfl,HC.out,HO.out⟩,BL.out⟩
def oq (b:Br) (f:Int) (t x:Id) (p:List C5):Br×List Ou:=if (fG b ⟨t,x,p,f,aJ⟩).2=aJ then ((fG b ⟨t,x,p,f,aJ⟩).1,[]) else
 match b.dQ[(fK (b.dQ.map Ad.id) t).toNat]? with
 | none=>((fG b ⟨t,x,p,f,aJ⟩).1,[])
 | some a=>((fG b ⟨t,x,p,f,aJ⟩).1,[CZ a.par ⟨t,x,p,f,aJ⟩])
theorem rQ (b:Br) (f:Int) (t x:Id) (p:List C5):(oq b f t x p).1=(fG b ⟨t,x,p,f,aJ⟩).1:=by
 unfold oq
 split
 ·rfl
 ·split <;> rfl
theorem QM {b:Br} {e:En} (h:(fG b e).2=aT):∃ (k:Nat) (a:Ad),fK (b.dQ.map Ad.id) e.tree=k/\b.dQ[k]?=X a:=by
 unfold fG at h
 split at h
 ·cases h
 ·rename_i a ha
  split at h
  ·cases h
  ·rename_i h1
   have h2:=qZ (b.dQ.map Ad.id) e.tree;exact⟨(fK (b.dQ.map Ad.id) e.tree).toNat,a,by omega,ha⟩
theorem LZ (b:Br) (nv av sv ev ov:Sl) (f mk:Int) (t x:Id) (pv qv:Sl) (p:List C5) (w:aH) (h:iI w b nv av sv ev ov) (hp:gu w (dU pv) p) (l2:b.dQ.length<=900) (l3:b.ent.length<=900) (hok:∀ e∈b.ent,dW e.p) (hop:dW p) :
  bF ah 63 #[mJ b.me nv av sv ev ov,O V f,mgv mk t x pv qv] w fun e w'=>(∃ ev' lo:Sl,e=aO (.tuple #[mJ b.me nv av sv ev' ov,dU lo])/\iI w' (oq b f t x p).1 nv av sv ev' ov/\lW w' lo (oq b f t x p).2)/\Below w.heap.size w w':=by
 obtain⟨no,nn,nc⟩:=nv;obtain⟨ao,an,ac⟩:=av;obtain⟨so,sn,sc⟩:=sv;obtain⟨eo,en,ec⟩:=ev;obtain⟨oo,eB,oc⟩:=ov;obtain⟨po,pn,pc⟩:=pv;obtain⟨qo,qn,qc⟩:=qv;obtain⟨c,d⟩:=t;obtain⟨c2,d2⟩:=x;have AD:=L (fun W hb'=>Ut b (no,nn,nc) (ao,an,ac) (so,sn,sc) (eo,en,ec) (oo,eB,oc) (c,d,c2,d2,(po,pn,pc),f,aJ) ⟨(c,d),(c2,d2),p,f,aJ⟩ W (h.on (show Below w.heap.size w W from hb')) ⟨rfl,rfl,rfl,rfl,hp.on hb'⟩ l2 l3 hok hop);have xI:=L h.near;have HP:=L hp;obtain⟨h0,h1,h2,h3⟩:=gX w #[O V b.me,J no nn nc,J ao an ac,J so sn sc,J eo en ec,J oo eB oc] #[O V mk,O V c,O V d,O V c2,O V d2,J po pn pc,J qo qn qc] #[O V 0,J Y 0 0,J Y 0 0,J Y 0 0,J Y 0 0,J Y 0 0] 33 43 33;obtain⟨me,hme⟩:∃ me,me=b.me:=⟨_,rfl⟩;simp only [<- hme] at h0 h1 h2 h3 AD ⊢;have gU:=L (h0);have oP:=L (h1);have lV:=L (h2);have mR:=L (h3);clear h0 h1 h2 h3 h l2 hme hok hp;show bF ah 63 #[aZ #[O V me,J no nn nc,J ao an ac,J so sn sc,J eo en ec,J oo eB oc],O V f,aZ #[O V mk,O V c,O V d,O V c2,O V d2,J po pn pc,J qo qn qc]] w _;go_enter Tryz.func63,Tryz.ntmps63;go_upto_region 1 with fail;generalize (((w.alloc (aB #[O V me,J no nn nc,J ao an ac,J so sn sc,J eo en ec,J oo eB oc] 33)).alloc (aB #[O V mk,O V c,O V d,O V c2,O V d2,J po pn pc,J qo qn qc] 43)).alloc (aB #[O V 0,J Y 0 0,J Y 0 0,J Y 0 0,J Y 0 0,J Y 0 0] 33))=W at *;obtain⟨y0,y1,y2,y3,y4,y5,y6⟩:=lV.out.oI;go_upto_region 2 with fail;clear y0 y1 y2 y3 y4 y5 y6;have W4:=L (show w.heap.size+3<=W.heap.size from by have:=mR.out.lt; omega);have NN:=fI W (aB #[O V c,O V d,O V c2,O V d2,J po pn pc,O V f,aX aJ] 68);have om:=L (gU.out.trans (NN.mono gU.out.size));have kK:=L (oP.out.on NN);have LY:=L (lV.out.on NN);have oQ:=L (mR.out.on NN);clear gU oP lV mR;clear NN;have Qp:=L (dO W #[O V c,O V d,O V c2,O V d2,J po pn pc,O V f,aX aJ] 68);generalize W.alloc (aB #[O V c,O V d,O V c2,O V d2,J po pn pc,O V f,aX aJ] 68)=Wa at *;have SW:=L (AD.out Wa om.out);clear AD;obtain⟨x0,x1,x2,x3,x4,x5⟩:=kK.out.fB;obtain⟨z0,z1,z2,z3,z4,z5,z6⟩:=Qp.out.oI;go_wp2_with fail;refine SW.out.mono ?_;rintro e1 w1 ⟨⟨⟨ea,iL,iM⟩,rfl,hbr⟩,hb⟩;clear SW;clear x0 x1 x2 x3 x4 x5 z0 z1 z2 z3 z4 z5 z6;have kZ:=L (om.out.trans (hb.mono om.out.size));have nW:=L (kK.out.on hb);have CY:=L (LY.out.on hb);have tJ:=L (oQ.out.on hb);have tK:=L (Qp.out.on hb);clear om kK LY oQ Qp;obtain⟨fb,Lg⟩:∃ r,(fG b ⟨(c,d),(c2,d2),p,f,aJ⟩).2=r:=⟨_,rfl⟩;have LB:=L Lg;rw [Lg];have w4:=W4.out;obtain⟨k0,k1,k2,k3,k4,k5⟩:=nW.out.fB;obtain⟨rA,rD,rE,rF,rG,rH⟩:=nW.out.kJ;have zz:=nW.out.lt;have FB:=L (dM nW.out (O V me) (J no nn nc) (J ao an ac) (J so sn sc) (J ea iL iM) (J oo eB oc));have B2:=L (dI (b:=w.heap.size) kZ.out (aD _) (O V me) (J no nn nc) (J ao an ac) (J so sn sc) (J ea iL iM) (J oo eB oc));have C9:=L (fun j (_:j<w1.heap.size) (hj:j≠w.heap.size)=>dL w1 (w.heap.size) (O V me) (J no nn nc) (J ao an ac) (J so sn sc) (J ea iL iM) (J oo eB oc) j hj);have FX5:=L (show dN _ _ _ _ from (dL w1 (w.heap.size) (O V me) (J no nn nc) (J ao an ac) (J so sn sc) (J ea iL iM) (J oo eB oc) (w.heap.size+1) (by omega)).trans CY.out);have A9:=L (show dN _ _ _ _ from (dL w1 (w.heap.size) (O V me) (J no nn nc) (J ao an ac) (J so sn sc) (J ea iL iM) (J oo eB oc) (w.heap.size+1+1) (by omega)).trans tJ.out);have FX8:=L (show dN _ _ _ _ from (dL w1 (w.heap.size) (O V me) (J no nn nc) (J ao an ac) (J so sn sc) (J ea iL iM) (J oo eB oc) (W.heap.size) (by omega)).trans tK.out);have HB:=L (fD (s1:=(no,nn,nc)) (s2:=(ao,an,ac)) (s3:=(so,sn,sc)) (s4:=(eo,en,ec)) (s5:=(oo,eB,oc)) hbr nW.out C9.out (by rw [(jR b ⟨(c,d),(c2,d2),p,f,aJ⟩).2.1]; exact xI.out.on B2.out));clear Lg kZ nW CY tJ tK;go_upto_region 3 with fail;clear zz C9 k0 k1 k2 k3 k4 k5 rA rD rE rF rG rH;unfold gY at FB B2 HB FX5 A9 FX8;generalize ((((((w1.setCell ⟨w.heap.size,0,Y⟩ (O V me)).setCell ⟨w.heap.size,1,Y⟩ (J no nn nc)).setCell ⟨w.heap.size,2,Y⟩ (J ao an ac)).setCell ⟨w.heap.size,3,Y⟩ (J so sn sc)).setCell ⟨w.heap.size,4,Y⟩ (J ea iL iM)).setCell ⟨w.heap.size,5,Y⟩ (J oo eB oc))=w2 at *;have qj:=L (B2.out);have ql:=L (FB.out);have yY:=L (FX5.out);have nu:=L (A9.out);have qz:=L (FX8.out);clear B2 FB FX5 A9 FX8;cases fb
 ·have x0:=ql.out.cell 0;have x1:=ql.out.cell 1;have x2:=ql.out.cell 2;have x3:=ql.out.cell 3;have x4:=ql.out.cell 4;have x5:=ql.out.cell 5;simp only [bg,aK,aY] at x0 x1 x2 x3 x4 x5;obtain⟨r0,r1,r2,r3,r4,r5⟩:=nu.out.fB;obtain⟨DI,DJ,DK,DL,DN,DT⟩:=nu.out.kJ;have zz:=nu.out.lt;have GG:=L (dM nu.out (O V me) (J no nn nc) (J ao an ac) (J so sn sc) (J ea iL iM) (J oo eB oc));have BL:=L (dI (b:=w.heap.size+1+1) qj.out (by omega) (O V me) (J no nn nc) (J ao an ac) (J so sn sc) (J ea iL iM) (J oo eB oc));have HK:=L (fun j (_:j<w2.heap.size) (hj:j≠w.heap.size+1+1)=>dL w2 (w.heap.size+1+1) (O V me) (J no nn nc) (J ao an ac) (J so sn sc) (J ea iL iM) (J oo eB oc) j hj);have HC:=L (fD (s1:=(Y,0,0)) (s2:=(Y,0,0)) (s3:=(Y,0,0)) (s4:=(Y,0,0)) (s5:=(Y,0,0)) HB.out nu.out HK.out (by rw [(jR b ⟨(c,d),(c2,d2),p,f,aJ⟩).2.1]; exact xI.out.on BL.out));go_wp2_with fail;obtain⟨v0,v1,v2,v3,v4,v5⟩:=GG.out.fB;refine aI (v:=.tuple #[aZ #[O V me,J no nn nc,J ao an ac,J so sn sc,J ea iL iM,J oo eB oc],J Y 0 0]) (by simp [results,bR,go_sem,v0,v1,v2,v3,v4,v5]) rfl ?_;have hd:oq b f (c,d) (c2,d2) p=((fG b ⟨(c,d),(c2,d2),p,f,aJ⟩).1,[]):=by unfold oq; rw [if_pos LB.out]
  rw [hd];exact⟨⟨(ea,iL,iM),(Y,0,0),rfl,HC.out,ru _⟩,BL.out⟩
 ·obtain⟨k,a,hk1,hak⟩:=QM LB.out;have hk1:fK (b.dQ.map Ad.id) (c,d)=k:=hk1;have DB:=L (show oq b f (c,d) (c2,d2) p=((fG b ⟨(c,d),(c2,d2),p,f,aJ⟩).1,[CZ a.par ⟨(c,d),(c2,d2),p,f,aJ⟩]) from by
   unfold oq;rw [if_neg (by rw [LB.out]; simp),hk1,Int.toNat_natCast,hak])
  obtain⟨ad,zq,wS⟩:=HB.out.dQ;rw [(jR b ⟨(c,d),(c2,d2),p,f,aJ⟩).2.2.1] at wS;obtain⟨z,hz1,hz2⟩:=wS.at k a hak;have FK:=zS wS;rw [<- FK] at hk1;obtain⟨q1,q2,hq⟩:=zq.len;obtain⟨pa,ix,pl,px⟩:=nC okD zq hq rfl hz1;have ix2:∀ w,(bH 28 (J ao an ac) (O V (k:Int))).run ah w=.ok (ay (X pa)) w:=fun w=>by have h1:(J ao an ac)=J q1 ad.length q2:=hq; rw [h1]; exact ix w
  have pb:=px w2 (Z _ _);have p3:w2.cell? ⟨pa.block,pa.off+3,Y⟩=X (O V z.2.2.2):=by simpa [Addr.add] using pb 3 _ rfl
  rw [hz2.2.1] at p3;have pn6:pa.block≠w.heap.size+1+1:=kQ (E:=ED) (show dN w2 (w.heap.size+1+1) (jA 0 (Y,0,0) (Y,0,0) (Y,0,0) (Y,0,0) (Y,0,0)) 33 from nu.out) (fun c=>⟨_,_,rfl,rfl⟩) (mP 0 (Y,0,0) (Y,0,0) (Y,0,0) (Y,0,0) (Y,0,0)) pa z pb;clear hq ix pb px hz1 hz2 hak FK wS;go_upto_region 5 with fail;refine adM _ w2 w.heap.size (w.heap.size+1) (w.heap.size+1+1) W.heap.size me mk c d c2 d2 f a.par aJ no ao so ea oo nn nc an ac sn sc iL iM eB oc po qo pn pc qn qc ad k pa _ _ _ _ _ _ _ _ _ _ _ _ _ _ _ _ _ _ _ _ _ _ _ _ _ _ _ _ _ _ _ _ _ _ _ _ _ _ _ _ _ _ _ ql.out yY.out nu.out qz.out (by omega) (by omega) (by omega) zq hk1 ix2 p3 pl pn6 ?_;intro a9 x9 sl II h69 h79 hbx ho hblk hbl;have BL:=L (show Below w.heap.size w x9 from qj.out.trans (hbl w.heap.size (by omega)));have HC:=L (fD (s1:=(Y,0,0)) (s2:=(Y,0,0)) (s3:=(Y,0,0)) (s4:=(Y,0,0)) (s5:=(Y,0,0)) HB.out nu.out hblk (by rw [(jR b ⟨(c,d),(c2,d2),p,f,aJ⟩).2.1]; exact xI.out.on BL.out));have HU:=L (aV ho);obtain⟨v0,v1,v2,v3,v4,v5⟩:=hbx.fB;clear hbx ho hblk hbl HB zq ix2 p3 pl pn6 hk1;simp only [Exit.then]
  apply_assumption
  go_wp2_with fail;refine aI (v:=.tuple #[aZ #[O V me,J no nn nc,J ao an ac,J so sn sc,J ea iL iM,J oo eB oc],dU sl]) (by simp [results,bR,go_sem,h69,h79,v0,v1,v2,v3,v4,v5]) II ?_;rw [DB.out];exact⟨⟨ea,iL,iM,sl.1,sl.2.1,sl.2.2,rfl,HC.out,_,HU.out,.cons ⟨rfl,rfl,rfl,rfl,HP.out.on BL.out,rfl⟩ .nil⟩,BL.out⟩
def gV (s:Br×List Ou) (mt:Bool) (e:En) (iA:Int):Br×List Ou:=if mt=aJ then s else ((fG s.1 e).1,if (fG s.1 e).2=aT then s.2++[CZ iA e] else s.2)
theorem Jl {b:Br} {e:En} (R:En->Prop) (h:∀ q∈b.ent,R q) (he:∀ u,R { e with up:=u }):∀ q∈(fG b e).1.ent,R q:=by
 unfold fG
 split
 ·exact h
 ·split
  ·exact h
  ·split
   ·exact h
   ·split
    ·exact h
    ·intro q hq;rcases bQ.1 hq with h1|h1
     ·rcases bQ.1 h1 with h2|h2
      ·exact h q (List.mem_of_mem_take h2)
      ·rw [List.mem_singleton.1 h2];exact he _
     ·exact h q (List.mem_of_mem_drop h1)
theorem Jm (b:Br) (e:En):(fG b e).1.ent.length<=b.ent.length+1:=by
 unfold fG
 split
 ·exact aR _
 ·split
  ·exact aR _
  ·split
   ·exact aR _
   ·split
    ·exact aR _
    ·show (fV _ _ _).length<=_;unfold fV;rw [aW,aW,bN,bO];simp;omega
structure NZ (b0 b:Br) (k:Nat):Prop where
 me:b.me=b0.me
 near:b.near=b0.near
 dQ:b.dQ=b0.dQ
 seen:b.seen=b0.seen
 own:b.own=b0.own
 len:b.ent.length<=b0.ent.length+k
theorem NZ.add {b0 b:Br} {k:Nat} (h:NZ b0 b k) (e:En):NZ b0 (fG b e).1 (k+1):=by
 obtain⟨h1,h2,h3,h4,h5⟩:=jR b e;exact⟨h1.trans h.me,h2.trans h.near,h3.trans h.dQ,h4.trans h.seen,h5.trans h.own,by have:=Jm b e; have:=h.len; omega⟩
theorem NZ.succ {b0 b:Br} {k:Nat} (h:NZ b0 b k):NZ b0 b (k+1):=⟨h.me,h.near,h.dQ,h.seen,h.own,by have:=h.len; omega⟩
theorem NZ.step {b0:Br} {s:Br×List Ou} {k:Nat} (h:NZ b0 s.1 k) (mt:Bool) (e:En) (t:Int):NZ b0 (gV s mt e t).1 (k+1):=by
 unfold gV
 split
 ·exact h.succ
 ·exact h.add e
theorem Vt {s:Br×List Ou} (mt:Bool) (e:En) (t:Int) (R:En->Prop) (h:∀ q∈s.1.ent,R q) (he:∀ u,R { e with up:=u }):∀ q∈(gV s mt e t).1.ent,R q:=by
 unfold gV
 split
 ·exact h
 ·exact Jl R h he
theorem Vu {s:Br×List Ou} (mt:Bool) (e:En) (t:Int):(gV s mt e t).2.length<=s.2.length+1:=by
 unfold gV
 split
 ·exact aR _
 ·show (if _ then _ else _:List Ou).length<=_
  split
  ·simp
  ·exact aR _
def fA {α:Type} (l:List α) (f:Br×List Ou->α->Br×List Ou) (s0:Br×List Ou) (k:Nat):Br×List Ou:=(l.take k).foldl f s0
theorem pX {α:Type} {l:List α} {k:Nat} {a:α} (f:Br×List Ou->α->Br×List Ou) (s0:Br×List Ou) (h:l[k]?=X a):fA l f s0 (k+1)=f (fA l f s0 k) a:=by
 unfold fA;rw [List.take_add_one,h,List.foldl_append]
 rfl
theorem mV {α:Type} {l:List α} {b0:Br} {o0:List Ou} (mt:α->Bool) (e:α->En) (t:α->Int) (R:En->Prop) (h0:∀ q∈b0.ent,R q) (hR:∀ a∈l,∀ u,R { e a with up:=u }):∀ k,k<=l.length->NZ b0 (fA l (fun s a=>gV s (mt a) (e a) (t a)) (b0,o0) k).1 k/\(∀ q∈(fA l (fun s a=>gV s (mt a) (e a) (t a)) (b0,o0) k).1.ent,R q)/\(fA l (fun s a=>gV s (mt a) (e a) (t a)) (b0,o0) k).2.length<=o0.length+k
 | 0,_=>⟨⟨rfl,rfl,rfl,rfl,rfl,aD _⟩,h0,aD _⟩
 | k+1,hk=>by
  obtain⟨a,ha⟩:∃ a,l[k]?=X a:=⟨_,aM hk⟩;obtain⟨h1,h2,h3⟩:=mV mt e t R h0 hR k (by omega) (o0:=o0);rw [pX _ _ ha];exact⟨h1.step _ _ _,Vt _ _ _ R h2 (hR a (List.mem_of_getElem? ha)),aG (Vu _ _ _) (by omega)⟩
def gL (near:List Int) (but kind:Int) (t x:Id) (p:List C5):List Ou:=(near.filter fun n=>n != but).map fun n=>⟨n,kind,t,x,p⟩
abbrev Ba (x:Id) (o:Ow):En:=⟨x,o.id,o.p,-1,aJ⟩
abbrev nX (f:Int) (x:Id) (p:List C5) (s:Br×List Ou) (o:Ow):Br×List Ou:=gV s (kH o.p p) (Ba x o) f
def lH (b:Br) (f:Int) (x:Id) (p:List C5):Br×List Ou:=if (fJ b ⟨x,p,f⟩).2=aJ then ((fJ b ⟨x,p,f⟩).1,[]) else
 fA (fJ b ⟨x,p,f⟩).1.own (nX f x p) ((fJ b ⟨x,p,f⟩).1,gL b.near f 1 x (0,0) p) (fJ b ⟨x,p,f⟩).1.own.length
abbrev oD (x:Id) (p:List C5) (a:Ad):En:=⟨a.id,x,p,-1,aJ⟩
abbrev jV (x:Id) (p:List C5) (s:Br×List Ou) (a:Ad):Br×List Ou:=gV s (kH p a.p) (oD x p a) a.par
def ownIn (b:Br) (x:Id) (p:List C5):Br:={ b with own:=fV b.own (fO (b.own.map Ow.id) x) ⟨x,p⟩ }
def kX (b:Br) (x:Id) (p:List C5):Br×List Ou:=if (b.own[fO (b.own.map Ow.id) x]?).map Ow.id=X x then (b,[]) else
 fA b.dQ (jV x p) (ownIn b x p,[]) b.dQ.length
theorem kC (b:Br) (a:Ad):(fJ b a).1.me=b.me/\(fJ b a).1.near=b.near/\(fJ b a).1.ent=b.ent/\(fJ b a).1.own=b.own:=by
 unfold fJ
 split <;> exact⟨rfl,rfl,rfl,rfl⟩
theorem Eo (b:Br) (a:Ad):(fJ b a).1.dQ.length<=b.dQ.length+1/\(fJ b a).1.seen.length<=b.seen.length+1:=by
 unfold fJ
 split
 ·exact⟨aR _,aR _⟩
 ·constructor <;> (show (fV _ _ _).length<=_; unfold fV; rw [aW,aW,bN,bO]; simp; omega)
theorem Ep {W:aH} {near:List Int} {f k:Int} {t x:Id} {pv:Sl} {p:List C5} (hp:gu W (dU pv) p):eH (tY W) (mO near f fun n=>(n,k,t.1,t.2,x.1,x.2,pv,(Y,0,0))) (gL near f k t x p):=by
 unfold mO gL
 induction near.filter (fun n=>n != f) with
 | nil=>exact .nil
 | cons a l ih=>exact .cons ⟨rfl,rfl,rfl,rfl,hp,rfl⟩ ih
def uV (B:Nat) (bv:aQ) (f c d:Int) (l:List Int) (i:Nat) (v:aQ) (x:aH):Prop :=
 match i with
 | 0=>v=bv
 | 1=>v=bv
 | 2=>v=O V f
 | 3=>v=mY (c,d)
 | 4=>v=aZ #[O V 2,O V c,O V d,O V 0,O V 0,J Y 0 0,J Y 0 0]
 | 5=>∃ sl:Sl,v=dU sl/\jB x B v (mO l f fun n=>(n,2,c,d,0,0,(Y,0,0),(Y,0,0)))
 | _=>True
noncomputable def N7:Code:=((Tryz.f62.body.bind (eP 4)).getD .skip)
theorem Vv (Q:Exit->Act->aH->Prop) (W:aH) (b3 b5 b6:Nat) (me f c d:Int) (o1 o2 o3 o4 o5:Option bZ) (n1 c1 n2 c2 n3 c3 n4 c4 n5 c5:Nat) (l:List Int) (z0 z1 z2 z3 z4 z5:aQ) (u0 u2 u4 u7 u8 u9 u10 u11 u12 u13 u14 u15 u16 u17 u18 u19 u20 u21 u22 u23 u24:aQ)
  (h3:dN W b3 #[O V me,J o1 n1 c1,J o2 n2 c2,J o3 n3 c3,J o4 n4 c4,J o5 n5 c5] 33) (h5:dN W b5 #[O V c,O V d] 38) (h6:dN W b6 #[z0,z1,z2,z3,z4,z5] 33) (hl:qI W (J o1 n1 c1) l) (hlen:l.length<=900)
  (hQ:∀ (a:Act) (x:aH) (sl:Sl),a.defers=[]->a.tmps[6]?=X (ay (X ⟨b6,0,Y⟩))->a.tmps[7]?=X (dU sl)->dN x b6 #[O V me,J o1 n1 c1,J o2 n2 c2,J o3 n3 c3,J o4 n4 c4,J o5 n5 c5] 33->jB x W.heap.size (dU sl) (mO l f fun n=>(n,2,c,d,0,0,(Y,0,0),(Y,0,0)))->(∀ k,k<W.heap.size->k≠b6->x.heap[k]?=W.heap[k]?)->(∀ B,B<=b6->Below B W x)->Q .normal a x) :
  Code.wp ah N7 Q ⟨(u0::O V f::u2::ay (X ⟨b3,0,Y⟩)::u4::ay (X ⟨b5,0,Y⟩)::ay (X ⟨b6,0,Y⟩)::u7::u8::u9::u10::u11::u12::u13::u14::u15::u16::u17::u18::u19::u20::u21::u22::u23::u24::[]).toArray,[]⟩ W:=by
 have HQ:=L hQ;have H3:=L h3;have H5:=L h5;have H6:=L h6;have HL:=L hl;have LL:=L hlen;clear hQ h3 h5 h6 hl hlen;have iN:∀ (j:Nat) (u:aQ) (x x':aH),j<6->uV W.heap.size (aZ #[O V me,J o1 n1 c1,J o2 n2 c2,J o3 n3 c3,J o4 n4 c4,J o5 n5 c5]) f c d l j u x->Below x.heap.size x x'->uV W.heap.size (aZ #[O V me,J o1 n1 c1,J o2 n2 c2,J o3 n3 c3,J o4 n4 c4,J o5 n5 c5]) f c d l j u x':=by
  intro i u x x' hi h hb;rcases (by omega:i=0\/i=1\/i=2\/i=3\/i=4\/i=5) with rfl|rfl|rfl|rfl|rfl|rfl
  ·exact h
  ·exact h
  ·exact h
  ·exact h
  ·exact h
  ·obtain⟨sl,h1,h2⟩:=h;exact⟨sl,h1,dG h2 hb⟩
 unfold N7
 conv=>arg 2; whnf
 have nd:∀ j,(j<19\/25<=j)->∀ i,i<6->(fun i=>19+i) i≠j:=by
  intro j hj i hi h;simp only at h;omega
 refine Rg.fM 8 6 (fun i=>19+i) (fun _=>6) (uV W.heap.size (aZ #[O V me,J o1 n1 c1,J o2 n2 c2,J o3 n3 c3,J o4 n4 c4,J o5 n5 c5]) f c d l) (by kernel_rfl) (by kernel_rfl) rfl (by decide) (fun i j _ _ h=>by have h2:19+i=19+j:=h; omega) (fun i hi=>by show 19+i<25; omega) ?_ (fun _=>Rg.jq 3 (by kernel_rfl)) ?_ ?_
 ·intro i o hi ho a x D hnd hc hD hb seen K hK;clear HQ;rcases (by omega:i=0\/i=1\/i=2\/i=3\/i=4\/i=5) with rfl|rfl|rfl|rfl|rfl|rfl
  ·cases ho;have e3:a.eval (aA 3)=ay (X ⟨b3,0,Y⟩):=seen.kp 3 _ (nd 3 (by omega)) rfl;exact Rg.dD rfl rfl (Rg.dZ a.eval _ 33 (aA 3) rfl (by rw [e3]; exact vP (H3.out.on hb))) (hK _ _ rfl (Z _ _) fun _ _ _ _ _ _ _ h=>h)
  ·cases ho;have e3:a.eval (aA 3)=ay (X ⟨b3,0,Y⟩):=seen.kp 3 _ (nd 3 (by omega)) rfl;exact Rg.dD rfl rfl (Rg.dZ a.eval _ 33 (aA 3) rfl (by rw [e3]; exact vP (H3.out.on hb))) (hK _ _ rfl (Z _ _) fun _ _ _ _ _ _ _ h=>h)
  ·cases ho;have e1:a.eval (aA 1)=O V f:=seen.kp 1 _ (nd 1 (by omega)) rfl;exact Rg.dD rfl rfl (Rg.fQ a.eval _ (aA 1) rfl x) (hK _ _ e1 (Z _ _) fun _ _ _ _ _ _ _ h=>h)
  ·cases ho;have e5:a.eval (aA 5)=ay (X ⟨b5,0,Y⟩):=seen.kp 5 _ (nd 5 (by omega)) rfl;exact Rg.dD rfl rfl (Rg.dZ a.eval _ 38 (aA 5) rfl (by rw [e5]; exact Dl x _ (c,d) (Nh (H5.out.on hb)))) (hK _ _ rfl (Z _ _) fun _ _ _ _ _ _ _ h=>h)
  ·cases ho;have e22:a.eval (aA 22)=mY (c,d):=seen.at_ ⟨3,.data⟩ (by simp) rfl (aN (by decide));exact Rg.dD rfl rfl (Rg.iW a.eval _ 43 #[(0,.const (O V 2)),(1,aA 22)] rfl (ps:=#[(0,O V 2),(1,mY (c,d))]) (by simp only [bM,bI,bW,e22]; rfl) (by simp [go_sem])) (hK _ _ rfl (Z _ _) fun _ _ _ _ _ _ _ h=>h)
  ·cases ho;have e20:a.eval (aA 20)=aZ #[O V me,J o1 n1 c1,J o2 n2 c2,J o3 n3 c3,J o4 n4 c4,J o5 n5 c5]:=seen.at_ ⟨1,.data⟩ (by simp) rfl (aN (by decide));have e21:a.eval (aA 21)=O V f:=seen.at_ ⟨2,.data⟩ (by simp) rfl (aN (by decide));have e23:a.eval (aA 23)=aZ #[O V 2,O V c,O V d,O V 0,O V 0,J Y 0 0,J Y 0 0]:=seen.at_ ⟨4,.data⟩ (by simp) rfl (aN (by decide));exact Rg.gH rfl rfl (yh a.eval _ (aA 20) (aA 21) (aA 23) 33 3 43 61 rfl e20 e21 e23 rfl _ (fT Tryz.func61 rfl rfl _ _)) (Ah me f 2 c d 0 0 (o1,n1,c1) _ _ _ _ (Y,0,0) (Y,0,0) l x (HL.out.on hb) LL.out) fun e w1 h=>by
    obtain⟨⟨v,rfl,h1⟩,h3⟩:=h;exact⟨_,rfl,hK _ _ ⟨v,rfl,dJ h1 hb.size⟩ (h3.mono hb.size) fun j u hj _ _ _ hne h=>iN j u _ _ (by omega) h h3⟩
 ·intro kk o h1 h2 ho;obtain rfl:kk=7:=by omega
  cases ho;exact⟨⟨6,.chain⟩,by simp,rfl,rfl⟩
 ·intro a w' df sz kp ⟨vs,hv⟩ hb;have g19:a.tmps[19]?=X (aZ #[O V me,J o1 n1 c1,J o2 n2 c2,J o3 n3 c3,J o4 n4 c4,J o5 n5 c5]):=by
   have h:vs 0=aZ #[O V me,J o1 n1 c1,J o2 n2 c2,J o3 n3 c3,J o4 n4 c4,J o5 n5 c5]:=(hv 0 (by omega)).2 (by decide);rw [<- h];exact (hv 0 (by omega)).1
  obtain⟨sl,hsl,ho⟩:=(hv 5 (by omega)).2 (by decide);have g24:a.tmps[24]?=X (dU sl):=by
   rw [<- hsl];exact (hv 5 (by omega)).1
  rw [hsl] at ho;have g6:a.tmps[6]?=X (ay (X ⟨b6,0,Y⟩)):=(kp 6 (nd 6 (by omega))).trans rfl;have sz':a.tmps.size=25:=sz;have H6':=H6.out.on hb;have lt6:=H6.out.lt;show Rg.fF _ _ _ 2 6 a w';simp only [Rg.fF];refine Rg.fP 33 (aA 6) (aA 19) rfl rfl rfl rfl (Rg.dK g6) (Rg.dK g19) (w':=gY w' b6 (O V me) (J o1 n1 c1) (J o2 n2 c2) (J o3 n3 c3) (J o4 n4 c4) (J o5 n5 c5)) (sK H6' me _ _ _ _ _ _ _ _ _ _ _ _ _ _ _) ?_;refine Rg.dD rfl rfl (Rg.jM a.eval _ (aA 24) rfl _) ?_;rw [Rg.dK g24];refine HQ.out _ _ sl df ((Rg.get_put a 7 (dU sl) 6 (by decide)).trans g6) ?_ (dM H6' _ _ _ _ _ _) (fC ho b6 lt6 _ _ _ _ _ _) ?_ ?_
  ·have:7<a.tmps.size:=by omega
   show (a.put (X 7) (dU sl)).tmps[7]?=_;simp [Act.put,this]
  ·intro k hk hne;exact (dL w' b6 (O V me) (J o1 n1 c1) (J o2 n2 c2) (J o3 n3 c3) (J o4 n4 c4) (J o5 n5 c5) k hne).trans (hb.block k hk)
  ·exact fun B hB=>dI (hb.mono (bJ (Nat.lt_of_le_of_lt hB lt6))) hB _ _ _ _ _ _
def Bb (b:Br) (f:Int) (x:Id):List qd:=if (ig b x f).2=aT then mO b.near f (fun n=>(n,2,x.1,x.2,0,0,(Y,0,0),(Y,0,0))) else []
theorem kR (b:Br) (x:Id) (f:Int):(ig b x f).1.near=b.near/\(ig b x f).1.me=b.me:=by
 unfold ig
 split
 ·exact⟨rfl,rfl⟩
 ·split
  ·exact⟨rfl,rfl⟩
  ·split <;> exact⟨rfl,rfl⟩
theorem Ma (b:Br) (nv av sv ev ov:Sl) (x:Id) (f:Int) (w:aH) (h:iI w b nv av sv ev ov) (l1:b.near.length<=900) (l2:b.dQ.length<=900) (l3:b.ent.length<=900) :
  bF ah 62 #[mJ b.me nv av sv ev ov,O V f,mY x] w fun e w'=>(∃ zx ev' sl:Sl,e=aO (.tuple #[mJ b.me nv zx sv ev' ov,dU sl])/\iI w' (ig b x f).1 nv zx sv ev' ov/\Qh w' (dU sl) (Bb b f x))/\Below w.heap.size w w':=by
 obtain⟨no,nn,nc⟩:=nv;obtain⟨ao,an,ac⟩:=av;obtain⟨so,sn,sc⟩:=sv;obtain⟨eo,en,ec⟩:=ev;obtain⟨oo,eB,oc⟩:=ov;obtain⟨c,d⟩:=x;have FG:=L (fun W hb'=>H9 b (no,nn,nc) (ao,an,ac) (so,sn,sc) (eo,en,ec) (oo,eB,oc) (c,d) f W (h.on (show Below w.heap.size w W from hb')) l2 l3);have xI:=L h.near;have L1:=L l1;obtain⟨h0,h1,h2,h3⟩:=gX w #[O V b.me,J no nn nc,J ao an ac,J so sn sc,J eo en ec,J oo eB oc] #[O V c,O V d] #[O V 0,J Y 0 0,J Y 0 0,J Y 0 0,J Y 0 0,J Y 0 0] 33 38 33;obtain⟨me,hme⟩:∃ me,me=b.me:=⟨_,rfl⟩;simp only [<- hme] at h0 h1 h2 h3 FG ⊢;have B0:=L h0;have X2:=L h1;have X3:=L h2;have X5:=L h3;clear h0 h1 h2 h3 h l1 l2 l3 hme;show bF ah 62 #[aZ #[O V me,J no nn nc,J ao an ac,J so sn sc,J eo en ec,J oo eB oc],O V f,aZ #[O V c,O V d]] w _;go_enter Tryz.func62,Tryz.ntmps62;go_upto_region 1 with fail;generalize (((w.alloc (aB #[O V me,J no nn nc,J ao an ac,J so sn sc,J eo en ec,J oo eB oc] 33)).alloc (aB #[O V c,O V d] 38)).alloc (aB #[O V 0,J Y 0 0,J Y 0 0,J Y 0 0,J Y 0 0,J Y 0 0] 33))=W at *;have SW:=L (FG.out W B0.out);have x_:=X2.out;have y_:=X3.out;obtain⟨x0,x1,x2,x3,x4,x5⟩:=x_.fB;obtain⟨y0,y1⟩:=y_.cs2;clear x_ y_ FG;go_wp2_with fail;refine SW.out.mono ?_;rintro e1 w1 ⟨⟨⟨Oa,lg,lC⟩,⟨Ob,iL,iM⟩,rfl,hbr⟩,hb⟩;obtain⟨fb,Lg⟩:∃ r,(ig b (c,d) f).2=r:=⟨_,rfl⟩;have LB:=L Lg;rw [Lg];have B1:=L (B0.out.trans (hb.mono B0.out.size));have Y2:=X2.out.on hb;have Y3:=X3.out.on hb;have Y5:=X5.out.on hb;obtain⟨k0,k1,k2,k3,k4,k5⟩:=Y2.fB;obtain⟨t0,t1,t2,t3,t4,t5⟩:=Y2.kJ;have zz:=Y2.lt;have FB:=L (dM Y2 (O V me) (J no nn nc) (J Oa lg lC) (J so sn sc) (J Ob iL iM) (J oo eB oc));have B2:=L (dI (b:=w.heap.size) B1.out (aD _) (O V me) (J no nn nc) (J Oa lg lC) (J so sn sc) (J Ob iL iM) (J oo eB oc));have F3:=L (show dN _ _ _ _ from (dL w1 w.heap.size (O V me) (J no nn nc) (J Oa lg lC) (J so sn sc) (J Ob iL iM) (J oo eB oc) (w.heap.size+1) (by omega)).trans Y3);have F5:=L (show dN _ _ _ _ from (dL w1 w.heap.size (O V me) (J no nn nc) (J Oa lg lC) (J so sn sc) (J Ob iL iM) (J oo eB oc) (w.heap.size+1+1) (by omega)).trans Y5);have HB:=L (fD (s1:=(no,nn,nc)) (s2:=(ao,an,ac)) (s3:=(so,sn,sc)) (s4:=(eo,en,ec)) (s5:=(oo,eB,oc)) hbr Y2 (fun j _ hj=>dL w1 w.heap.size (O V me) (J no nn nc) (J Oa lg lC) (J so sn sc) (J Ob iL iM) (J oo eB oc) j hj) (by rw [(kR b (c,d) f).1]; exact xI.out.on B2.out));clear Lg hbr hb SW X2 X3 X5 B1 Y2 Y3 Y5 x0 x1 x2 x3 x4 x5 y0 y1;go_upto_region 2 with fail;clear zz k0 k1 k2 k3 k4 k5 t0 t1 t2 t3 t4 t5;unfold gY at FB B2 F3 F5 HB;generalize ((((((w1.setCell ⟨w.heap.size,0,Y⟩ (O V me)).setCell ⟨w.heap.size,1,Y⟩ (J no nn nc)).setCell ⟨w.heap.size,2,Y⟩ (J Oa lg lC)).setCell ⟨w.heap.size,3,Y⟩ (J so sn sc)).setCell ⟨w.heap.size,4,Y⟩ (J Ob iL iM)).setCell ⟨w.heap.size,5,Y⟩ (J oo eB oc))=w2 at *;cases fb
 ·have x_:=FB.out;have r_:=F5.out;obtain⟨x0,x1,x2,x3,x4,x5⟩:=x_.fB;obtain⟨r0,r1,r2,r3,r4,r5⟩:=r_.fB;obtain⟨t0,t1,t2,t3,t4,t5⟩:=r_.kJ;have zz:=r_.lt;have GB:=L (dM r_ (O V me) (J no nn nc) (J Oa lg lC) (J so sn sc) (J Ob iL iM) (J oo eB oc));have BL:=L (dI (b:=w.heap.size+1+1) B2.out (by omega) (O V me) (J no nn nc) (J Oa lg lC) (J so sn sc) (J Ob iL iM) (J oo eB oc));have HC:=L (fD (s1:=(Y,0,0)) (s2:=(Y,0,0)) (s3:=(Y,0,0)) (s4:=(Y,0,0)) (s5:=(Y,0,0)) HB.out r_ (fun j _ hj=>dL w2 (w.heap.size+1+1) (O V me) (J no nn nc) (J Oa lg lC) (J so sn sc) (J Ob iL iM) (J oo eB oc) j hj) (by rw [(kR b (c,d) f).1]; exact xI.out.on BL.out));clear x_ r_ HB FB F3 F5;go_wp2_with fail;obtain⟨v0,v1,v2,v3,v4,v5⟩:=GB.out.fB;refine aI (v:=.tuple #[aZ #[O V me,J no nn nc,J Oa lg lC,J so sn sc,J Ob iL iM,J oo eB oc],J Y 0 0]) (by simp [results,bS,go_sem,v0,v1,v2,v3,v4,v5]) rfl ?_;exact⟨⟨(Oa,lg,lC),(Ob,iL,iM),(Y,0,0),rfl,HC.out,by unfold Bb; rw [LB.out]; exact Or.inl ⟨rfl,rfl⟩⟩,BL.out⟩
 ·go_upto_region 4 with fail;refine Vv _ w2 w.heap.size (w.heap.size+1) (w.heap.size+1+1) me f c d no Oa so Ob oo nn nc lg lC sn sc iL iM eB oc b.near _ _ _ _ _ _ _ _ _ _ _ _ _ _ _ _ _ _ _ _ _ _ _ _ _ _ _ FB.out F3.out F5.out (xI.out.on B2.out) L1.out ?_;intro a9 x9 sl II h69 h79 hbx ho hblk hbl;have BL:=L (B2.out.trans (hbl w.heap.size (by omega)));have HC:=L (fD (s1:=(Y,0,0)) (s2:=(Y,0,0)) (s3:=(Y,0,0)) (s4:=(Y,0,0)) (s5:=(Y,0,0)) HB.out F5.out (fun j hlt hj=>hblk j hlt hj) (by rw [(kR b (c,d) f).1]; exact xI.out.on BL.out));have HU:=L (aV ho);have afQ:=hbx;obtain⟨v0,v1,v2,v3,v4,v5⟩:=afQ.fB;clear afQ hbx ho hblk hbl HB FB F3 F5;simp only [Exit.then]
  apply_assumption
  go_wp2_with fail;refine aI (v:=.tuple #[aZ #[O V me,J no nn nc,J Oa lg lC,J so sn sc,J Ob iL iM,J oo eB oc],dU sl]) (by simp [results,bS,go_sem,h69,h79,v0,v1,v2,v3,v4,v5]) II ?_;exact⟨⟨(Oa,lg,lC),(Ob,iL,iM),sl,rfl,HC.out,by unfold Bb; rw [LB.out]; exact HU.out⟩,BL.out⟩
end Bk
end Go.Proofs.YtkcfgbddlpomgaaGreat
