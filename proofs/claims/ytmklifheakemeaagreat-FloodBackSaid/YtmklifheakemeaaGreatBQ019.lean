/-
  sub of broadsideref9. Conditions as told.
-/
import Derived.Test.YtmklifheakemeaaGreatBQ016
import Derived.Test.YtmklifheakemeaaGreatBQ018
set_option maxRecDepth 100000
set_option maxHeartbeats 64000000
open _root_.Go renaming World->ak,Value->aB,Calls->aK
open Go.Builtin renaming copy_->aA,append_->aJ
open Go.Ending renaming returned->aC
open Go.Instr renaming sliceAt->Z
open Go.IntKind renaming i64->U,wrap_i64->aI
open Go.Lib renaming hid->X
open Go.Obj renaming cells->ah
open Go.Operand renaming tmp->ay
open Go.Proofs.Tryz renaming prog->V,ntmps147->aF,func147->aH,results15->aL
open Go.RowKit.Below renaming refl->aj
open Go.Value renaming slice->J,int->O,pointer->au,agg->aG,bool->aN
open _root_.Nat renaming le_refl->aD,lt_or_ge->aM
open _root_.Option renaming none->L,some->Y
namespace Go.Proofs.YtmklifheakemeaaGreat
namespace Bk
open Go.RowKit Go.Sort Rw YtmklifheakemeaaGreat.Nm Pr
abbrev Hl (W:ak) (b:Nat) (a0 a1 a2 a3 a4 a5 a6:aB):ak:=((((((W.setCell ⟨b,0,L⟩ a0).setCell ⟨b,1,L⟩ a1).setCell ⟨b,2,L⟩ a2).setCell ⟨b,3,L⟩ a3).setCell ⟨b,4,L⟩ a4).setCell ⟨b,5,L⟩ a5).setCell ⟨b,6,L⟩ a6
theorem xM {W:ak} {b:Nat} {t:TypeId} {z0 z1 z2 z3 z4 z5 z6:aB} (h:dJ W b #[z0,z1,z2,z3,z4,z5,z6] t) (a0 a1 a2 a3 a4 a5 a6:aB):dJ (Hl W b a0 a1 a2 a3 a4 a5 a6) b #[a0,a1,a2,a3,a4,a5,a6] t:=by
 have h2:=dR (k:=6) (dR (k:=5) (dR (k:=4) (dR (k:=3) (dR (k:=2) (dR (k:=1) (dR (k:=0) h a0) a1) a2) a3) a4) a5) a6;simp only [List.setIfInBounds_toArray,List.set_cons_zero,List.set_cons_succ] at h2;exact h2
theorem ze (z:iL) (w:ak):aK V 48 #[rV z] w fun e w'=>e=aC (aG #[O U 3,O U z.1,O U z.2.1,O U z.2.2.1,O U z.2.2.2.1,dX z.2.2.2.2.1,J L 0 0])/\Below w.heap.size w w':=by
 obtain⟨c,d,g,h,⟨po,pn,pc⟩,fr,up⟩:=z;obtain⟨h0,h1,h2⟩:=gY w #[O U c,O U d,O U g,O U h,J po pn pc,O U fr,aN up] #[O U 0,O U 0,O U 0,O U 0,O U 0,J L 0 0,J L 0 0] 66 41;obtain⟨x0,x1,x2,x3,x4,x5,x6⟩:=h1.oJ;obtain⟨r0,r1,r2,r3,r4,r5,r6⟩:=h2.oJ;obtain⟨t0,t1,t2,t3,t4,t5,t6⟩:=h2.fs7;have zz:=h2.lt;have FB:=X (xM h2 (O U 3) (O U c) (O U d) (O U g) (O U h) (J po pn pc) (J L 0 0));have BL:=X ((((((((h0.setCell (p:=⟨w.heap.size+1,0,L⟩) (by show w.heap.size<=w.heap.size+1; omega) (O U 3)).setCell (p:=⟨w.heap.size+1,1,L⟩) (by show w.heap.size<=w.heap.size+1; omega) (O U c)).setCell (p:=⟨w.heap.size+1,2,L⟩) (by show w.heap.size<=w.heap.size+1; omega) (O U d)).setCell (p:=⟨w.heap.size+1,3,L⟩) (by show w.heap.size<=w.heap.size+1; omega) (O U g)).setCell (p:=⟨w.heap.size+1,4,L⟩) (by show w.heap.size<=w.heap.size+1; omega) (O U h)).setCell (p:=⟨w.heap.size+1,5,L⟩) (by show w.heap.size<=w.heap.size+1; omega) (J po pn pc)).setCell (p:=⟨w.heap.size+1,6,L⟩) (by show w.heap.size<=w.heap.size+1; omega) (J L 0 0)));clear h0 h1 h2;show aK V 48 #[aG #[O U c,O U d,O U g,O U h,J po pn pc,O U fr,aN up]] w _;go_enter Tryz.func48,Tryz.ntmps48;go_upto_region 1 with fail;generalize (w.alloc (ah #[O U c,O U d,O U g,O U h,J po pn pc,O U fr,aN up] 66)).alloc (ah #[O U 0,O U 0,O U 0,O U 0,O U 0,J L 0 0,J L 0 0] 41)=W at *;go_wp2_with fail;obtain⟨v0,v1,v2,v3,v4,v5,v6⟩:=FB.out.oJ;refine bodyPost_ret (v:=aG #[O U 3,O U c,O U d,O U g,O U h,J po pn pc,J L 0 0]) (by simp [results,Tryz.results48,go_sem,v0,v1,v2,v3,v4,v5,v6]) rfl ?_;exact⟨rfl,BL.out⟩
end Bk
namespace Av
open Go.RowKit Go.Sort Rw YtmklifheakemeaaGreat.Nm Pr Bk
end Av
namespace Av
open Go.RowKit Go.Sort Rw YtmklifheakemeaaGreat.Nm Pr Bk
end Av
namespace Rl
open Go.RowKit Pu Rw Pr Va
end Rl
namespace Bk
open Go.RowKit Go.Sort Rw YtmklifheakemeaaGreat.Nm Pr
def uV (B:Nat) (bv:aB) (f c d:Int) (l:List Int) (i:Nat) (v:aB) (x:ak):Prop :=
 match i with
 | 0=>v=bv
 | 1=>v=bv
 | 2=>v=O U f
 | 3=>v=mZ (c,d)
 | 4=>v=aG #[O U 2,O U c,O U d,O U 0,O U 0,J L 0 0,J L 0 0]
 | 5=>∃ sl:Sl,v=dX sl/\jK x B v (lU l f fun n=>(n,2,c,d,0,0,(L,0,0),(L,0,0)))
 | _=>True
noncomputable def MH:Code:=((Tryz.f15.body.bind (eT 4)).getD .skip)
theorem Tc (Q:Exit->Act->ak->Prop) (W:ak) (b3 b5 b6:Nat) (me f c d:Int) (o1 o2 o3 o4 o5:Option Addr) (n1 c1 n2 c2 n3 c3 n4 c4 n5 c5:Nat) (l:List Int) (z0 z1 z2 z3 z4 z5:aB) (u0 u2 u4 u7 u8 u9 u10 u11 u12 u13 u14 u15 u16 u17 u18 u19 u20 u21 u22 u23 u24:aB)
  (h3:dJ W b3 #[O U me,J o1 n1 c1,J o2 n2 c2,J o3 n3 c3,J o4 n4 c4,J o5 n5 c5] 28) (h5:dJ W b5 #[O U c,O U d] 31) (h6:dJ W b6 #[z0,z1,z2,z3,z4,z5] 28) (hl:qA W (J o1 n1 c1) l) (hlen:l.length<=900)
  (hQ:∀ (a:Act) (x:ak) (sl:Sl),a.defers=[]->a.tmps[6]?=Y (au (Y ⟨b6,0,L⟩))->a.tmps[7]?=Y (dX sl)->dJ x b6 #[O U me,J o1 n1 c1,J o2 n2 c2,J o3 n3 c3,J o4 n4 c4,J o5 n5 c5] 28->jK x W.heap.size (dX sl) (lU l f fun n=>(n,2,c,d,0,0,(L,0,0),(L,0,0)))->(∀ k,k<W.heap.size->k≠b6->x.heap[k]?=W.heap[k]?)->(∀ B,B<=b6->Below B W x)->Q .normal a x) :
  Code.wp V MH Q ⟨(u0::O U f::u2::au (Y ⟨b3,0,L⟩)::u4::au (Y ⟨b5,0,L⟩)::au (Y ⟨b6,0,L⟩)::u7::u8::u9::u10::u11::u12::u13::u14::u15::u16::u17::u18::u19::u20::u21::u22::u23::u24::[]).toArray,[]⟩ W:=by
 have HQ:=X hQ;have H3:=X h3;have H5:=X h5;have H6:=X h6;have HL:=X hl;have LL:=X hlen;clear hQ h3 h5 h6 hl hlen;have iT:∀ (j:Nat) (u:aB) (x x':ak),j<6->uV W.heap.size (aG #[O U me,J o1 n1 c1,J o2 n2 c2,J o3 n3 c3,J o4 n4 c4,J o5 n5 c5]) f c d l j u x->Below x.heap.size x x'->uV W.heap.size (aG #[O U me,J o1 n1 c1,J o2 n2 c2,J o3 n3 c3,J o4 n4 c4,J o5 n5 c5]) f c d l j u x':=by
  intro i u x x' hi h hb;rcases (by omega:i=0\/i=1\/i=2\/i=3\/i=4\/i=5) with rfl|rfl|rfl|rfl|rfl|rfl
  ·exact h
  ·exact h
  ·exact h
  ·exact h
  ·exact h
  ·obtain⟨sl,h1,h2⟩:=h;exact⟨sl,h1,dI h2 hb⟩
 unfold MH
 conv=>arg 2; whnf
 have nd:∀ j,(j<19\/25<=j)->∀ i,i<6->(fun i=>19+i) i≠j:=by
  intro j hj i hi h;simp only at h;omega
 refine Rg.fT 8 6 (fun i=>19+i) (fun _=>6) (uV W.heap.size (aG #[O U me,J o1 n1 c1,J o2 n2 c2,J o3 n3 c3,J o4 n4 c4,J o5 n5 c5]) f c d l) (by kernel_rfl) (by kernel_rfl) rfl (by decide) (fun i j _ _ h=>by have h2:19+i=19+j:=h; omega) (fun i hi=>by show 19+i<25; omega) ?_ (fun _=>Rg.jk 3 (by kernel_rfl)) ?_ ?_
 ·intro i o hi ho a x D hnd hc hD hb seen K hK;clear HQ;rcases (by omega:i=0\/i=1\/i=2\/i=3\/i=4\/i=5) with rfl|rfl|rfl|rfl|rfl|rfl
  ·cases ho;have e3:a.eval (ay 3)=au (Y ⟨b3,0,L⟩):=seen.kp 3 _ (nd 3 (by omega)) rfl;exact Rg.dD rfl rfl (Rg.dW a.eval _ 28 (ay 3) rfl (by rw [e3]; exact vk (H3.out.on hb))) (hK _ _ rfl (aj _ _) fun _ _ _ _ _ _ _ h=>h)
  ·cases ho;have e3:a.eval (ay 3)=au (Y ⟨b3,0,L⟩):=seen.kp 3 _ (nd 3 (by omega)) rfl;exact Rg.dD rfl rfl (Rg.dW a.eval _ 28 (ay 3) rfl (by rw [e3]; exact vk (H3.out.on hb))) (hK _ _ rfl (aj _ _) fun _ _ _ _ _ _ _ h=>h)
  ·cases ho;have e1:a.eval (ay 1)=O U f:=seen.kp 1 _ (nd 1 (by omega)) rfl;exact Rg.dD rfl rfl (Rg.gq a.eval _ (ay 1) rfl x) (hK _ _ e1 (aj _ _) fun _ _ _ _ _ _ _ h=>h)
  ·cases ho;have e5:a.eval (ay 5)=au (Y ⟨b5,0,L⟩):=seen.kp 5 _ (nd 5 (by omega)) rfl;exact Rg.dD rfl rfl (Rg.dW a.eval _ 31 (ay 5) rfl (by rw [e5]; exact CX x _ (c,d) (Mv (H5.out.on hb)))) (hK _ _ rfl (aj _ _) fun _ _ _ _ _ _ _ h=>h)
  ·cases ho;have e22:a.eval (ay 22)=mZ (c,d):=seen.at_ ⟨3,.data⟩ (by simp) rfl (Or.inr (by decide));exact Rg.dD rfl rfl (Rg.jP a.eval _ 41 #[(0,.const (O U 2)),(1,ay 22)] rfl (ps:=#[(0,O U 2),(1,mZ (c,d))]) (by simp only [List.map_toArray,List.map_cons,List.map_nil,e22]; rfl) (by simp [go_sem])) (hK _ _ rfl (aj _ _) fun _ _ _ _ _ _ _ h=>h)
  ·cases ho;have e20:a.eval (ay 20)=aG #[O U me,J o1 n1 c1,J o2 n2 c2,J o3 n3 c3,J o4 n4 c4,J o5 n5 c5]:=seen.at_ ⟨1,.data⟩ (by simp) rfl (Or.inr (by decide));have e21:a.eval (ay 21)=O U f:=seen.at_ ⟨2,.data⟩ (by simp) rfl (Or.inr (by decide));have e23:a.eval (ay 23)=aG #[O U 2,O U c,O U d,O U 0,O U 0,J L 0 0,J L 0 0]:=seen.at_ ⟨4,.data⟩ (by simp) rfl (Or.inr (by decide));exact Rg.gT rfl rfl (xE a.eval _ (ay 20) (ay 21) (ay 23) 28 3 41 41 rfl e20 e21 e23 rfl _ (gD Tryz.func41 rfl rfl _ _)) (zQ me f 2 c d 0 0 (o1,n1,c1) _ _ _ _ (L,0,0) (L,0,0) l x (HL.out.on hb) LL.out) fun e w1 h=>by
    obtain⟨⟨v,rfl,h1⟩,h3⟩:=h;exact⟨_,rfl,hK _ _ ⟨v,rfl,dN h1 hb.size⟩ (h3.mono hb.size) fun j u hj _ _ _ hne h=>iT j u _ _ (by omega) h h3⟩
 ·intro kk o h1 h2 ho;obtain rfl:kk=7:=by omega
  cases ho;exact⟨⟨6,.chain⟩,by simp,rfl,rfl⟩
 ·intro a w' df sz kp ⟨vs,hv⟩ hb;have g19:a.tmps[19]?=Y (aG #[O U me,J o1 n1 c1,J o2 n2 c2,J o3 n3 c3,J o4 n4 c4,J o5 n5 c5]):=by
   have h:vs 0=aG #[O U me,J o1 n1 c1,J o2 n2 c2,J o3 n3 c3,J o4 n4 c4,J o5 n5 c5]:=(hv 0 (by omega)).2 (by decide);rw [<- h];exact (hv 0 (by omega)).1
  obtain⟨sl,hsl,ho⟩:=(hv 5 (by omega)).2 (by decide);have g24:a.tmps[24]?=Y (dX sl):=by
   rw [<- hsl];exact (hv 5 (by omega)).1
  rw [hsl] at ho;have g6:a.tmps[6]?=Y (au (Y ⟨b6,0,L⟩)):=(kp 6 (nd 6 (by omega))).trans rfl;have sz':a.tmps.size=25:=sz;have H6':=H6.out.on hb;have lt6:=H6.out.lt;show Rg.fG _ _ _ 2 6 a w';simp only [Rg.fG];refine Rg.fQ 28 (ay 6) (ay 19) rfl rfl rfl rfl (Rg.dM g6) (Rg.dM g19) (w':=gF w' b6 (O U me) (J o1 n1 c1) (J o2 n2 c2) (J o3 n3 c3) (J o4 n4 c4) (J o5 n5 c5)) (pG H6' me _ _ _ _ _ _ _ _ _ _ _ _ _ _ _) ?_;refine Rg.dD rfl rfl (Rg.kI a.eval _ (ay 24) rfl _) ?_;rw [Rg.dM g24];refine HQ.out _ _ sl df ((Rg.get_put a 7 (dX sl) 6 (by decide)).trans g6) ?_ (dL H6' _ _ _ _ _ _) (fP ho b6 lt6 _ _ _ _ _ _) ?_ ?_
  ·have:7<a.tmps.size:=by omega
   show (a.put (Y 7) (dX sl)).tmps[7]?=_;simp [Act.put,this]
  ·intro k hk hne;exact (dK w' b6 (O U me) (J o1 n1 c1) (J o2 n2 c2) (J o3 n3 c3) (J o4 n4 c4) (J o5 n5 c5) k hne).trans (hb.block k hk)
  ·exact fun B hB=>dG (hb.mono (Nat.le_of_lt (Nat.lt_of_le_of_lt hB lt6))) hB _ _ _ _ _ _
def zX (b:Br) (f:Int) (x:Id):List mh:=if (gZ b x f).2=true then lU b.near f (fun n=>(n,2,x.1,x.2,0,0,(L,0,0),(L,0,0))) else []
theorem kV (b:Br) (x:Id) (f:Int):(gZ b x f).1.near=b.near/\(gZ b x f).1.me=b.me:=by
 unfold gZ
 split
 ·exact⟨rfl,rfl⟩
 ·split
  ·exact⟨rfl,rfl⟩
  ·split <;> exact⟨rfl,rfl⟩
theorem Kw (b:Br) (nv av sv ev ov:Sl) (x:Id) (f:Int) (w:ak) (h:iZ w b nv av sv ev ov) (l1:b.near.length<=900) (l2:b.dQ.length<=900) (l3:b.ent.length<=900) :
  aK V 15 #[oK b.me nv av sv ev ov,O U f,mZ x] w fun e w'=>(∃ Cb ev' sl:Sl,e=aC (.tuple #[oK b.me nv Cb sv ev' ov,dX sl])/\iZ w' (gZ b x f).1 nv Cb sv ev' ov/\P8 w' (dX sl) (zX b f x))/\Below w.heap.size w w':=by
 obtain⟨no,nn,nc⟩:=nv;obtain⟨ao,an,ac⟩:=av;obtain⟨so,sn,sc⟩:=sv;obtain⟨eo,en,ec⟩:=ev;obtain⟨oo,dY,oc⟩:=ov;obtain⟨c,d⟩:=x;have FG:=X (fun W hb'=>Gv b (no,nn,nc) (ao,an,ac) (so,sn,sc) (eo,en,ec) (oo,dY,oc) (c,d) f W (h.on (show Below w.heap.size w W from hb')) l2 l3);have wW:=X h.near;have L1:=X l1;obtain⟨h0,h1,h2,h3⟩:=gJ w #[O U b.me,J no nn nc,J ao an ac,J so sn sc,J eo en ec,J oo dY oc] #[O U c,O U d] #[O U 0,J L 0 0,J L 0 0,J L 0 0,J L 0 0,J L 0 0] 28 31 28;obtain⟨me,hme⟩:∃ me,me=b.me:=⟨_,rfl⟩;simp only [<- hme] at h0 h1 h2 h3 FG ⊢;have B0:=X h0;have X2:=X h1;have X3:=X h2;have X5:=X h3;clear h0 h1 h2 h3 h l1 l2 l3 hme;show aK V 15 #[aG #[O U me,J no nn nc,J ao an ac,J so sn sc,J eo en ec,J oo dY oc],O U f,aG #[O U c,O U d]] w _;go_enter Tryz.func15,Tryz.ntmps15;go_upto_region 1 with fail;generalize (((w.alloc (ah #[O U me,J no nn nc,J ao an ac,J so sn sc,J eo en ec,J oo dY oc] 28)).alloc (ah #[O U c,O U d] 31)).alloc (ah #[O U 0,J L 0 0,J L 0 0,J L 0 0,J L 0 0,J L 0 0] 28))=W at *;have SW:=X (FG.out W B0.out);have x_:=X2.out;have y_:=X3.out;obtain⟨x0,x1,x2,x3,x4,x5⟩:=x_.fu;obtain⟨y0,y1⟩:=y_.cs2;clear x_ y_ FG;go_wp2_with fail;refine SW.out.mono ?_;rintro e1 w1 ⟨⟨⟨Cq,kJ,kM⟩,⟨EP,iA,iB⟩,rfl,hbr⟩,hb⟩;obtain⟨fb,Ky⟩:∃ r,(gZ b (c,d) f).2=r:=⟨_,rfl⟩;have LB:=X Ky;rw [Ky];have B1:=X (B0.out.trans (hb.mono B0.out.size));have Y2:=X2.out.on hb;have Y3:=X3.out.on hb;have Y5:=X5.out.on hb;obtain⟨k0,k1,k2,k3,k4,k5⟩:=Y2.fu;obtain⟨t0,t1,t2,t3,t4,t5⟩:=Y2.kD;have zz:=Y2.lt;have FB:=X (dL Y2 (O U me) (J no nn nc) (J Cq kJ kM) (J so sn sc) (J EP iA iB) (J oo dY oc));have B2:=X (dG (b:=w.heap.size) B1.out (aD _) (O U me) (J no nn nc) (J Cq kJ kM) (J so sn sc) (J EP iA iB) (J oo dY oc));have F3:=X (show dJ _ _ _ _ from (dK w1 w.heap.size (O U me) (J no nn nc) (J Cq kJ kM) (J so sn sc) (J EP iA iB) (J oo dY oc) (w.heap.size+1) (by omega)).trans Y3);have F5:=X (show dJ _ _ _ _ from (dK w1 w.heap.size (O U me) (J no nn nc) (J Cq kJ kM) (J so sn sc) (J EP iA iB) (J oo dY oc) (w.heap.size+1+1) (by omega)).trans Y5);have HB:=X (fF (s1:=(no,nn,nc)) (s2:=(ao,an,ac)) (s3:=(so,sn,sc)) (s4:=(eo,en,ec)) (s5:=(oo,dY,oc)) hbr Y2 (fun j _ hj=>dK w1 w.heap.size (O U me) (J no nn nc) (J Cq kJ kM) (J so sn sc) (J EP iA iB) (J oo dY oc) j hj) (by rw [(kV b (c,d) f).1]; exact wW.out.on B2.out));clear Ky hbr hb SW X2 X3 X5 B1 Y2 Y3 Y5 x0 x1 x2 x3 x4 x5 y0 y1;go_upto_region 2 with fail;clear zz k0 k1 k2 k3 k4 k5 t0 t1 t2 t3 t4 t5;unfold gF at FB B2 F3 F5 HB;generalize ((((((w1.setCell ⟨w.heap.size,0,L⟩ (O U me)).setCell ⟨w.heap.size,1,L⟩ (J no nn nc)).setCell ⟨w.heap.size,2,L⟩ (J Cq kJ kM)).setCell ⟨w.heap.size,3,L⟩ (J so sn sc)).setCell ⟨w.heap.size,4,L⟩ (J EP iA iB)).setCell ⟨w.heap.size,5,L⟩ (J oo dY oc))=w2 at *;cases fb
 ·have x_:=FB.out;have r_:=F5.out;obtain⟨x0,x1,x2,x3,x4,x5⟩:=x_.fu;obtain⟨r0,r1,r2,r3,r4,r5⟩:=r_.fu;obtain⟨t0,t1,t2,t3,t4,t5⟩:=r_.kD;have zz:=r_.lt;have GB:=X (dL r_ (O U me) (J no nn nc) (J Cq kJ kM) (J so sn sc) (J EP iA iB) (J oo dY oc));have BL:=X (dG (b:=w.heap.size+1+1) B2.out (by omega) (O U me) (J no nn nc) (J Cq kJ kM) (J so sn sc) (J EP iA iB) (J oo dY oc));have HC:=X (fF (s1:=(L,0,0)) (s2:=(L,0,0)) (s3:=(L,0,0)) (s4:=(L,0,0)) (s5:=(L,0,0)) HB.out r_ (fun j _ hj=>dK w2 (w.heap.size+1+1) (O U me) (J no nn nc) (J Cq kJ kM) (J so sn sc) (J EP iA iB) (J oo dY oc) j hj) (by rw [(kV b (c,d) f).1]; exact wW.out.on BL.out));clear x_ r_ HB FB F3 F5;go_wp2_with fail;obtain⟨v0,v1,v2,v3,v4,v5⟩:=GB.out.fu;refine bodyPost_ret (v:=.tuple #[aG #[O U me,J no nn nc,J Cq kJ kM,J so sn sc,J EP iA iB,J oo dY oc],J L 0 0]) (by simp [results,aL,go_sem,v0,v1,v2,v3,v4,v5]) rfl ?_;exact⟨⟨(Cq,kJ,kM),(EP,iA,iB),(L,0,0),rfl,HC.out,by unfold zX; rw [LB.out]; exact Or.inl ⟨rfl,rfl⟩⟩,BL.out⟩
 ·go_upto_region 4 with fail;refine Tc _ w2 w.heap.size (w.heap.size+1) (w.heap.size+1+1) me f c d no Cq so EP oo nn nc kJ kM sn sc iA iB dY oc b.near _ _ _ _ _ _ _ _ _ _ _ _ _ _ _ _ _ _ _ _ _ _ _ _ _ _ _ FB.out F3.out F5.out (wW.out.on B2.out) L1.out ?_;intro a9 x9 sl Ho h69 h79 hbx ho hblk hbl;have BL:=X (B2.out.trans (hbl w.heap.size (by omega)));have HC:=X (fF (s1:=(L,0,0)) (s2:=(L,0,0)) (s3:=(L,0,0)) (s4:=(L,0,0)) (s5:=(L,0,0)) HB.out F5.out (fun j hlt hj=>hblk j hlt hj) (by rw [(kV b (c,d) f).1]; exact wW.out.on BL.out));have HU:=X (Row.dH ho);have aey:=hbx;obtain⟨v0,v1,v2,v3,v4,v5⟩:=aey.fu;clear aey hbx ho hblk hbl HB FB F3 F5;simp only [Exit.then]
  apply_assumption
  go_wp2_with fail;refine bodyPost_ret (v:=.tuple #[aG #[O U me,J no nn nc,J Cq kJ kM,J so sn sc,J EP iA iB,J oo dY oc],dX sl]) (by simp [results,aL,go_sem,h69,h79,v0,v1,v2,v3,v4,v5]) Ho ?_;exact⟨⟨(Cq,kJ,kM),(EP,iA,iB),sl,rfl,HC.out,by unfold zX; rw [LB.out]; exact HU.out⟩,BL.out⟩
end Bk
namespace Av
open Go.RowKit Rw YtmklifheakemeaaGreat.Nm Pr Bk
theorem Td {W:ak} {b:Nat} {c:iL} (h:dJ W b (jA c).toArray 66):lF W (J (Y ⟨b,0,L⟩) 1 1) [c] :=
 Or.inr ⟨⟨b,0,L⟩,1,rfl,by simp,by decide,tK h (by simp [EN])⟩
def zY (B:Nat) (l:List iL) (k:Nat) (c:iL) (vv:aB) (W:ak) (e:Ending) (w':ak):Prop:=∃ v',e=aC v'/\kQ w' B v' (l.take k++c::l.drop k)/\Below B W w'/\(∀ j,j<W.heap.size->Y j≠vv.ownBlock->w'.heap[j]?=W.heap[j]?)
theorem Hq (B:Nat) (v:aB) (l:List iL) (c:iL) (b:Nat) (W:ak) (ho:kQ W B v l) (hx:dJ W b (jA c).toArray 66) (hl:l.length<=900) (hB:B<=W.heap.size) :
  aK V 147 #[v,O U (l.length:Nat),J (Y ⟨b,0,L⟩) 1 1] W (zY B l l.length c v W):=by
 obtain⟨v',w',hr,ho2,hg⟩:=gI nN B ho (Td hx) (by omega) (by simp) hB 25;have hr:(aJ #[25,25] 25 #[v,J (Y ⟨b,0,L⟩) 1 1]).run V W=.ok v' w':=hr;have Q:=X (show zY B l l.length c v W (aC v') w' from ⟨v',rfl,by rw [List.take_of_length_le (aD _),List.drop_of_length_le (aD _)]; exact ho2,(aj B W).grown hg hB (fun j hj=>(ho.lt j hj).1),fun j hj hne=>hg.block j hj hne⟩);obtain⟨sx,hs,_⟩:=p9 nN (Row.dH ho) l.length (aD _);have hs:∀ w,(Z 25 v (Y (O U l.length)) L L).run V w=.ok sx w:=hs;obtain⟨ao,ac,rfl⟩:=(Row.dH ho).len;clear ho ho2 hg;generalize hn:l.length=n at *;clear hn;go_enter aH,aF;go_wp2_with (first | (at_builtin; refine wpList_append_run rfl _ _ 25 rfl rfl rfl hr ?_) | fail);go_ret;exact Q.out
theorem Te (w:ak) (g b k la lb cb:Nat) (cur cs:Array aB) (hb:dJ w b cs 66) (hg:dJ w g cur 66) (hne:b≠g) (h0:0<cur.size):(callFunc 170 #[J (Y ⟨b,0,L⟩) la 1,J (Y ⟨g,k,L⟩) lb cb]).run V w=.ok (.value (aN false)) w:=by
 rw [run_callFunc_extern Tryz.func170 (by kernel_rfl) (by kernel_rfl) (by kernel_rfl) (e:=Extern.SlicesOverlaps.overlaps #[25,25] #[4]) (by kernel_rfl),
  Lib.run_overlaps_apart w 25 4 66 Tryz.underlying25 7 Tryz.sizeOf66 ⟨b,0,L⟩ ⟨g,k,L⟩ la 1 lb cb hne 66 66 cs.size cur.size hb.shape hg.shape (by omega) (hb.fr 0) (hb.fr _)]
 rfl
theorem Cr (B g n cap:Nat) (cur:Array aB) (l:List iL) (k:Nat) (c:iL) (b:Nat) (W:ak) (hn:n=l.length) (hBg:B<=g) (hg:dJ W g cur 66) (hcm:cap<=maxLen) (hsz:cur.size=cap * 7) (ht:cur.toList.take (n * 7)=flat EN l) (hx:dJ W b (jA c).toArray 66) (hne:b≠g) (hk:k<n) (hroom:n+1<=cap) (hl:n<=900) :
  aK V 147 #[J (Y ⟨g,0,L⟩) n cap,O U k,J (Y ⟨b,0,L⟩) 1 1] W (zY B l k c (J (Y ⟨g,0,L⟩) n cap) W):=by
 obtain⟨R1,R2,r1,r2,ow⟩:=tL (E:=EN) (l:=l) (k:=k) (cap:=cap) (cur:=cur) (cs:=(jA c).toArray) (c:=c) nN (by omega) (by omega) hsz (by rw [<- hn]; exact ht) g b hne;have hov:=fun lb cb=>Te W g b ((k+1) * 7) 1 lb cb cur (jA c).toArray hx hg hne (by omega);have s0:=gX (E:=EN) nN g k n cap (by omega) (by omega);have s1:=kE (E:=EN) nN ⟨g,0,L⟩ (n+1) n cap (by omega);have s2:=gX (E:=EN) nN g (k+1) (n+1) cap (by omega) (by omega);have s3:=gX (E:=EN) nN g k (n+1) cap (by omega) (by omega);have q1:=r1 W.drew 3 (n+1-(k+1)) (cap-(k+1)) (n+1-k) (cap-k) hg (by omega);have q2:=r2 (W.drew.setRow g R1) 3 (n+1-k) (cap-k) (dJ.set (show dJ W.drew g cur 66 from hg) R1) (dJ.other (show dJ W.drew b _ 66 from hx) hne R1) rfl (by omega);have Q:=X (show zY B l k c (J (Y ⟨g,0,L⟩) n cap) W (aC (J (Y ⟨g,0,L⟩) (n+1) cap)) ((W.drew.setRow g R1).setRow g R2) from ⟨_,rfl,by rw [hn]; exact ow _ B hBg hcm (dJ.set (dJ.set (show dJ W.drew g cur 66 from hg) R1) R2),below_setRow (below_setRow (aj B W).drew hBg _) hBg _,fun j hj hne=>(setRow_other _ g j _ (fun e=>hne (by rw [e]; rfl))).trans (setRow_other _ g j _ (fun e=>hne (by rw [e]; rfl)))⟩);clear r1 r2 ow hg ht hx hsz hBg hcm;change ∀ w,(Z 25 (J (Y ⟨g,0,L⟩) n cap) (Y (O U k)) L L).run V w=.ok (J (Y ⟨g,k * 7,L⟩) (n-k) (cap-k)) w at s0;change ∀ w,(Z 25 (J (Y ⟨g,0,L⟩) n cap) L (Y (O U ((n:Int)+1))) L).run V w=.ok (J (Y ⟨g,0,L⟩) (n+1) cap) w at s1;change ∀ w,(Z 25 (J (Y ⟨g,0,L⟩) (n+1) cap) (Y (O U ((k:Int)+1))) L L).run V w=.ok (J (Y ⟨g,(k+1) * 7,L⟩) (n+1-(k+1)) (cap-(k+1))) w at s2;change ∀ w,(Z 25 (J (Y ⟨g,0,L⟩) (n+1) cap) (Y (O U k)) L L).run V w=.ok (J (Y ⟨g,k * 7,L⟩) (n+1-k) (cap-k)) w at s3;have e1:((k:Int) == (n:Int))=false:=by rw [beq_eq_false_iff_ne]; omega
 have e2:decide ((cap:Int)<(n:Int)+1)=false:=by simp; omega
 change (aA #[25,25] 3 #[J (Y ⟨g,(k+1) * 7,L⟩) (n+1-(k+1)) (cap-(k+1)),J (Y ⟨g,k * 7,L⟩) (n+1-k) (cap-k)]).run V W.drew=.ok (O U ((l.length-k:Nat):Int)) (W.drew.setRow g R1) at q1;change (aA #[25,25] 3 #[J (Y ⟨g,k * 7,L⟩) (n+1-k) (cap-k),J (Y ⟨b,0,L⟩) 1 1]).run V (W.drew.setRow g R1)=.ok (O U 1) ((W.drew.setRow g R1).setRow g R2) at q2;clear hn;go_enter aH,aF;go_wp2_with (first | (simp only [hov]) | fail);clear hov s0 s1 s2 s3;have hw1:IntKind.i64.wrap ((k:Int)+1)=(k:Int)+1:=by rw [aI]; omega
 have hb1:(0:Int)<=(k:Int)+1:=by omega
 have hb0:(k:Int)+1<=(n:Int)+1:=by omega
 have htn:((k:Int)+1).toNat=k+1:=by omega
 have hb2:¬ (cap=k+1):=by omega
 have hb3:(k:Int)<=(n:Int)+1:=by omega
 have hb4:¬ (cap=k):=by omega
 have h81:n+1-(k+1)=n-k:=by omega
 rw [h81] at q1;clear h81
 go_region_law (refine iX rfl (ay 73) (ay 76) 25 rfl (v:=J (Y ⟨g,(k+1) * 7,L⟩) (n-k) (cap-(k+1))) (xv:=J (Y ⟨g,k * 7,L⟩) (n+1-k) (cap-k)) (by simp [Act.eval,Act.put]) (by simp [Act.eval,Act.put]) q1 ?_)
 all_goals simp only [Exit.then]
 all_goals apply_assumption
 clear q1 hw1 hb1 hb0 htn hb2 hb3 hb4;have s3:=gX (E:=EN) nN g k (n+1) cap (by omega) (by omega);change ∀ w,(Z 25 (J (Y ⟨g,0,L⟩) (n+1) cap) (Y (O U k)) L L).run V w=.ok (J (Y ⟨g,k * 7,L⟩) (n+1-k) (cap-k)) w at s3;go_wp2_with (first | (at_builtin; refine wpList_copy_run rfl _ _ 25 rfl rfl rfl q2 ?_) | fail);go_ret;exact Q.out
theorem ER (B g n cap:Nat) (cur:Array aB) (l:List iL) (k:Nat) (c:iL) (b:Nat) (W:ak) (hn:n=l.length) (hg:dJ W g cur 66) (hcm:cap<=maxLen) (hnc:n<=cap) (ht:cur.toList.take (n * 7)=flat EN l) (hx:dJ W b (jA c).toArray 66) (hk:k<n) (hroom:cap<n+1) (hl:n<=900) (hB:B<=W.heap.size) :
  aK V 147 #[J (Y ⟨g,0,L⟩) n cap,O U k,J (Y ⟨b,0,L⟩) 1 1] W (zY B l k c (J (Y ⟨g,0,L⟩) n cap) W):=by
 have hgw:=hg.lt;have hbw:=hx.lt;obtain⟨G,R1,R2,R3,hG1,hG2,r1,r2,r3,ow⟩:=vS (E:=EN) (l:=l) (k:=k) (cap:=cap) (cur:=cur) (cs:=(jA c).toArray) (c:=c) nN 3 Tryz.underlying3 (by omega) (by omega) (by omega) (by omega) (by rw [<- hn]; exact ht) W g b hg hbw;unfold maxLen at hcm hG2;have s0:=gX (E:=EN) nN g k n cap (by omega) (by omega);have s1:=kE (E:=EN) nN ⟨g,0,L⟩ k n cap (by omega);have s2:=gX (E:=EN) nN W.heap.size k (n+1) G (by omega) (by omega);have s3:=gX (E:=EN) nN W.heap.size (k+1) (n+1) G (by omega) (by omega);have a1:=r1 25;have n1:=dO W.drew R1 66;have bl:W.drew.heap.size=W.heap.size:=rfl;rw [bl] at n1;have g1:dJ (W.drew.alloc (ah R1 66)) g cur 66:=dJ.more (show dJ W.drew g cur 66 from hg) _;have x1:dJ (W.drew.alloc (ah R1 66)) b (jA c).toArray 66:=dJ.more (show dJ W.drew b _ 66 from hx) _;have q2:=r2 (W.drew.alloc (ah R1 66)) 3 (n+1-k) (G-k) n1 x1 rfl (by omega);have q3:=r3 ((W.drew.alloc (ah R1 66)).setRow W.heap.size R2).drew 3 (n+1-(k+1)) (G-(k+1)) (n-k) (cap-k) (dJ.set n1 R2) (dJ.other g1 (by omega) R2) (by omega);have Q:=X (show zY B l k c (J (Y ⟨g,0,L⟩) n cap) W (aC (J (Y ⟨W.heap.size,0,L⟩) (n+1) G)) (((W.drew.alloc (ah R1 66)).setRow W.heap.size R2).drew.setRow W.heap.size R3) from ⟨_,rfl,by rw [hn]; exact ow _ B hB (dJ.set (dJ.set n1 R2) R3),below_setRow (below_setRow ((aj B W).drew.alloc hB _) hB _).drew hB _,fun j hj _=>(setRow_other _ W.heap.size j _ (by omega)).trans ((setRow_other _ W.heap.size j _ (by omega)).trans (Array.getElem?_push_lt hj |>.trans (Array.getElem?_eq_getElem hj).symm))⟩);have l1:l.length+1=n+1:=by rw [hn]
 rw [l1,<- hn] at a1;clear r1 r2 r3 ow hg ht hx g1 x1 n1 bl l1;change ∀ w,(Z 25 (J (Y ⟨g,0,L⟩) n cap) (Y (O U k)) L L).run V w=.ok (J (Y ⟨g,k * 7,L⟩) (n-k) (cap-k)) w at s0;change ∀ w,(Z 25 (J (Y ⟨g,0,L⟩) n cap) L (Y (O U k)) L).run V w=.ok (J (Y ⟨g,0,L⟩) k cap) w at s1;change ∀ w,(Z 25 (J (Y ⟨W.heap.size,0,L⟩) (n+1) G) (Y (O U k)) L L).run V w=.ok (J (Y ⟨W.heap.size,k * 7,L⟩) (n+1-k) (G-k)) w at s2;change ∀ w,(Z 25 (J (Y ⟨W.heap.size,0,L⟩) (n+1) G) (Y (O U ((k:Int)+1))) L L).run V w=.ok (J (Y ⟨W.heap.size,(k+1) * 7,L⟩) (n+1-(k+1)) (G-(k+1))) w at s3;change (aJ #[25,3] 25 #[J (Y ⟨g,0,L⟩) k cap,O U ((n:Int)+1-k)]).run V W=.ok (J (Y ⟨W.heap.size,0,L⟩) (n+1) G) (W.drew.alloc (ah R1 66)) at a1;change (aA #[25,25] 3 #[J (Y ⟨W.heap.size,k * 7,L⟩) (n+1-k) (G-k),J (Y ⟨b,0,L⟩) 1 1]).run V (W.drew.alloc (ah R1 66))=.ok (O U 1) ((W.drew.alloc (ah R1 66)).setRow W.heap.size R2) at q2;change (aA #[25,25] 3 #[J (Y ⟨W.heap.size,(k+1) * 7,L⟩) (n+1-(k+1)) (G-(k+1)),J (Y ⟨g,k * 7,L⟩) (n-k) (cap-k)]).run V ((W.drew.alloc (ah R1 66)).setRow W.heap.size R2).drew=.ok (O U ((l.length-k:Nat):Int)) (((W.drew.alloc (ah R1 66)).setRow W.heap.size R2).drew.setRow W.heap.size R3) at q3;have e1:((k:Int) == (n:Int))=false:=by rw [beq_eq_false_iff_ne]; omega
 have e2:decide ((cap:Int)<(n:Int)+1)=true:=by simp; omega
 have hGn:n+1<=G:=by omega
 clear hn;generalize W.heap.size=N at *;generalize W.drew.alloc (ah R1 66)=W1 at *;generalize W1.setRow N R2=W2 at *;go_enter aH,aF;go_wp2_with (first | (at_builtin; refine je rfl _ _ 25 3 rfl rfl rfl a1 ?_) | (at_builtin; refine wpList_copy_run rfl _ _ 25 rfl rfl rfl q2 ?_) | fail);clear a1 q2 s0 s1 s2 s3;have hw1:IntKind.i64.wrap ((k:Int)+1)=(k:Int)+1:=by rw [aI]; omega
 have hb1:(0:Int)<=(k:Int)+1:=by omega
 have hb0:(k:Int)+1<=(n:Int)+1:=by omega
 have htn:((k:Int)+1).toNat=k+1:=by omega
 have hb2:¬ (G=k+1):=by omega
 have hb3:(k:Int)<=(n:Int):=by omega
 have hb4:¬ (cap=k):=by omega
 have h81:n+1-(k+1)=n-k:=by omega
 rw [h81] at q3;clear h81
 go_region_law (refine iX rfl (ay 50) (ay 53) 25 rfl (v:=J (Y ⟨N,(k+1) * 7,L⟩) (n-k) (G-(k+1))) (xv:=J (Y ⟨g,k * 7,L⟩) (n-k) (cap-k)) (by simp [Act.eval,Act.put]) (by simp [Act.eval,Act.put]) q3 ?_)
 all_goals simp only [Exit.then]
 all_goals apply_assumption
 go_wp2;go_ret;exact Q.out
theorem yw (B:Nat) (v:aB) (l:List iL) (k:Nat) (c:iL) (b:Nat) (W:ak) (ho:kQ W B v l) (hx:dJ W b (jA c).toArray 66) (hne:v.ownBlock≠Y b) (hk:k<=l.length) (hl:l.length<=900) (hB:B<=W.heap.size) :
  aK V 147 #[v,O U k,J (Y ⟨b,0,L⟩) 1 1] W (zY B l k c v W):=by
 rcases aM k l.length with h|h
 ·rcases gK ho with⟨_,h2⟩|⟨g,cap,cur,rfl,h1,h2,h3,h4,h5,h6⟩
  ·rw [h2] at h; simp at h
  ·rcases aM cap (l.length+1) with h7|h7
   ·exact ER B g _ cap cur l k c b W rfl h2 h4 h3 h6 hx h h7 hl hB
   ·exact Cr B g _ cap cur l k c b W rfl h1 h2 h4 h5 h6 hx (fun e=>hne (by simp [Value.ownBlock,e])) h h7 hl
 ·obtain rfl:k=l.length:=by omega
  exact Hq B v l c b W ho hx hl hB
end Av
end Go.Proofs.YtmklifheakemeaaGreat
