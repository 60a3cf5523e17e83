/-
  The last region of d. Conditions as told.
-/
import Derived.Test.YtmklifheakemeaaGreatfe027
import Derived.Test.YtmklifheakemeaaGreatfe024
set_option maxRecDepth 100000
set_option maxHeartbeats 64000000
open _root_.Bool renaming false->bf,true->bn
open _root_.Go renaming Value->au,World->aA,Calls->bP,Addr->bR
open Go.Act renaming put->bL
open Go.Builtin renaming append_->aO
open Go.DataW renaming trod->aI,trod_int->aN,trod_struct->bg
open Go.Ending renaming returned->aC
open Go.IntKind renaming i64->O
open Go.Lib renaming hid->L
open Go.Obj renaming cells->aB
open Go.Operand renaming tmp->ak
open Go.Proofs.Tryz renaming prog->Z,underlying3->aF,underlying45->bX,underlying47->bZ,results100->cB,results38->cO,ntmps159->cZ,ntmps160->dh,func159->dx,ntmps80->dB
open Go.Proofs.YtmklifheakemeaaGreat.Rg renaming dD->aM,get_put->cK
open Go.RowKit.Below renaming refl->aj,heap_setCell->aZ
open Go.Value renaming slice->J,int->U,pointer->ah,agg->aV,bool->aW
open _root_.List renaming getElem?_eq_getElem->Y,getElem?_toArray->aG,getElem?_eq_some_iff->aH,length_map->aK,getElem?_cons_zero->aQ,getElem?_cons_succ->aR,mem_append->aS,drop_succ_cons->aT,take_succ_cons->aU,length_append->aY,map_toArray->bD,take_of_length_le->bF,getElem?_set_ne->bH,drop_zero->bI,take_zero->bK,map_cons->bM,map_nil->bU,getElem?_map->bV,take_add_one->bW,length_take->cu
open _root_.Nat renaming le_trans->ay,zero_le->aJ,le_refl->aP,mul_le_mul->aX,lt_of_le_of_lt->bS,lt_or_ge->bY,le_of_lt->dn,zero_add->dw
open _root_.Option renaming none->V,some->X
open Option.some renaming inj->aL
open _root_.Or renaming inr->aD,inl->bG
namespace Go.Proofs.YtmklifheakemeaaGreat
namespace Bk
open Go.RowKit Go.Sort Rw YtmklifheakemeaaGreat.Nm Pr
def dV (W F0:Nat) (bv rv:au) (iD c d c2 d2:Int) (lo:List mO) (i:Nat) (v:au) (x:aA):Prop :=
 match i with
 | 0=>v=bv
 | 1=>v=rv
 | 2=>v=U O iD
 | 3=>v=mM (c,d)
 | 4=>v=mM (c2,d2)
 | 5=>v=aV #[U O 4,U O c,U O d,U O c2,U O d2,J V 0 0,J V 0 0]
 | 6=>v=wM (iD,4,c,d,c2,d2,(V,0,0),(V,0,0))
 | 7=>jI x W v [(iD,4,c,d,c2,d2,(V,0,0),(V,0,0))]
 | 8=>∃ sl:Sl,v=dU sl/\jI x F0 v (lo++[(iD,4,c,d,c2,d2,(V,0,0),(V,0,0))])
 | 10=>∃ sl:Sl,v=dU sl/\jI x F0 v (lo++[(iD,4,c,d,c2,d2,(V,0,0),(V,0,0))])
 | _=>True
def dF (W:aA) (F0 b4 b5 b6 b8:Nat) (bc:Array au) (c d c2 d2:Int) (D:Nat->Prop) (x:aA):Prop :=
 (dK x b4 bc 28/\dK x b5 #[U O c,U O d] 31/\dK x b6 #[U O c2,U O d2] 31)/\(¬ D 8->Below W.heap.size W x)/\(¬ D 9->Below F0 W x)/\(D 9->dK x b8 bc 28/\(∀ j,j<F0->j≠b8->x.heap[j]?=W.heap[j]?)/\∀ B,B<=b8->Below B W x)
noncomputable def Oc:Code:=((Tryz.f100.body.bind (eO 11)).getD .skip)
theorem Us (Q:Exit->Act->aA->Prop) (W:aA) (F0 b4 b5 b6 b8:Nat) (me iD c d c2 d2:Int) (o1 o2 o3 o4 o5:Option bR) (n1 k1 n2 k2 n3 k3 n4 k4 n5 k5:Nat) (rv:au) (lo:List mO) (z0 z1 z2 z3 z4 z5:au) (u0 u1 u2 u3 u7 u9 u10 u11 u14 u15 u16 u17 u18 u19 u20 u21 u22 u23 u24 u25 u26 u27 u28 u29 u30 u31 u32 u33 u34 u35 u36 u37 u38 u39 u40 u41 u42 u43 u44 u45 u46 u47 u48 u49 u50 u51 u52 u53 u54 u55 u56 u57 u58:au)
  (h4:dK W b4 #[U O me,J o1 n1 k1,J o2 n2 k2,J o3 n3 k3,J o4 n4 k4,J o5 n5 k5] 28) (h5:dK W b5 #[U O c,U O d] 31) (h6:dK W b6 #[U O c2,U O d2] 31) (h8:dK W b8 #[z0,z1,z2,z3,z4,z5] 28) (l4:b4<F0) (l5:b5<F0) (l6:b6<F0) (l8:b8<F0) (n4_:b4≠b8) (n5_:b5≠b8) (n6_:b6≠b8) (fw:F0<=W.heap.size) (hown:jI W F0 rv lo) (hlen:lo.length<=1000)
  (hQ:∀ (a:Act) (x:aA) (sl:Sl),a.defers=[]->a.tmps[8]?=X (ah (X ⟨b8,0,V⟩))->a.tmps[9]?=X (dU sl)->dK x b8 #[U O me,J o1 n1 k1,J o2 n2 k2,J o3 n3 k3,J o4 n4 k4,J o5 n5 k5] 28->jI x F0 (dU sl) (lo++[(iD,4,c,d,c2,d2,(V,0,0),(V,0,0))])->(∀ k,k<F0->k≠b8->x.heap[k]?=W.heap[k]?)->(∀ B,B<=b8->Below B W x)->Q .normal a x) :
  Code.wp Z Oc Q ⟨(u0::u1::u2::u3::ah (X ⟨b4,0,V⟩)::ah (X ⟨b5,0,V⟩)::ah (X ⟨b6,0,V⟩)::u7::ah (X ⟨b8,0,V⟩)::u9::u10::u11::U O iD::rv::u14::u15::u16::u17::u18::u19::u20::u21::u22::u23::u24::u25::u26::u27::u28::u29::u30::u31::u32::u33::u34::u35::u36::u37::u38::u39::u40::u41::u42::u43::u44::u45::u46::u47::u48::u49::u50::u51::u52::u53::u54::u55::u56::u57::u58::[]).toArray,[]⟩ W:=by
 have HQ:=L hQ;have H4:=L h4;have H5:=L h5;have H6:=L h6;have H8:=L h8;have L4:=L l4;have L5:=L l5;have L6:=L l6;have L8:=L l8;have N4:=L n4_;have N5:=L n5_;have N6:=L n6_;have FW:=L fw;have HO:=L hown;have HL:=L hlen;clear hQ h4 h5 h6 h8 l4 l5 l6 l8 n4_ n5_ n6_ fw hown hlen;unfold Oc
 conv=>arg 2; whnf
 have nd:∀ j,(∀ i,i<11->[X 50,X 51,X 52,X 53,X 54,X 55,X 56,X 57,X 58,V,X 9].getD i V≠X j)->∀ i,i<11->(fun i=>[X 50,X 51,X 52,X 53,X 54,X 55,X 56,X 57,X 58,V,X 9].getD i V) i≠X j:=fun j h=>h;refine Rg.p9 11 (fun i=>[X 50,X 51,X 52,X 53,X 54,X 55,X 56,X 57,X 58,V,X 9].getD i V) (fun i=>if i=7 then 8 else 11) (dV W.heap.size F0 (aV #[U O me,J o1 n1 k1,J o2 n2 k2,J o3 n3 k3,J o4 n4 k4,J o5 n5 k5]) rv iD c d c2 d2 lo) (dF W F0 b4 b5 b6 b8 #[U O me,J o1 n1 k1,J o2 n2 k2,J o3 n3 k3,J o4 n4 k4,J o5 n5 k5] c d c2 d2) (by kernel_rfl) (by kernel_rfl) rfl (fun i j e hi hj h1 h2=>(by decide:∀ i,i<11->∀ j,j<11->([X 50,X 51,X 52,X 53,X 54,X 55,X 56,X 57,X 58,V,X 9].getD i V).isSome=bn->[X 50,X 51,X 52,X 53,X 54,X 55,X 56,X 57,X 58,V,X 9].getD i V=[X 50,X 51,X 52,X 53,X 54,X 55,X 56,X 57,X 58,V,X 9].getD j V->i=j) i hi j hj (by have h1:[X 50,X 51,X 52,X 53,X 54,X 55,X 56,X 57,X 58,V,X 9].getD i V=X e:=h1; rw [h1]; rfl) (h1.trans h2.symm)) (fun i e hi h=>(by decide:∀ i,i<11->∀ q∈[X 50,X 51,X 52,X 53,X 54,X 55,X 56,X 57,X 58,V,X 9].getD i V,q<59) i hi e h) ⟨⟨H4.out,H5.out,H6.out⟩,fun _=>(aj _ _).drew,fun _=>(aj _ _).drew,False.elim⟩ ?_ ?_
 ·intro i o hi ho a x D hnd hc hD hF seen K hK;clear HQ;have still:∀ i,i≠8->i≠9->dF W F0 b4 b5 b6 b8 #[U O me,J o1 n1 k1,J o2 n2 k2,J o3 n3 k3,J o4 n4 k4,J o5 n5 k5] c d c2 d2 (fun j=>j=i\/D j) x:=fun i h8 h9=>⟨hF.1,fun h=>hF.2.1 fun h2=>h (aD h2),fun h=>hF.2.2.1 fun h2=>h (aD h2),fun h=>hF.2.2.2 (h.resolve_left (Ne.symm h9))⟩;rcases (by omega:i=0\/i=1\/i=2\/i=3\/i=4\/i=5\/i=6\/i=7\/i=8\/i=9\/i=10) with rfl|rfl|rfl|rfl|rfl|rfl|rfl|rfl|rfl|rfl|rfl
  ·cases ho;have e4:a.eval (ak 4)=ah (X ⟨b4,0,V⟩):=seen.kp 4 _ (nd 4 (by decide)) rfl;exact aM rfl rfl (Rg.dX a.eval _ 28 (ak 4) rfl (by rw [e4]; exact yx hF.1.1)) (hK _ _ rfl (still 0 (by decide) (by decide)) fun _ _ _ _ _ _ _ h=>h)
  ·cases ho;have e13:a.eval (ak 13)=rv:=seen.kp 13 _ (nd 13 (by decide)) rfl;exact aM rfl rfl (Rg.gy a.eval _ (ak 13) rfl x) (hK _ _ e13 (still 1 (by decide) (by decide)) fun _ _ _ _ _ _ _ h=>h)
  ·cases ho;have e12:a.eval (ak 12)=U O iD:=seen.kp 12 _ (nd 12 (by decide)) rfl;exact aM rfl rfl (Rg.gy a.eval _ (ak 12) rfl x) (hK _ _ e12 (still 2 (by decide) (by decide)) fun _ _ _ _ _ _ _ h=>h)
  ·cases ho;have e5:a.eval (ak 5)=ah (X ⟨b5,0,V⟩):=seen.kp 5 _ (nd 5 (by decide)) rfl;exact aM rfl rfl (Rg.dX a.eval _ 31 (ak 5) rfl (by rw [e5]; exact Dw x _ (c,d) (Nk hF.1.2.1))) (hK _ _ rfl (still 3 (by decide) (by decide)) fun _ _ _ _ _ _ _ h=>h)
  ·cases ho;have e6:a.eval (ak 6)=ah (X ⟨b6,0,V⟩):=seen.kp 6 _ (nd 6 (by decide)) rfl;exact aM rfl rfl (Rg.dX a.eval _ 31 (ak 6) rfl (by rw [e6]; exact Dw x _ (c2,d2) (Nk hF.1.2.2))) (hK _ _ rfl (still 4 (by decide) (by decide)) fun _ _ _ _ _ _ _ h=>h)
  ·cases ho;have e53:a.eval (ak 53)=mM (c,d):=seen.at_ ⟨3,.data⟩ (by simp) rfl (aD (by decide)) _ rfl;have e54:a.eval (ak 54)=mM (c2,d2):=seen.at_ ⟨4,.data⟩ (by simp) rfl (aD (by decide)) _ rfl;exact aM rfl rfl (Rg.jM a.eval _ 41 #[(0,.const (U O 4)),(1,ak 53),(2,ak 54)] rfl (ps:=#[(0,U O 4),(1,mM (c,d)),(2,mM (c2,d2))]) (by simp only [bD,bM,bU,e53,e54]; rfl) (by simp [go_sem])) (hK _ _ rfl (still 5 (by decide) (by decide)) fun _ _ _ _ _ _ _ h=>h)
  ·cases ho;have e52:a.eval (ak 52)=U O iD:=seen.at_ ⟨2,.data⟩ (by simp) rfl (aD (by decide)) _ rfl;have e55:a.eval (ak 55)=aV #[U O 4,U O c,U O d,U O c2,U O d2,J V 0 0,J V 0 0]:=seen.at_ ⟨5,.data⟩ (by simp) rfl (aD (by decide)) _ rfl;exact aM rfl rfl (Rg.jM a.eval _ 43 #[(0,ak 52),(1,ak 55)] rfl (ps:=#[(0,U O iD),(1,aV #[U O 4,U O c,U O d,U O c2,U O d2,J V 0 0,J V 0 0])]) (by simp only [bD,bM,bU,e52,e55]) (by simp [go_sem])) (hK _ _ rfl (still 6 (by decide) (by decide)) fun _ _ _ _ _ _ _ h=>h)
  ·cases ho;have e56:a.eval (ak 56)=wM (iD,4,c,d,c2,d2,(V,0,0),(V,0,0)):=seen.at_ ⟨6,.data⟩ (by simp) rfl (aD (by decide)) _ rfl;have n8:¬ D 8:=fun h=>hnd (hc 8 _ h rfl ⟨7,.data⟩ (by simp) rfl);have n9:¬ D 9:=fun h=>n8 (hc 9 _ h rfl ⟨8,.chain⟩ (by simp) rfl);have hb:=hF.2.1 n8;have hl:=iF D7 x [((iD,4,c,d,c2,d2,(V,0,0),(V,0,0)):mO)] 1 rfl (by simp) (kV (iD,4,c,d,c2,d2,(V,0,0),(V,0,0))).toArray (by simp [flat,EU]);have nb:=fM x (aB (kV (iD,4,c,d,c2,d2,(V,0,0),(V,0,0))).toArray 43);exact aM rfl rfl (Rg.iU a.eval _ 35 1 #[(0,ak 56)] rfl (ps:=#[(0,wM (iD,4,c,d,c2,d2,(V,0,0),(V,0,0)))]) (by simp [e56]) (by simp [go_sem])) (hK (J (X ⟨x.heap.size,0,V⟩) 1 1) (x.alloc (aB (kV (iD,4,c,d,c2,d2,(V,0,0),(V,0,0))).toArray 43)) (dO hl hb.size) ⟨⟨hF.1.1.on nb,hF.1.2.1.on nb,hF.1.2.2.on nb⟩,fun _=>hb.trans (nb.mono hb.size),fun _=>(hb.trans (nb.mono hb.size)).mono FW.out,fun h=>absurd (h.resolve_left (by decide)) n9⟩ fun j u hj dj nl nx ni h=>by
    rcases (by omega:j=0\/j=1\/j=2\/j=3\/j=4\/j=5\/j=6\/j=7\/j=8\/j=9\/j=10) with rfl|rfl|rfl|rfl|rfl|rfl|rfl|rfl|rfl|rfl|rfl
    ·exact h
    ·exact h
    ·exact h
    ·exact h
    ·exact h
    ·exact h
    ·exact h
    ·exact absurd rfl ni
    ·exact absurd dj n8
    ·exact h
    ·exact absurd (hc 10 _ dj rfl ⟨8,.data⟩ (by simp) rfl) n8)
  ·cases ho;have e51:a.eval (ak 51)=rv:=seen.at_ ⟨1,.data⟩ (by simp) rfl (aD (by decide)) _ rfl;have o57:jI x W.heap.size (a.eval (ak 57)) [(iD,4,c,d,c2,d2,(V,0,0),(V,0,0))]:=seen.at_ ⟨7,.data⟩ (by simp) rfl (bG rfl) _ rfl;have hb:=hF.2.1 hnd;have n9:¬ D 9:=fun h=>hnd (hc 9 _ h rfl ⟨8,.chain⟩ (by simp) rfl);have n10:¬ D 10:=fun h=>hnd (hc 10 _ h rfl ⟨8,.data⟩ (by simp) rfl);obtain⟨v',x',r,o',gr⟩:=gJ D7 F0 (Bk.dI HO.out hb) (Row.dH o57) HL.out (by simp) (ay FW.out hb.size) 35;obtain⟨sa,sc,hsv⟩:=(Row.dH o').len;have hb2:Below F0 W x':=(hb.mono FW.out).grown gr (ay FW.out hb.size) fun j hj=>((Bk.dI HO.out hb).lt j hj).1;have vv:dV W.heap.size F0 (aV #[U O me,J o1 n1 k1,J o2 n2 k2,J o3 n3 k3,J o4 n4 k4,J o5 n5 k5]) rv iD c d c2 d2 lo 8 v' x':=⟨(sa,(lo++[(iD,4,c,d,c2,d2,(V,0,0),(V,0,0))]).length,sc),hsv,o'⟩;have ff:dF W F0 b4 b5 b6 b8 #[U O me,J o1 n1 k1,J o2 n2 k2,J o3 n3 k3,J o4 n4 k4,J o5 n5 k5] c d c2 d2 (fun j=>j=8\/D j) x':=⟨⟨xu H4.out hb2 L4.out,xu H5.out hb2 L5.out,xu H6.out hb2 L6.out⟩,fun h=>absurd (bG rfl) h,fun _=>hb2,fun h=>absurd (h.resolve_left (by decide)) n9⟩;have st:∀ j u,j<11->D j->(fun i=>if i=7 then 8 else 11) j≠8->j≠8->dV W.heap.size F0 (aV #[U O me,J o1 n1 k1,J o2 n2 k2,J o3 n3 k3,J o4 n4 k4,J o5 n5 k5]) rv iD c d c2 d2 lo j u x->dV W.heap.size F0 (aV #[U O me,J o1 n1 k1,J o2 n2 k2,J o3 n3 k3,J o4 n4 k4,J o5 n5 k5]) rv iD c d c2 d2 lo j u x':=fun j u hj dj nx ni h=>by
    rcases (by omega:j=0\/j=1\/j=2\/j=3\/j=4\/j=5\/j=6\/j=7\/j=8\/j=9\/j=10) with rfl|rfl|rfl|rfl|rfl|rfl|rfl|rfl|rfl|rfl|rfl
    ·exact h
    ·exact h
    ·exact h
    ·exact h
    ·exact h
    ·exact h
    ·exact h
    ·exact absurd rfl nx
    ·exact absurd rfl ni
    ·exact h
    ·exact absurd dj n10
   have q:=hK v' x' vv ff fun j u hj dj _ nx ni h=>st j u hj dj nx ni h;exact aM rfl rfl (Rg.fZ a.eval _ (ak 51) (ak 57) 35 rfl e51 rfl r) q
  ·cases ho;have e50:a.eval (ak 50)=aV #[U O me,J o1 n1 k1,J o2 n2 k2,J o3 n3 k3,J o4 n4 k4,J o5 n5 k5]:=seen.at_ ⟨0,.data⟩ (by simp) rfl (aD (by decide)) _ rfl;have e8:a.eval (ak 8)=ah (X ⟨b8,0,V⟩):=seen.kp 8 _ (nd 8 (by decide)) rfl;obtain⟨sl,h58,o58⟩:∃ sl:Sl,a.eval (ak 58)=dU sl/\jI x F0 (a.eval (ak 58)) (lo++[(iD,4,c,d,c2,d2,(V,0,0),(V,0,0))]):=seen.at_ ⟨8,.chain⟩ (by simp) rfl (aD (by decide)) _ rfl;have hb:=hF.2.2.1 hnd;have H8x:=xu H8.out hb L8.out;have s4:=dL x b8 (U O me) (J o1 n1 k1) (J o2 n2 k2) (J o3 n3 k3) (J o4 n4 k4) (J o5 n5 k5);have d8:D 8:=hD ⟨8,.chain⟩ (by simp) rfl;have n10:¬ D 10:=fun h=>hnd (hc 10 _ h rfl ⟨9,.chain⟩ (by simp) rfl);have hx:=dM H8x (U O me) (J o1 n1 k1) (J o2 n2 k2) (J o3 n3 k3) (J o4 n4 k4) (J o5 n5 k5);have hy:∀ B,B<=b8->Below B W (gH x b8 (U O me) (J o1 n1 k1) (J o2 n2 k2) (J o3 n3 k3) (J o4 n4 k4) (J o5 n5 k5)):=fun B hB=>dG (hb.mono (dn (bS hB L8.out))) hB _ _ _ _ _ _;have hs:=p8 H8x me o1 o2 o3 o4 o5 n1 k1 n2 k2 n3 k3 n4 k4 n5 k5;have so:∀ v l,jI x F0 v l->jI (gH x b8 (U O me) (J o1 n1 k1) (J o2 n2 k2) (J o3 n3 k3) (J o4 n4 k4) (J o5 n5 k5)) F0 v l:=fun v l h=>fO h b8 L8.out _ _ _ _ _ _;generalize gH x b8 (U O me) (J o1 n1 k1) (J o2 n2 k2) (J o3 n3 k3) (J o4 n4 k4) (J o5 n5 k5)=x2 at *;have ff:dF W F0 b4 b5 b6 b8 #[U O me,J o1 n1 k1,J o2 n2 k2,J o3 n3 k3,J o4 n4 k4,J o5 n5 k5] c d c2 d2 (fun j=>j=9\/D j) x2:=⟨⟨(s4 b4 N4.out).trans hF.1.1,(s4 b5 N5.out).trans hF.1.2.1,(s4 b6 N6.out).trans hF.1.2.2⟩,fun h=>absurd (aD d8) h,fun h=>absurd (bG rfl) h,fun _=>⟨hx,fun j hj hne=>(s4 j hne).trans (hb.block j hj),hy⟩⟩;have st:∀ j u,j<11->D j->¬ D ((fun i=>if i=7 then 8 else 11) j)->j≠9->dV W.heap.size F0 (aV #[U O me,J o1 n1 k1,J o2 n2 k2,J o3 n3 k3,J o4 n4 k4,J o5 n5 k5]) rv iD c d c2 d2 lo j u x->dV W.heap.size F0 (aV #[U O me,J o1 n1 k1,J o2 n2 k2,J o3 n3 k3,J o4 n4 k4,J o5 n5 k5]) rv iD c d c2 d2 lo j u x2:=fun j u hj dj nl ni h=>by
    rcases (by omega:j=0\/j=1\/j=2\/j=3\/j=4\/j=5\/j=6\/j=7\/j=8\/j=9\/j=10) with rfl|rfl|rfl|rfl|rfl|rfl|rfl|rfl|rfl|rfl|rfl
    ·exact h
    ·exact h
    ·exact h
    ·exact h
    ·exact h
    ·exact h
    ·exact h
    ·exact absurd d8 nl
    ·obtain⟨s,h1,h2⟩:=h;exact⟨s,h1,so _ _ h2⟩
    ·exact h
    ·exact absurd dj n10
   have q:=hK (aW bn) x2 trivial ff fun j u hj dj nl _ ni h=>st j u hj dj nl ni h;have q2:K a x2:=q;exact Rg.fP 28 (ak 8) (ak 50) rfl rfl rfl rfl e8 e50 hs q2
  ·cases ho;obtain⟨sl,h58,o58⟩:∃ sl:Sl,a.eval (ak 58)=dU sl/\jI x F0 (a.eval (ak 58)) (lo++[(iD,4,c,d,c2,d2,(V,0,0),(V,0,0))]):=seen.at_ ⟨8,.data⟩ (by simp) rfl (aD (by decide)) _ rfl;exact aM rfl rfl (Rg.kM a.eval _ (ak 58) rfl x) (hK _ _ ⟨sl,h58,o58⟩ (still 10 (by decide) (by decide)) fun _ _ _ _ _ _ _ h=>h)
 ·intro a x df sz kp ⟨vs,hv⟩ ⟨D,hall,hF⟩;obtain⟨sl,h1,h2⟩:=(hv 10 (by omega)).2 (by decide);have g9:a.tmps[9]?=X (dU sl):=by
   rw [<- h1];exact (hv 10 (by omega)).1 9 rfl
  obtain⟨e1,e2,e3⟩:=hF.2.2.2 (hall 9 (by omega));rw [h1] at h2;exact HQ.out a x sl df ((kp 8 (nd 8 (by decide))).trans rfl) g9 e1 h2 e2 e3
theorem Et {W W':aA} {k:Nat} {me:Int} {s1 s2 s3 s4 s5:Sl} {v:au} {l:List iq} {m:List En} (h1:lI W v l) (h2:eP (jm W) l m) (hb:dK W k (jA me s1 s2 s3 s4 s5) 28) (hk:∀ j,j<W.heap.size->j≠k->W'.heap[j]?=W.heap[j]?):lI W' v l/\eP (jm W') l m :=
 ⟨iI nO h1 hk (kU hb (fun _=>⟨_,_,rfl,rfl⟩) (mh me s1 s2 s3 s4 s5)),h2.mono fun _ _ hx=>⟨hx.1,hx.2.1,hx.2.2.1,hx.2.2.2.1,iI uW hx.2.2.2.2 hk (rW hb (rX me s1 s2 s3 s4 s5))⟩⟩
theorem jd {W W':aA} {k:Nat} {me:Int} {s1 s2 s3 s4 s5:Sl} {s:Sl} {m:List Ou} (h:lW W s m) (hb:dK W k (jA me s1 s2 s3 s4 s5) 28) (hk:∀ j,j<W.heap.size->j≠k->W'.heap[j]?=W.heap[j]?):lW W' s m:=by
 obtain⟨xs,h1,h2⟩:=h;exact⟨xs,iI D7 h1 hk (kU hb (fun c=>⟨_,_,rfl,rfl⟩) (mh me s1 s2 s3 s4 s5)),h2.mono fun x a hx=>⟨hx.1,hx.2.1,hx.2.2.1,hx.2.2.2.1,iI uW hx.2.2.2.2.1 hk (rW hb (rX me s1 s2 s3 s4 s5)),hx.2.2.2.2.2⟩⟩
theorem jh (b:Br) (t x:Id) (f:Int):(kI b t x f).1=(takeB b t x f).1:=by
 unfold kI
 split
 ·rfl
 ·split <;> rfl
theorem Zb {W:aA} {l:List iq} {m:List En} (t:Int) (h:eP (jm W) l m):eP (tC W) (l.map (Li t)) (m.map (xq t)):=by
 induction h with
 | nil=>exact .nil
 | cons x _ ih=>exact .cons (acY x t) ih
theorem Eu (b:Br) (nv av sv ev ov:Sl) (x s:Id) (f:Int) (w:aA) (h:iZ w b nv av sv ev ov) (l2:b.dQ.length<=900) (l3:b.ent.length<=900) (hok:∀ e∈b.ent,dZ e.p) (hkn:∀ e∈b.ent,e.tree∈b.dQ.map Ad.id) :
  bP Z 100 #[rP b.me nv av sv ev ov,mM x,mM s,U O f] w fun e w'=>(∃ ev' lo:Sl,e=aC (.tuple #[rP b.me nv av sv ev' ov,dU lo])/\iZ w' (kI b x s f).1 nv av sv ev' ov/\lW w' lo (kI b x s f).2)/\Below w.heap.size w w':=by
 obtain⟨no,nn,nc⟩:=nv;obtain⟨ao,an,ac⟩:=av;obtain⟨so,sn,sc⟩:=sv;obtain⟨eo,en,ec⟩:=ev;obtain⟨oo,dY,oc⟩:=ov;obtain⟨c,d⟩:=x;obtain⟨c2,d2⟩:=s;have TK:=L (fun W hb'=>Qz b (no,nn,nc) (ao,an,ac) (so,sn,sc) (eo,en,ec) (oo,dY,oc) (c,d) (c2,d2) f W (h.on (show Below w.heap.size w W from hb')) l3 hok);have xU:=L h.near;have L2:=L l2;have L3:=L l3;have KN:=L hkn;obtain⟨h0,h1,h2,h3,h4⟩:=Bj w #[U O b.me,J no nn nc,J ao an ac,J so sn sc,J eo en ec,J oo dY oc] #[U O c,U O d] #[U O c2,U O d2] #[U O 0,J V 0 0,J V 0 0,J V 0 0,J V 0 0,J V 0 0] 28 31 31 28;obtain⟨me,hme⟩:∃ me,me=b.me:=⟨_,rfl⟩;simp only [<- hme] at h0 h1 h2 h3 h4 TK ⊢;have gB:=L (h0);have qQ:=L (h1);have nu:=L (h2);have mE:=L (h3);have uZ:=L (h4);clear h0 h1 h2 h3 h4 h l2 l3 hme hok hkn;go_enter Tryz.func100,Tryz.ntmps100;go_upto_region 1 with fail;generalize ((((w.alloc (aB #[U O me,J no nn nc,J ao an ac,J so sn sc,J eo en ec,J oo dY oc] 28)).alloc (aB #[U O c,U O d] 31)).alloc (aB #[U O c2,U O d2] 31)).alloc (aB #[U O 0,J V 0 0,J V 0 0,J V 0 0,J V 0 0,J V 0 0] 28))=W at *;have SW:=L (TK.out W gB.out);clear TK;obtain⟨x0,x1,x2,x3,x4,x5⟩:=qQ.out.eZ;obtain⟨y0,y1⟩:=nu.out.cs2;obtain⟨z0,z1⟩:=mE.out.cs2;go_wp2_with fail;refine SW.out.mono ?_;rintro e1 w1 ⟨⟨⟨ea,iB,iC⟩,⟨la,ln,lc⟩,rfl,hbr,xs,hrow,hall⟩,hb⟩;clear SW;clear x0 x1 x2 x3 x4 x5 y0 y1 z0 z1;obtain⟨fb,Lm⟩:∃ r,(takeB b (c,d) (c2,d2) f).2.2=r:=⟨_,rfl⟩;have LB:=L Lm;rw [Lm];obtain⟨qa,qc,hq⟩:=hrow.len;obtain rfl:ln=xs.length:=by simpa using congrArg (fun v=>match v with|Value.slice _ n _=>n|_=>0) hq
 obtain⟨ln,hln⟩:∃ n,n=xs.length:=⟨_,rfl⟩;simp only [<- hln] at hrow ⊢;have LN:=L hln.symm;clear hln hq;have jR:=L (gB.out.trans (hb.mono gB.out.size));have oq:=L (qQ.out.on hb);have aeU:=L (nu.out.on hb);have Gm:=L (mE.out.on hb);have QF:=L (uZ.out.on hb);clear gB qQ nu mE uZ;obtain⟨k0,k1,k2,k3,k4,k5⟩:=oq.out.eZ;obtain⟨pG,pI,pJ,pK,pO,pQ⟩:=oq.out.kL;have zz:=oq.out.lt;have FB:=L (dM oq.out (U O me) (J no nn nc) (J ao an ac) (J so sn sc) (J ea iB iC) (J oo dY oc));have B2:=L (dG (b:=w.heap.size) jR.out (aP _) (U O me) (J no nn nc) (J ao an ac) (J so sn sc) (J ea iB iC) (J oo dY oc));have F5:=L (show dK _ _ _ _ from (dL w1 w.heap.size (U O me) (J no nn nc) (J ao an ac) (J so sn sc) (J ea iB iC) (J oo dY oc) (w.heap.size+1) (by omega)).trans aeU.out);have F6:=L (show dK _ _ _ _ from (dL w1 w.heap.size (U O me) (J no nn nc) (J ao an ac) (J so sn sc) (J ea iB iC) (J oo dY oc) (w.heap.size+1+1) (by omega)).trans Gm.out);have F8:=L (show dK _ _ _ _ from (dL w1 w.heap.size (U O me) (J no nn nc) (J ao an ac) (J so sn sc) (J ea iB iC) (J oo dY oc) (w.heap.size+1+1+1) (by omega)).trans QF.out);have HB:=L (fF (s1:=(no,nn,nc)) (s2:=(ao,an,ac)) (s3:=(so,sn,sc)) (s4:=(eo,en,ec)) (s5:=(oo,dY,oc)) hbr oq.out (fun j _ hj=>dL w1 w.heap.size (U O me) (J no nn nc) (J ao an ac) (J so sn sc) (J ea iB iC) (J oo dY oc) j hj) (by rw [(jQ b (c,d) (c2,d2) f).2.1]; exact xU.out.on B2.out));have HX:=L (Et (s1:=(no,nn,nc)) (s2:=(ao,an,ac)) (s3:=(so,sn,sc)) (s4:=(eo,en,ec)) (s5:=(oo,dY,oc)) hrow hall oq.out (fun j _ hj=>dL w1 w.heap.size (U O me) (J no nn nc) (J ao an ac) (J so sn sc) (J ea iB iC) (J oo dY oc) j hj));clear Lm hbr hb hrow hall jR oq aeU Gm QF;go_upto_region 2 with fail;clear zz k0 k1 k2 k3 k4 k5 pG pI pJ pK pO pQ;unfold gH at FB B2 F5 F6 F8 HB HX;generalize ((((((w1.setCell ⟨w.heap.size,0,V⟩ (U O me)).setCell ⟨w.heap.size,1,V⟩ (J no nn nc)).setCell ⟨w.heap.size,2,V⟩ (J ao an ac)).setCell ⟨w.heap.size,3,V⟩ (J so sn sc)).setCell ⟨w.heap.size,4,V⟩ (J ea iB iC)).setCell ⟨w.heap.size,5,V⟩ (J oo dY oc))=w2 at *;have lS:=L (B2.out);have wh:=L (FB.out);have Zc:=L (F5.out);have Je:=L (F6.out);have Ce:=L (F8.out);clear B2 FB F5 F6 F8;cases fb
 ·have x0:=wh.out.cell 0;have x1:=wh.out.cell 1;have x2:=wh.out.cell 2;have x3:=wh.out.cell 3;have x4:=wh.out.cell 4;have x5:=wh.out.cell 5;simp only [aG,aQ,aR] at x0 x1 x2 x3 x4 x5;obtain⟨r0,r1,r2,r3,r4,r5⟩:=Ce.out.eZ;obtain⟨wW,vg,zN,Bl,Bn,Bo⟩:=Ce.out.kL;have zz:=Ce.out.lt;have GG:=L (dM Ce.out (U O me) (J no nn nc) (J ao an ac) (J so sn sc) (J ea iB iC) (J oo dY oc));have BL:=L (dG (b:=w.heap.size+1+1+1) lS.out (by omega) (U O me) (J no nn nc) (J ao an ac) (J so sn sc) (J ea iB iC) (J oo dY oc));have HC:=L (fF (s1:=(V,0,0)) (s2:=(V,0,0)) (s3:=(V,0,0)) (s4:=(V,0,0)) (s5:=(V,0,0)) HB.out Ce.out (fun j _ hj=>dL w2 (w.heap.size+1+1+1) (U O me) (J no nn nc) (J ao an ac) (J so sn sc) (J ea iB iC) (J oo dY oc) j hj) (by rw [(jQ b (c,d) (c2,d2) f).2.1]; exact xU.out.on BL.out));clear HB HX;go_wp2_with fail;obtain⟨v0,v1,v2,v3,v4,v5⟩:=GG.out.eZ;refine bodyPost_ret (v:=.tuple #[aV #[U O me,J no nn nc,J ao an ac,J so sn sc,J ea iB iC,J oo dY oc],J V 0 0]) (by simp [results,cB,go_sem,v0,v1,v2,v3,v4,v5]) rfl ?_;have hd:kI b (c,d) (c2,d2) f=((takeB b (c,d) (c2,d2) f).1,[]):=by unfold kI; rw [if_pos LB.out]
  rw [hd];exact⟨⟨(ea,iB,iC),(V,0,0),rfl,HC.out,qV _⟩,BL.out⟩
 ·obtain⟨e0,he0,ht0⟩:=Lj LB.out;have hmem:(c,d)∈b.dQ.map Ad.id:=ht0 ▸ KN.out e0 he0;obtain⟨k,hk1,hk2⟩:=Ej _ _ hmem;rw [bV] at hk2;obtain⟨a,hak⟩:∃ a,b.dQ[k]?=X a:=by
   cases h:b.dQ[k]? with
   | none=>rw [h] at hk2; cases hk2
   | some a=>exact⟨a,rfl⟩
  have DB:=L (show kI b (c,d) (c2,d2) f=((takeB b (c,d) (c2,d2) f).1,(takeB b (c,d) (c2,d2) f).2.1.map (xq a.par)++[⟨a.par,4,(c,d),(c2,d2),[]⟩]) from by
   unfold kI;rw [if_neg (by rw [LB.out]; simp),hk1,Int.toNat_natCast,hak])
  clear hk2 hmem he0 ht0 e0;obtain⟨ad,zO,xB⟩:=HB.out.dQ;rw [(jQ b (c,d) (c2,d2) f).1] at xB;obtain⟨z,hz1,hz2⟩:=xB.at k a hak;have FD:=uG me (J no nn nc) (J ea iB iC) (J so sn sc) (J oo dY oc) (ao,an,ac) ad (c,d);rw [Au xB,hk1] at FD;obtain⟨q1,q2,hq⟩:=zO.len;obtain⟨rfl,rfl,rfl⟩:ao=q1/\an=ad.length/\ac=q2:=by
   have:J ao an ac=J q1 ad.length q2:=hq;simpa using this
  obtain⟨p,ix,px⟩:=M7 zO rfl rfl hz1;obtain⟨p0,p1,p2,p3⟩:=px w2 (aj _ _);obtain⟨z1,z2,⟨z3,z4,z5⟩,z6⟩:=z;simp only at p0 p1 p2 p3;obtain rfl:z6=a.par:=hz2.2.1;have CE:=L (fun d os=>Calls.regrown_of (d:=d) (os:=os) (FD _ (zO.on (below_regrown w2 d os))));obtain⟨an,han⟩:∃ n,n=ad.length:=⟨_,rfl⟩;clear FD hq px p0 p1 p2;have q3:=cell_regrown p3;simp only [<- han] at ix CE wh HB;have HAN:=L han;clear han hz2 hak hk1 xB zO hz1 p3;have a0:=cell_regrown (show w2.cell? ⟨w.heap.size,0,V⟩=X (U O me) from wh.out.cell 0);have a1:=cell_regrown (show w2.cell? ⟨w.heap.size,1,V⟩=X (J no nn nc) from wh.out.cell 1);have a2:=cell_regrown (show w2.cell? ⟨w.heap.size,2,V⟩=X (J ao an ac) from wh.out.cell 2);have a3:=cell_regrown (show w2.cell? ⟨w.heap.size,3,V⟩=X (J so sn sc) from wh.out.cell 3);have a4:=cell_regrown (show w2.cell? ⟨w.heap.size,4,V⟩=X (J ea iB iC) from wh.out.cell 4);have a5:=cell_regrown (show w2.cell? ⟨w.heap.size,5,V⟩=X (J oo dY oc) from wh.out.cell 5);have b0:=cell_regrown (show w2.cell? ⟨w.heap.size+1,0,V⟩=X (U O c) from Zc.out.cell 0);have b1:=cell_regrown (show w2.cell? ⟨w.heap.size+1,1,V⟩=X (U O d) from Zc.out.cell 1);go_upto_region 4 with fail;refine wp_region_quiet_below (by kernel_rfl) (by kernel_rfl) ?_
  repeat (go_big_quiet_step (first | (with_reducible exact CE.out _ _)))
  refine wpQuiet_nil ?_;intro _ hw';obtain⟨⟨dq,osq⟩,hw''⟩:=hw';subst hw'';have Z6:=below_regrown w2 dq osq;have HB2:=L (HB.out.on Z6);have HX2:=L (show lI _ _ _/\eP (jm _) _ _ from ⟨HX.out.1.on Z6,HX.out.2.mono fun _ _ h=>h.on Z6⟩);have Ev:=L (lS.out.trans (Z6.mono lS.out.size));have aam:=L (wh.out.on Z6);have aan:=L (Zc.out.on Z6);have aao:=L (Je.out.on Z6);have qg:=L (Ce.out.on Z6);clear lS wh Zc Je Ce;clear Z6 HB HX CE ix q3 a0 a1 a2 a3 a4 a5 b0 b1;generalize grow (redrawn w2 dq) osq=w3 at *;generalize a.par=iD at *;go_wp2_with fail
  go_loopw [13,38] (fun v i wr=>∃ k:Nat,k<=ln/\i=U O k/\Below w3.heap.size w3 wr/\jI wr w3.heap.size v ((xs.take k).map (Li iD))) (fun _ i _=>ln-(intOf i).toNat)
  case atStart=>exact⟨0,aJ _,rfl,aj _ _,iM _ _⟩
  case round =>
   obtain⟨k,hk,rfl,hbe,hown⟩:=hrel;have BE:=L hbe;have OE:=L hown;clear hbe hown;have L9:=L (show ln<=900 from by have h1:=HX2.out.2.len; rw [LN.out] at h1; rw [h1]; exact ay (uQ b (c,d) (c2,d2) f).2 L3.out);have l9:=L9.out;by_cases hlt:k<ln
   ·have hlt':(k:Int)<(ln:Int):=by omega
    have hw:IntKind.i64.wrap ((k:Int)+1)=(k:Int)+1:=IntWalk.i64_in _ (by omega);obtain⟨y,hy⟩:∃ y,xs[k]?=X y:=⟨_,Y (by rw [LN.out]; exact hlt)⟩;obtain⟨p,ix,px⟩:=Kh HX2.out.1 rfl LN.out hy;obtain⟨p0,p1,p2,p3,p4,p5,p6⟩:=px wr BE.out;have TKY:=L (show (xs.take (k+1)).map (Li iD)=(xs.take k).map (Li iD)++[Li iD y] from by rw [bW,hy]; simp);obtain⟨y1,y2,y3,y4,⟨yo,yn,yc⟩,y6,y7⟩:=y;simp only at p0 p1 p2 p3 p4 p5 p6;clear px hy;go_upto_region 9 with fail;clear p0 p1 p2 p3 p4 p5 p6 ix;have NN:=fM wr (aB #[U O y1,U O y2,U O y3,U O y4,J yo yn yc,U O y6,aW y7] 66);have XE:=dJ wr #[U O y1,U O y2,U O y3,U O y4,J yo yn yc,U O y6,aW y7] 66;have Ut:=L (BE.out.trans (NN.mono BE.out.size));have P7:=L (Bk.dI OE.out NN);clear BE OE NN;generalize wr.alloc (aB #[U O y1,U O y2,U O y3,U O y4,J yo yn yc,U O y6,aW y7] 66)=wa at *;obtain⟨c0_,c1_,c2_,c3_,c4_,c5_,c6_⟩:=XE.mI;have SB:=z8 (y1,y2,y3,y4,(yo,yn,yc),y6,y7) wa;go_wp2_with fail;refine SB.mono ?_;rintro e3 wb ⟨rfl,hb⟩;clear SB XE c0_ c1_ c2_ c3_ c4_ c5_ c6_;have BE3:=L (Ut.out.trans (hb.mono Ut.out.size));have OE3:=L (Bk.dI P7.out hb);clear hb Ut P7;have hl:=iF D7 wb [((iD,3,y1,y2,y3,y4,(yo,yn,yc),(V,0,0)):mO)] 1 rfl (by simp) #[U O iD,U O 3,U O y1,U O y2,U O y3,U O y4,J yo yn yc,J V 0 0] (by rfl);have NB:=fM wb (aB #[U O iD,U O 3,U O y1,U O y2,U O y3,U O y4,J yo yn yc,J V 0 0] 43);obtain⟨v',x5,q2,o2,g2⟩:=gJ D7 w3.heap.size (Bk.dI OE3.out NB) (Row.dH hl) (by rw [aK,cu]; omega) (by simp) (ay BE3.out.size NB.size) 35;have q2:(aO #[35,35] 35 #[u13,J (X ⟨wb.heap.size,0,V⟩) 1 1]).run Z (wb.alloc (aB #[U O iD,U O 3,U O y1,U O y2,U O y3,U O y4,J yo yn yc,J V 0 0] 43))=.ok v' x5:=q2;have BX:=L ((BE3.out.trans (NB.mono BE3.out.size)).grown g2 (ay BE3.out.size NB.size) (fun j hj=>((Bk.dI OE3.out NB).lt j hj).1));have O2:=L o2;clear hl NB o2 g2;go_wp2_with (first | (at_builtin; refine wpList_append_run rfl _ _ 35 rfl rfl rfl q2 ?_) | fail)
    go_roundw
    case rel=>exact⟨k+1,hlt,by go_num,BX.out,by rw [TKY.out]; exact O2.out⟩
    case measure=>simp [intOf]; omega
   ·obtain rfl:k=ln:=by omega
    have ht:xs.take k=xs:=bF (by rw [LN.out]; exact aP _);rw [ht] at OE;clear ht;go_upto_region 11 with fail;refine Us _ wr w3.heap.size w.heap.size (w.heap.size+1) (w.heap.size+1+1) (w.heap.size+1+1+1) me iD c d c2 d2 no ao so ea oo nn nc an ac sn sc iB iC dY oc u13 (xs.map (Li iD)) _ _ _ _ _ _ _ _ _ _ _ _ _ _ _ _ _ _ _ _ _ _ _ _ _ _ _ _ _ _ _ _ _ _ _ _ _ _ _ _ _ _ _ _ _ _ _ _ _ _ _ _ _ _ _ _ _ _ _ (aam.out.on BE.out) (aan.out.on BE.out) (aao.out.on BE.out) (qg.out.on BE.out) aam.out.lt aan.out.lt aao.out.lt qg.out.lt (by omega) (by omega) (by omega) BE.out.size OE.out (by rw [aK,LN.out]; omega) ?_;intro a9 x9 sl IW h69 h79 hbx ho hblk hbl;have BL:=L (show Below w.heap.size w x9 from (Ev.out.trans (BE.out.mono Ev.out.size)).trans (hbl w.heap.size (by omega)));have HK:=L (show ∀ j,j<w3.heap.size->j≠w.heap.size+1+1+1->x9.heap[j]?=w3.heap[j]? from fun j hj hne=>(hblk j hj hne).trans (BE.out.block j hj));have HC:=L (fF (s1:=(V,0,0)) (s2:=(V,0,0)) (s3:=(V,0,0)) (s4:=(V,0,0)) (s5:=(V,0,0)) HB2.out qg.out HK.out (by rw [(jQ b (c,d) (c2,d2) f).2.1]; exact xU.out.on BL.out));have HX3:=L (Et (s1:=(V,0,0)) (s2:=(V,0,0)) (s3:=(V,0,0)) (s4:=(V,0,0)) (s5:=(V,0,0)) HX2.out.1 HX2.out.2 qg.out HK.out);have HU:=L (Row.dH ho);obtain⟨v0,v1,v2,v3,v4,v5⟩:=hbx.eZ;clear hbx ho hblk hbl HB2 HX2 BE OE;simp only [Exit.then]
    apply_assumption
    go_wp2_with fail;refine bodyPost_ret (v:=.tuple #[aV #[U O me,J no nn nc,J ao an ac,J so sn sc,J ea iB iC,J oo dY oc],dU sl]) (by simp [results,cB,go_sem,h69,h79,v0,v1,v2,v3,v4,v5]) IW ?_;have h9:=HAN.out;subst h9;rw [DB.out];exact⟨⟨(ea,iB,iC),sl,rfl,HC.out,_,HU.out,(Zb iD HX3.out.2).append (.cons ⟨rfl,rfl,rfl,rfl,iL _,rfl⟩ .nil)⟩,BL.out⟩
end Bk
namespace Av
open Go.RowKit Go.Sort Rw YtmklifheakemeaaGreat.Nm Pr Bk
end Av
namespace Bk
open Go.RowKit Go.Sort Rw YtmklifheakemeaaGreat.Nm Pr
theorem xC {α:Type} {E:Ek α} (K:E.Ok) {w:aA} (B:Nat) {v x:au} {l m:List α} (hown:Own E w B v l) (hx:Row E w x m) (hn:l.length<=1000000) (hm:m.length<=1000000) (hB:B<=w.heap.size) (ty:TypeId) :
  ∃ v' w',(aO #[E.ts,E.ts] ty #[v,x]).run Z w=.ok v' w'/\Own E w' B v' (l++m)/\w.grownBy w' v.ownBlock:=by
 obtain⟨i,i1,i2,i3,i4⟩:=K.info;rcases hx with⟨rfl,rfl⟩|⟨ad,c,rfl,h2,h3,h4⟩
 ·exact⟨v,w,run_append_owned_none (P:=Z) (w:=w) B E.ts ty E.t i E.n K.hu i1 v _ _ hown,by simpa using hown,rT _ _⟩
 ·have hf:=K.few;obtain⟨v',w',r1,r2,r3,_⟩:=run_append_own (P:=Z) w B E.ts ty E.t i E.z E.n E.bytes K.hu i1 i2 i3 i4 K.zs K.pos v _ _ hown ad m.length c (flat E m) (eB K m) h4 (qH K m) (by unfold maxLen; omega)
   (ay (aX (show l.length+m.length<=2000000 by omega) hf) (by decide)) hB
  exact⟨v',w',r1,by rw [Own,aY,gV]; exact r2,r3⟩
def Gn (B:Nat) (_ _:Nat) (me:Int) (o1 o2 o3 o4 o5:Option bR) (n1 k1 n2 k2 n3 k3 n4 k4 n5 k5:Nat) (so iD:Option bR) (sn sc tn tc:Nat) (lo ls:List mO) (_ _ _ _ _ _:au) (i:Nat) (v:au) (x:aA):Prop :=
 match i with
 | 0=>v=aV #[U O me,J o1 n1 k1,J o2 n2 k2,J o3 n3 k3,J o4 n4 k4,J o5 n5 k5]
 | 1=>jI x B v []
 | 2=>v=J so sn sc
 | 3=>jI x B v lo
 | 4=>v=J iD tn tc
 | 5=>jI x B v (lo++ls)
 | _=>True
noncomputable def Uv:Code:=((Tryz.f38.body.bind (eO 16)).getD .skip)
theorem QG (B:Nat) (b2 b12:Nat) (me:Int) (o1 o2 o3 o4 o5:Option bR) (n1 k1 n2 k2 n3 k3 n4 k4 n5 k5:Nat) (so iD:Option bR) (sn sc tn tc:Nat) (lo ls:List mO) (z0 z1 z2 z3 z4 z5:au) (i:Nat) (v:au) (x x':aA) (h:Gn B b2 b12 me o1 o2 o3 o4 o5 n1 k1 n2 k2 n3 k3 n4 k4 n5 k5 so iD sn sc tn tc lo ls z0 z1 z2 z3 z4 z5 i v x) (hb:Below x.heap.size x x'):Gn B b2 b12 me o1 o2 o3 o4 o5 n1 k1 n2 k2 n3 k3 n4 k4 n5 k5 so iD sn sc tn tc lo ls z0 z1 z2 z3 z4 z5 i v x':=by
 by_cases hi:i<6
 ·rcases (by omega:i=0\/i=1\/i=2\/i=3\/i=4\/i=5) with rfl|rfl|rfl|rfl|rfl|rfl
  ·exact h
  ·exact dI h hb
  ·exact h
  ·exact dI h hb
  ·exact h
  ·exact dI h hb
 ·unfold Gn
  split <;> first | omega | trivial
theorem aeY (Q:Exit->Act->aA->Prop) (W:aA) (b2 b12:Nat) (me:Int) (o1 o2 o3 o4 o5:Option bR) (n1 k1 n2 k2 n3 k3 n4 k4 n5 k5:Nat) (so iD:Option bR) (sn sc tn tc:Nat) (lo ls:List mO) (z0 z1 z2 z3 z4 z5:au) (u0 u1 u3 u4 u5 u6 u7 u8 u10 u11 u14 u15 u16 u17 u18 u19 u20 u21 u22 u23 u24 u25 u26 u27 u28 u29 u30 u31 u32 u33 u34 u35 u36 u37 u38 u39 u40 u41 u42 u43 u44 u45 u46 u47 u48 u49 u50 u51 u52 u53 u54 u55 u56 u57 u58 u59 u60 u61 u62:au)
  (h2:dK W b2 #[z0,z1,z2,z3,z4,z5] 28) (h12:dK W b12 #[U O me,J o1 n1 k1,J o2 n2 k2,J o3 n3 k3,J o4 n4 k4,J o5 n5 k5] 28) (wB:Qh W (J so sn sc) lo) (rls:Qh W (J iD tn tc) ls) (l9:lo.length<=1000000) (s9:ls.length<=1000000)
  (hQ:∀ (x:aA) (w9:au) (v54 v55 v56 v57 v58 v59:au),dK x b2 #[U O me,J o1 n1 k1,J o2 n2 k2,J o3 n3 k3,J o4 n4 k4,J o5 n5 k5] 28->jI x W.heap.size w9 (lo++ls)->(∀ j,j<W.heap.size->j≠b2->x.heap[j]?=W.heap[j]?)->(∀ B,B<=b2->Below B W x)->Q .normal ⟨(u0::u1::ah (X ⟨b2,0,V⟩)::u3::u4::u5::u6::u7::u8::w9::u10::u11::ah (X ⟨b12,0,V⟩)::J iD tn tc::u14::u15::u16::u17::u18::u19::u20::u21::u22::u23::u24::u25::u26::u27::u28::u29::u30::u31::u32::u33::u34::u35::u36::u37::u38::u39::u40::u41::u42::u43::u44::u45::u46::u47::u48::u49::u50::u51::u52::u53::v54::v55::v56::v57::v58::v59::u60::u61::u62::[]).toArray,[]⟩ x) :
  Code.wp Z Uv Q ⟨(u0::u1::ah (X ⟨b2,0,V⟩)::u3::u4::u5::u6::u7::u8::J so sn sc::u10::u11::ah (X ⟨b12,0,V⟩)::J iD tn tc::u14::u15::u16::u17::u18::u19::u20::u21::u22::u23::u24::u25::u26::u27::u28::u29::u30::u31::u32::u33::u34::u35::u36::u37::u38::u39::u40::u41::u42::u43::u44::u45::u46::u47::u48::u49::u50::u51::u52::u53::u54::u55::u56::u57::u58::u59::u60::u61::u62::[]).toArray,[]⟩ W:=by
 have HQ:=L hQ;have H2:=L h2;have H12:=L h12;have RLO:=L wB;have RLS:=L rls;have LO:=L l9;have LS:=L s9;clear hQ h2 h12 wB rls l9 s9;have iQ:=QG W.heap.size b2 b12 me o1 o2 o3 o4 o5 n1 k1 n2 k2 n3 k3 n4 k4 n5 k5 so iD sn sc tn tc lo ls z0 z1 z2 z3 z4 z5;unfold Uv
 conv=>arg 2; whnf
 have nd:∀ j,(∀ i,i<6->[54,55,56,57,58,59].getD i 0≠j)->∀ i,i<6->(fun i=>[54,55,56,57,58,59].getD i 0) i≠j:=fun j h=>h;refine Rg.fQ 8 6 (fun i=>[54,55,56,57,58,59].getD i 0) (fun i=>if i=1 then 3 else if i=3 then 5 else 6) (Gn W.heap.size b2 b12 me o1 o2 o3 o4 o5 n1 k1 n2 k2 n3 k3 n4 k4 n5 k5 so iD sn sc tn tc lo ls z0 z1 z2 z3 z4 z5) (by kernel_rfl) (by kernel_rfl) rfl (by decide) (fun i j hi hj h=>(by decide:∀ i,i<6->∀ j,j<6->[54,55,56,57,58,59].getD i 0=[54,55,56,57,58,59].getD j 0->i=j) i hi j hj h) (fun i hi=>(by decide:∀ i,i<6->[54,55,56,57,58,59].getD i 0<63) i hi) ?_ (fun _=>Rg.jl 14 (by kernel_rfl)) ?_ ?_
 ·intro i o hi ho a x D hnd hc hD hb seen K hK;clear HQ;rcases (by omega:i=0\/i=1\/i=2\/i=3\/i=4\/i=5) with rfl|rfl|rfl|rfl|rfl|rfl
  ·cases ho;have e12:a.eval (ak 12)=ah (X ⟨b12,0,V⟩):=seen.kp 12 _ (nd 12 (by decide)) rfl;obtain⟨y0,y1,y2,y3,y4,y5⟩:=(H12.out.on hb).eZ;exact aM rfl rfl (Rg.dX a.eval _ 28 (ak 12) rfl (by rw [e12]; simp [go_sem,y0,y1,y2,y3,y4,y5])) (hK _ _ rfl (aj _ _) fun _ _ _ _ _ _ _ h=>h)
  ·cases ho;have nb:=fM x (aB #[] 43);have hl:=qI (B':=W.heap.size) hb.size (G9 (E:=EU) x);exact aM rfl rfl (Rg.iU a.eval _ 35 0 #[] rfl rfl (by simp [go_sem])) (hK (J (X ⟨x.heap.size,0,V⟩) 0 0) (x.alloc (aB #[] 43)) hl (nb.mono hb.size) fun j u _ _ _ _ _ h=>iQ j u _ _ h nb)
  ·cases ho;have e9:a.eval (ak 9)=J so sn sc:=seen.kp 9 _ (nd 9 (by decide)) rfl;exact aM rfl rfl (Rg.gy a.eval _ (ak 9) rfl x) (hK _ _ e9 (aj _ _) fun _ _ _ _ _ _ _ h=>h)
  ·cases ho;have E55:=seen.at_ ⟨1,.data⟩ (by simp) rfl (bG rfl);have e56:a.eval (ak 56)=J so sn sc:=seen.at_ ⟨2,.data⟩ (by simp) rfl (aD (by decide));have o55:jI x W.heap.size (a.eval (ak 55)) []:=E55;obtain⟨v',x',r,o',gr⟩:=xC D7 W.heap.size o55 (RLO.out.on hb) (by simp) LO.out hb.size 35;have o'':jI x' W.heap.size v' lo:=by simpa using o'
   exact aM rfl rfl (Rg.fZ a.eval _ (ak 55) (ak 56) 35 rfl rfl e56 r) (hK v' x' o'' ((aj _ x).grown gr hb.size fun j hj=>(o55.lt j hj).1) fun j u hj dj nl nx ni h=>by
    rcases (by omega:j=0\/j=1\/j=2\/j=3\/j=4\/j=5) with rfl|rfl|rfl|rfl|rfl|rfl
    ·exact h
    ·exact absurd rfl nx
    ·exact h
    ·exact absurd rfl ni
    ·exact h
    ·exact absurd (hc 5 _ dj rfl ⟨3,.data⟩ (by simp) rfl) hnd)
  ·cases ho;have e13:a.eval (ak 13)=J iD tn tc:=seen.kp 13 _ (nd 13 (by decide)) rfl;exact aM rfl rfl (Rg.gy a.eval _ (ak 13) rfl x) (hK _ _ e13 (aj _ _) fun _ _ _ _ _ _ _ h=>h)
  ·cases ho;have E57:=seen.at_ ⟨3,.data⟩ (by simp) rfl (bG rfl);have e58:a.eval (ak 58)=J iD tn tc:=seen.at_ ⟨4,.data⟩ (by simp) rfl (aD (by decide));have o57:jI x W.heap.size (a.eval (ak 57)) lo:=E57;obtain⟨v',x',r,o',gr⟩:=xC D7 W.heap.size o57 (RLS.out.on hb) LO.out LS.out hb.size 35;have d3:D 3:=hD ⟨3,.data⟩ (by simp) rfl;exact aM rfl rfl (Rg.fZ a.eval _ (ak 57) (ak 58) 35 rfl rfl e58 r) (hK v' x' o' ((aj _ x).grown gr hb.size fun j hj=>(o57.lt j hj).1) fun j u hj dj nl nx ni h=>by
    rcases (by omega:j=0\/j=1\/j=2\/j=3\/j=4\/j=5) with rfl|rfl|rfl|rfl|rfl|rfl
    ·exact h
    ·exact absurd d3 nl
    ·exact h
    ·exact absurd rfl nx
    ·exact h
    ·exact absurd rfl ni)
 ·intro kk o h1 h2 ho;rcases (by omega:kk=7) with rfl
  ·cases ho;exact⟨⟨6,.chain⟩,by simp,rfl,rfl⟩
 ·intro a w' df sz kp ⟨vs,hv⟩ hb;have sz':a.tmps.size=63:=sz;have g2:a.tmps[2]?=X (ah (X ⟨b2,0,V⟩)):=(kp 2 (nd 2 (by decide))).trans rfl;have g54:a.tmps[54]?=X (aV #[U O me,J o1 n1 k1,J o2 n2 k2,J o3 n3 k3,J o4 n4 k4,J o5 n5 k5]):=by
   have h:vs 0=aV #[U O me,J o1 n1 k1,J o2 n2 k2,J o3 n3 k3,J o4 n4 k4,J o5 n5 k5]:=(hv 0 (by omega)).2 (by decide);rw [<- h];exact (hv 0 (by omega)).1
  have g59:a.tmps[59]?=X (vs 5):=(hv 5 (by omega)).1;have G59:=(hv 5 (by omega)).2 (by decide);have o59:jI w' W.heap.size (vs 5) (lo++ls):=G59;generalize vs 5=v' at *;have H2x:=H2.out.on hb;have lt2:=H2.out.lt;show Rg.fH _ _ _ 2 6 a w';simp only [Rg.fH];refine Rg.fP 28 (ak 2) (ak 54) rfl rfl rfl rfl (Rg.dN g2) (Rg.dN g54) (w':=gH w' b2 (U O me) (J o1 n1 k1) (J o2 n2 k2) (J o3 n3 k3) (J o4 n4 k4) (J o5 n5 k5)) (p8 H2x me _ _ _ _ _ _ _ _ _ _ _ _ _ _ _) ?_;refine aM rfl rfl (Rg.kM a.eval _ (ak 59) rfl _) ?_;show Q .normal (a.put (X 9) (a.eval (ak 59))) _;rw [Rg.dN g59];have hx:=dM H2x (U O me) (J o1 n1 k1) (J o2 n2 k2) (J o3 n3 k3) (J o4 n4 k4) (J o5 n5 k5);have ho:=fO o59 b2 lt2 (U O me) (J o1 n1 k1) (J o2 n2 k2) (J o3 n3 k3) (J o4 n4 k4) (J o5 n5 k5);have hk:∀ j,j<W.heap.size->j≠b2->(gH w' b2 (U O me) (J o1 n1 k1) (J o2 n2 k2) (J o3 n3 k3) (J o4 n4 k4) (J o5 n5 k5)).heap[j]?=W.heap[j]?:=fun j hj hne=>(dL w' b2 (U O me) (J o1 n1 k1) (J o2 n2 k2) (J o3 n3 k3) (J o4 n4 k4) (J o5 n5 k5) j hne).trans (hb.block j hj);have hbl:∀ B,B<=b2->Below B W (gH w' b2 (U O me) (J o1 n1 k1) (J o2 n2 k2) (J o3 n3 k3) (J o4 n4 k4) (J o5 n5 k5)):=fun B hB=>dG (hb.mono (dn (bS hB lt2))) hB _ _ _ _ _ _;obtain⟨sa,iK,hsv⟩:=(Row.dH ho).len;generalize gH w' b2 (U O me) (J o1 n1 k1) (J o2 n2 k2) (J o3 n3 k3) (J o4 n4 k4) (J o5 n5 k5)=x2 at *;have ka:∀ j,j≠9->(a.put (X 9) v').tmps[j]?=a.tmps[j]?:=fun j h1=>by rw [cK _ _ _ _ (by omega)]
  have kt:(a.put (X 9) v').tmps[9]?=X (v'):=by simp [bL,sz']
  have rV:∀ j,(j<54\/60<=j)->(a.put (X 9) v').tmps[j]?=(u0::u1::ah (X ⟨b2,0,V⟩)::u3::u4::u5::u6::u7::u8::v'::u10::u11::ah (X ⟨b12,0,V⟩)::J iD tn tc::u14::u15::u16::u17::u18::u19::u20::u21::u22::u23::u24::u25::u26::u27::u28::u29::u30::u31::u32::u33::u34::u35::u36::u37::u38::u39::u40::u41::u42::u43::u44::u45::u46::u47::u48::u49::u50::u51::u52::u53::u54::u55::u56::u57::u58::u59::u60::u61::u62::[])[j]?:=fun j hj=>by
   by_cases hj2:j=9
   ·subst hj2;exact kt
   ·have hs:(u0::u1::ah (X ⟨b2,0,V⟩)::u3::u4::u5::u6::u7::u8::v'::u10::u11::ah (X ⟨b12,0,V⟩)::J iD tn tc::u14::u15::u16::u17::u18::u19::u20::u21::u22::u23::u24::u25::u26::u27::u28::u29::u30::u31::u32::u33::u34::u35::u36::u37::u38::u39::u40::u41::u42::u43::u44::u45::u46::u47::u48::u49::u50::u51::u52::u53::u54::u55::u56::u57::u58::u59::u60::u61::u62::[]:List au)=(u0::u1::ah (X ⟨b2,0,V⟩)::u3::u4::u5::u6::u7::u8::J so sn sc::u10::u11::ah (X ⟨b12,0,V⟩)::J iD tn tc::u14::u15::u16::u17::u18::u19::u20::u21::u22::u23::u24::u25::u26::u27::u28::u29::u30::u31::u32::u33::u34::u35::u36::u37::u38::u39::u40::u41::u42::u43::u44::u45::u46::u47::u48::u49::u50::u51::u52::u53::u54::u55::u56::u57::u58::u59::u60::u61::u62::[]).set 9 (v'):=rfl;rw [hs,bH (Ne.symm hj2)];exact (ka j hj2).trans ((kp j (nd j fun i hi h=>by have:=(by decide:∀ i,i<6->54<=[54,55,56,57,58,59].getD i 0/\[54,55,56,57,58,59].getD i 0<60) i hi; omega)).trans aG)
  obtain⟨mid,hmid,hfr⟩:=Rg.gI (a:=a.put (X 9) v') 54 6 (by simp [bL,df]) (by simp [bL,sz']) (by simp) rV;rw [hfr]
  match mid,hmid with
  | [v54,v55,v56,v57,v58,v59],_ =>
   exact HQ.out x2 _ _ _ _ _ _ _ hx ho hk hbl
theorem yP {t:Id} {m:List En} (R:En->Prop) (hR:∀ e,e.tree=t->R e->R (XY e)) (h:∀ e∈m,R e):∀ k,(∀ e∈(iV t m k).1,R e)/\∀ e∈(iV t m k).2,R e
 | 0=>⟨h,fun e he=>by simp [iV] at he⟩
 | k+1=>by
  have ih:=yP (t:=t) R hR h k;rw [nk];unfold iJ
  split
  ·exact ih
  ·rename_i e he
   split
   ·rename_i hcond
    have hu:=hR e hcond.1 (ih.1 e (List.mem_of_getElem? he));refine⟨fun x hx=>?_,fun x hx=>?_⟩
    ·rcases List.mem_or_eq_of_mem_set hx with h1|h1
     ·exact ih.1 x h1
     ·rw [h1];exact hu
    ·rcases aS.1 hx with h1|h1
     ·exact ih.2 x h1
     ·rw [List.mem_singleton.1 h1];exact hu
   ·exact ih
theorem r9 {α:Type} {l:List α} {k:Nat} {x:α} (h:x∈cutAt l k):x∈l:=by
 rcases aS.1 h with h|h
 ·exact List.mem_of_mem_take h
 ·exact List.mem_of_mem_drop h
theorem Ew {b:Br} (t x:Id) (f:Int) (R:En->Prop) (hR:∀ e,e.tree=t->R e->R (XY e)) (h:∀ e∈b.ent,R e):(∀ e∈(takeB b t x f).1.ent,R e)/\∀ e∈(takeB b t x f).2.1,R e:=by
 unfold takeB
 split
 ·exact⟨h,fun e he=>by simp at he⟩
 ·split
  ·exact⟨h,fun e he=>by simp at he⟩
  ·split
   ·exact⟨h,fun e he=>by simp at he⟩
   ·split
    ·exact⟨fun e he=>h e (r9 he),fun e he=>by simp at he⟩
    ·exact yP R hR (fun e he=>h e (r9 he)) _
theorem Ey (b:Br) (t x:Id) (f:Int):(kI b t x f).2.length<=b.ent.length+1:=by
 unfold kI;have h:=(uQ b t x f).2
 split
 ·simp
 ·split
  ·simp
  ·rw [aY,aK];simp;omega
def Ez (x:Id) (s:Br×List Ou) (t:Id):Br×List Ou:=((kI s.1 t x (-1)).1,s.2++(kI s.1 t x (-1)).2)
def wm (b:Br) (x:Id):List Ow:=b.own.filter fun o=>decide (o.id≠x)
def jS (b:Br) (x:Id) (k:Nat):Br×List Ou:=((b.dQ.map Ad.id).take k).foldl (Ez x) ({ b with own:=wm b x },[])
def iP (b:Br) (x:Id):Br×List Ou:=if (wm b x).length=b.own.length then (b,[]) else jS b x b.dQ.length
theorem lX (b:Br) (x:Id) {k:Nat} {a:Ad} (h:b.dQ[k]?=X a):jS b x (k+1)=Ez x (jS b x k) a.id:=by
 unfold jS;rw [bW,bV,h,List.foldl_append]
 rfl
structure UnI (b0 b:Br) (o:List Ow):Prop where
 me:b.me=b0.me
 near:b.near=b0.near
 dQ:b.dQ=b0.dQ
 seen:b.seen=b0.seen
 own:b.own=o
 len:b.ent.length<=b0.ent.length
theorem UnI.drop {b0 b:Br} {o:List Ow} (h:UnI b0 b o) (t x:Id) (f:Int):UnI b0 (kI b t x f).1 o:=by
 rw [jh];obtain⟨h1,h2,h3,h4,h5⟩:=jQ b t x f;exact⟨h3.trans h.me,h2.trans h.near,h1.trans h.dQ,h4.trans h.seen,h5.trans h.own,ay (uQ b t x f).1 h.len⟩
theorem qY (b:Br) (x:Id):∀ k,k<=b.dQ.length->UnI b (jS b x k).1 (wm b x)/\(jS b x k).2.length<=k * (b.ent.length+1)
 | 0,_=>⟨⟨rfl,rfl,rfl,rfl,rfl,aP _⟩,by simp [jS]⟩
 | k+1,hk=>by
  obtain⟨a,ha⟩:∃ a,b.dQ[k]?=X a:=⟨_,Y hk⟩;obtain⟨h1,h2⟩:=qY b x k (by omega);rw [lX b x ha];refine⟨h1.drop _ _ _,?_⟩;show ((jS b x k).2++(kI (jS b x k).1 a.id x (-1)).2).length<=_;have h3:=Ey (jS b x k).1 a.id x (-1);have h4:=h1.len;rw [aY,Nat.add_mul];omega
theorem sj (b:Br) (x:Id) (R:En->Prop) (hR:∀ e,R e->R (XY e)) (h:∀ e∈b.ent,R e):∀ k,k<=b.dQ.length->∀ e∈(jS b x k).1.ent,R e
 | 0,_=>h
 | k+1,hk=>by
  obtain⟨a,ha⟩:∃ a,b.dQ[k]?=X a:=⟨_,Y hk⟩;rw [lX b x ha];show ∀ e∈(kI _ _ _ _).1.ent,R e;rw [jh];exact (Ew _ _ _ R (fun e _=>hR e) (sj b x R hR h k (by omega))).1
theorem Cg {W W':aA} {k:Nat} {me:Int} {s1 s2 s3 s4 s5:Sl} {l:List mO} {m:List Ou} (h:eP (tC W) l m) (hb:dK W k (jA me s1 s2 s3 s4 s5) 28) (hk:∀ j,j<W.heap.size->j≠k->W'.heap[j]?=W.heap[j]?):eP (tC W') l m :=
 h.mono fun _ _ hx=>⟨hx.1,hx.2.1,hx.2.2.1,hx.2.2.2.1,iI uW hx.2.2.2.2.1 hk (rW hb (rX me s1 s2 s3 s4 s5)),hx.2.2.2.2.2⟩
def keepW (x:Id) (o:qM):Bool:=decide ((o.1,o.2.1)≠x)
theorem Jf (b:Br) (nv av sv ev ov:Sl) (x:Id) (w:aA) (h:iZ w b nv av sv ev ov) (l2:b.dQ.length<=900) (l3:b.ent.length<=900) (l4:b.own.length<=900) (hok:∀ e∈b.ent,dZ e.p) (hkn:∀ e∈b.ent,e.tree∈b.dQ.map Ad.id) :
  bP Z 38 #[rP b.me nv av sv ev ov,mM x] w fun e w'=>(∃ ev' ZV lo:Sl,e=aC (.tuple #[rP b.me nv av sv ev' ZV,dU lo])/\iZ w' (iP b x).1 nv av sv ev' ZV/\lW w' lo (iP b x).2)/\Below w.heap.size w w':=by
 obtain⟨no,nn,nc⟩:=nv;obtain⟨ao,an,ac⟩:=av;obtain⟨so,sn,sc⟩:=sv;obtain⟨eo,en,ec⟩:=ev;obtain⟨oo,dY,oc⟩:=ov;obtain⟨c,d⟩:=x;obtain⟨ws,hw1,hw2⟩:=h.own;obtain⟨q1,q2,hq⟩:=hw1.len;obtain⟨rfl,rfl,rfl⟩:oo=q1/\dY=ws.length/\oc=q2:=by
  have:J oo dY oc=J q1 ws.length q2:=hq;simpa using this
 have HH:=L h;have L2:=L l2;have L3:=L l3;have WL:=L (show ws.length<=900 from by rw [hw2.len]; exact l4);have HW2:=L hw2;have OK:=L hok;have KN:=L hkn;obtain⟨dY,hon⟩:∃ n,n=ws.length:=⟨_,rfl⟩;simp only [<- hon] at HH hw1 ⊢;have N5:=L hon;obtain⟨h0,h1,h2,h3⟩:=gK w #[U O b.me,J no nn nc,J ao an ac,J so sn sc,J eo en ec,J oo dY oc] #[U O c,U O d] #[U O 0,J V 0 0,J V 0 0,J V 0 0,J V 0 0,J V 0 0] 28 31 28;obtain⟨me,hme⟩:∃ me,me=b.me:=⟨_,rfl⟩;simp only [<- hme] at h0 h1 h2 h3 ⊢;have gB:=L (h0);have Lx:=L (h1);have LJ:=L (h2);have LK:=L (h3);have LW:=L (hw1.on h0);have ME:=L hme;clear h0 h1 h2 h3 h l2 l3 l4 hme hok hkn hw1 hw2 hq hon;show bP Z 38 #[aV #[U O me,J no nn nc,J ao an ac,J so sn sc,J eo en ec,J oo dY oc],aV #[U O c,U O d]] w _;go_enter Tryz.func38,Tryz.ntmps38;go_upto_region 1 with fail;generalize (((w.alloc (aB #[U O me,J no nn nc,J ao an ac,J so sn sc,J eo en ec,J oo dY oc] 28)).alloc (aB #[U O c,U O d] 31)).alloc (aB #[U O 0,J V 0 0,J V 0 0,J V 0 0,J V 0 0,J V 0 0] 28))=W at *;have W4:=L (show w.heap.size+3<=W.heap.size from by have:=LK.out.lt; omega);obtain⟨x0,x1,x2,x3,x4,x5⟩:=Lx.out.eZ;go_wp2_with fail;clear x0 x1 x2 x3 x4 x5
 go_loopw [6,17] (fun v i wr=>∃ q:Nat,q<=dY/\i=U O q/\Below W.heap.size W wr/\qN wr W.heap.size v ((ws.take q).filter (keepW (c,d)))) (fun _ i _=>dY-(intOf i).toNat)
 case atStart=>exact⟨0,aJ _,rfl,aj _ _,iM _ _⟩
 case round =>
  obtain⟨q,hq,rfl,hbe,hown⟩:=hrel;have BE:=L hbe;have OE:=L hown;clear hbe hown;have l9:dY<=900:=by rw [N5.out]; exact WL.out
  by_cases hlt:q<dY
  ·have hlt':(q:Int)<(dY:Int):=by omega
   have hw:IntKind.i64.wrap ((q:Int)+1)=(q:Int)+1:=IntWalk.i64_in _ (by omega);obtain⟨z,hz⟩:∃ z,ws[q]?=X z:=⟨_,Y (by rw [<- N5.out]; exact hlt)⟩;obtain⟨p,ix,px⟩:=elW LW.out rfl N5.out.symm hz;obtain⟨p0,p1,p2⟩:=px wr BE.out;have FS:=L (Ay ws q z (keepW (c,d)) hz);obtain⟨y1,y2,⟨yo,yn,yc⟩⟩:=z;simp only at p0 p1 p2;clear px hz;go_upto_region 5 with fail;clear p0 p1 p2 ix;have NN:=fM wr (aB #[U O y1,U O y2,J yo yn yc] 34);have XE:=L (dJ wr #[U O y1,U O y2,J yo yn yc] 34);have Ut:=L (BE.out.trans (NN.mono BE.out.size));have P7:=L (dI OE.out NN);clear BE OE NN;generalize wr.alloc (aB #[U O y1,U O y2,J yo yn yc] 34)=wa at *;obtain⟨e0_,e1_,e2_⟩:=XE.out.cs3;have y0:=(LJ.out.on Ut.out).cell 0;have y1_:=(LJ.out.on Ut.out).cell 1;simp only [aG,aQ,aR] at y0 y1_;obtain⟨r,hr⟩:∃ r,(!(y1 == c && y2 == d))=r:=⟨_,rfl⟩;have he:=P6 y1 y2 c d r hr;have KW:=L (show keepW (c,d) (y1,y2,(yo,yn,yc))=r by
    rw [<- hr];unfold keepW;by_cases h1:y1=c <;> by_cases h2:y2=d <;> simp [h1,h2])
   clear hr;cases r
   ·go_wp2_with fail
    go_roundw
    case rel=>exact⟨q+1,hlt,by go_num,Ut.out,by rw [FS.out,KW.out]; simpa using P7.out⟩
    case measure=>simp [intOf]; omega
   ·have hl:=iF okW wa [((y1,y2,(yo,yn,yc)):qM)] 1 rfl (by simp) #[U O y1,U O y2,J yo yn yc] (by rfl);have NB:=fM wa (aB #[U O y1,U O y2,J yo yn yc] 34);obtain⟨v',x5,q2,o2,g2⟩:=gJ okW W.heap.size (dI P7.out NB) (Row.dH hl) (by have h1:=List.length_filter_le (keepW (c,d)) (ws.take q); rw [cu] at h1; omega) (by simp) (ay Ut.out.size NB.size) 26;have q2:(aO #[26,26] 26 #[u6,J (X ⟨wa.heap.size,0,V⟩) 1 1]).run Z (wa.alloc (aB #[U O y1,U O y2,J yo yn yc] 34))=.ok v' x5:=q2;have BX:=L ((Ut.out.trans (NB.mono Ut.out.size)).grown g2 (ay Ut.out.size NB.size) (fun j hj=>((dI P7.out NB).lt j hj).1));have O2:=L o2;clear hl NB o2 g2;go_wp2_with (first | (at_builtin; refine wpList_append_run rfl _ _ 26 rfl rfl rfl q2 ?_) | fail)
    go_roundw
    case rel=>exact⟨q+1,hlt,by go_num,BX.out,by rw [FS.out,KW.out]; simpa using O2.out⟩
    case measure=>simp [intOf]; omega
  ·obtain rfl:dY=q:=by omega
   have et:ws.take dY=ws:=bF (by have:=N5.out; omega);rw [et] at OE;clear et;have FI:=L (show eP (zL w) (ws.filter (keepW (c,d))) (wm b (c,d)) from HW2.out.fil _ _ fun a b h=>by unfold keepW; rw [h.1]);generalize ws.filter (keepW (c,d))=ls at *;obtain⟨la,lc,hlv⟩:=(Row.dH OE.out).len;obtain⟨ln,hln⟩:∃ n,n=ls.length:=⟨_,rfl⟩;rw [<- hln] at hlv;subst hlv;have LN:=L hln;clear hln;have LE:=L (show (wm b (c,d)).length=ln from by rw [LN.out,FI.out.len]);have LO:=L (show b.own.length=dY from by rw [<- HW2.out.len,N5.out]);have jR:=L (gB.out.trans (BE.out.mono gB.out.size));have Uw:=L (Lx.out.on BE.out);have wo:=L (LJ.out.on BE.out);have oq:=L (LK.out.on BE.out);have Gp:=L (LW.out.on BE.out);clear gB Lx LJ LK LW;obtain⟨x0,x1,x2,x3,x4,x5⟩:=Uw.out.eZ;by_cases hll:ln=dY
   ·have hq1:((ln:Int) == (dY:Int))=bn:=by simp [hll]
    have HI:=L (HH.out.on jR.out);obtain⟨r0,r1,r2,r3,r4,r5⟩:=oq.out.eZ;obtain⟨wW,vg,zN,Bl,Bn,Bo⟩:=oq.out.kL;have zz:=oq.out.lt;have GG:=L (dM oq.out (U O me) (J no nn nc) (J ao an ac) (J so sn sc) (J eo en ec) (J oo dY oc));have BL:=L (dG (b:=w.heap.size+1+1) jR.out (by omega) (U O me) (J no nn nc) (J ao an ac) (J so sn sc) (J eo en ec) (J oo dY oc));have HK:=L (fun j (_:j<wr.heap.size) (hj:j≠w.heap.size+1+1)=>dL wr (w.heap.size+1+1) (U O me) (J no nn nc) (J ao an ac) (J so sn sc) (J eo en ec) (J oo dY oc) j hj);have HC:=L (fF (s1:=(V,0,0)) (s2:=(V,0,0)) (s3:=(V,0,0)) (s4:=(V,0,0)) (s5:=(V,0,0)) HI.out oq.out HK.out (HH.out.near.on BL.out));go_wp2_with fail;obtain⟨v0,v1,v2,v3,v4,v5⟩:=GG.out.eZ;refine bodyPost_ret (v:=.tuple #[aV #[U O me,J no nn nc,J ao an ac,J so sn sc,J eo en ec,J oo dY oc],J V 0 0]) (by simp [results,cO,go_sem,v0,v1,v2,v3,v4,v5]) rfl ?_;have hd:iP b (c,d)=(b,[]):=by unfold iP; rw [if_pos (by rw [LE.out,LO.out]; exact hll)]
    rw [hd];exact⟨⟨(eo,en,ec),(oo,dY,oc),(V,0,0),rfl,HC.out,qV _⟩,BL.out⟩
   ·have hq1:((ln:Int) == (dY:Int))=bf:=by simp; omega
    have DB:=L (show iP b (c,d)=jS b (c,d) b.dQ.length from by unfold iP; rw [if_neg (by rw [LE.out,LO.out]; exact hll)]);have f5:=Uw.out.fr 5;have zz:=Uw.out.lt;go_upto_region 11 with fail;clear x0 x1 x2 x3 x4 x5;have B2:=L (jR.out.setCell (p:=⟨w.heap.size,5,V⟩) (aP _) (J la ln lc));have X2b:=dW (k:=5) Uw.out (J la ln lc);simp only [List.setIfInBounds_toArray,List.set_cons_zero,List.set_cons_succ] at X2b;have X3b:dK _ _ _ _:=(aZ wr ⟨w.heap.size,5,V⟩ (J la ln lc) _ (show w.heap.size+1≠w.heap.size by omega)).trans wo.out;have X4b:dK _ _ _ _:=(aZ wr ⟨w.heap.size,5,V⟩ (J la ln lc) _ (show w.heap.size+1+1≠w.heap.size by omega)).trans oq.out;have OL:=L (eF OE.out w.heap.size 5 (J la ln lc) (by have:=W4.out; omega));have BS:=L (show iZ _ { b with own:=wm b (c,d) } (no,nn,nc) (ao,an,ac) (so,sn,sc) (eo,en,ec) (la,ln,lc) from ⟨HH.out.near.on B2.out,(HH.out.on B2.out).dQ,(HH.out.on B2.out).seen,(HH.out.on B2.out).ent,⟨ls,Row.dH OL.out,FI.out.mono fun _ _ h=>h.on B2.out⟩⟩);clear zz f5 OL OE BE jR Uw wo oq Gp;generalize wr.setCell ⟨w.heap.size,5,V⟩ (J la ln lc)=w2 at *;have lS:=L (B2.out);have ac3:=L (X2b);have pR:=L (X3b);have qh:=L (X4b);clear B2 X2b X3b X4b;obtain⟨ad0,ha1,ha2⟩:=BS.out.dQ;obtain⟨q1,q2,hqv⟩:=ha1.len;obtain rfl:an=b.dQ.length:=by have h1:(J ao an ac)=J q1 ad0.length q2:=hqv; have h2:an=ad0.length:=(by simpa using congrArg (fun v=>match v with|Value.slice _ n _=>n|_=>0) h1); rw [h2,ha2.len]
    clear hqv ha1 ha2;obtain⟨an,han⟩:∃ n,n=b.dQ.length:=⟨_,rfl⟩;have AN:=L (show b.dQ.length<=900 from L2.out);obtain⟨x0,x1,x2,x3,x4,x5⟩:=ac3.out.eZ;go_wp2_with fail;clear x0 x1 x2 x3 x4 x5
    go_loopw [9,42] (fun v i wr=>∃ (k:Nat) (ea:Option bR) (iB iC:Nat) (ta:Option bR) (tn tc:Nat),k<=b.dQ.length/\i=U O k/\v=J ta tn tc/\Below w.heap.size w wr/\dK wr w.heap.size #[U O me,J no nn nc,J ao b.dQ.length ac,J so sn sc,J ea iB iC,J la ln lc] 28/\dK wr (w.heap.size+1) #[U O c,U O d] 31/\dK wr (w.heap.size+1+1) #[U O 0,J V 0 0,J V 0 0,J V 0 0,J V 0 0,J V 0 0] 28/\iZ wr (jS b (c,d) k).1 (no,nn,nc) (ao,b.dQ.length,ac) (so,sn,sc) (ea,iB,iC) (la,ln,lc)/\lW wr (ta,tn,tc) (jS b (c,d) k).2) (fun _ i _=>b.dQ.length-(intOf i).toNat)
    case atStart=>exact⟨0,eo,en,ec,V,0,0,aJ _,rfl,rfl,lS.out,ac3.out,pR.out,qh.out,BS.out,qV _⟩
    case round =>
     clear BS lS ac3 pR qh;obtain⟨k,ea,iB,iC,ta,tn,tc,hk,rfl,rfl,hgb,hx2,hx3,hx4,hbr,hou⟩:=hrel;have Od:=L (hgb);have Ux:=L (hx2);have aap:=L (hx3);have ze:=L (hx4);have Oe:=L (hbr);have Uy:=L (hou);clear hgb hx2 hx3 hx4 hbr hou;have UK:=L (qY b (c,d) k hk);have l9:=AN.out;by_cases hlt:k<b.dQ.length
     ·have hlt':(k:Int)<(b.dQ.length:Int):=by omega
      have hw:IntKind.i64.wrap ((k:Int)+1)=(k:Int)+1:=IntWalk.i64_in _ (by omega);obtain⟨a,hak⟩:∃ a,b.dQ[k]?=X a:=⟨_,Y hlt⟩;have US:=L (lX b (c,d) hak);have PK:=L (sj b (c,d) (fun e=>dZ e.p) (fun _ h=>h) OK.out k hk);have TKN:=L (sj b (c,d) (fun e=>e.tree∈b.dQ.map Ad.id) (fun _ h=>h) KN.out k hk);obtain⟨ad,zO,xB⟩:=Oe.out.dQ;rw [UK.out.1.dQ] at xB;obtain⟨z,hz1,hz2⟩:=xB.at k a hak;obtain⟨p,ix,px⟩:=M7 zO rfl (by rw [xB.len]) hz1;obtain⟨p0,p1,p2,p3⟩:=px wr (aj _ _);obtain⟨z1,z2,⟨z3,z4,z5⟩,z6⟩:=z;simp only at p0 p1 p2 p3;have ZI:=L (show a.id=(z1,z2) from hz2.1.symm);clear px hz1 hz2 zO xB hak;go_upto_region 15 with fail;clear p0 p1 p2 p3 ix;have NN:=fM wr (aB #[U O z1,U O z2,J z3 z4 z5,U O z6] 74);have zf:=L (Od.out.trans (NN.mono Od.out.size));have Uz:=L (Ux.out.on NN);have UA:=L (aap.out.on NN);have aaq:=L (ze.out.on NN);have UD:=L (Oe.out.on NN);have aar:=L (Uy.out.on NN);clear Od Ux aap ze Oe Uy;clear NN;have LZ:=L (dJ wr #[U O z1,U O z2,J z3 z4 z5,U O z6] 74);generalize wr.alloc (aB #[U O z1,U O z2,J z3 z4 z5,U O z6] 74)=wa at *;have DP:=L (Eu (jS b (c,d) k).1 (no,nn,nc) (ao,b.dQ.length,ac) (so,sn,sc) (ea,iB,iC) (la,ln,lc) (z1,z2) (c,d) (-1) wa UD.out (by rw [UK.out.1.dQ]; exact AN.out) (ay UK.out.1.len L3.out) PK.out (by rw [UK.out.1.dQ]; exact TKN.out));rw [UK.out.1.me,<- ME.out] at DP;obtain⟨x0,x1,x2,x3,x4,x5⟩:=Uz.out.eZ;obtain⟨y0,y1⟩:=UA.out.cs2;obtain⟨zc0,zc1,zc2,zc3⟩:=LZ.out.xQ;rw [ZI.out] at US;have UK2:=L (qY b (c,d) (k+1) hlt);rw [US.out] at UK2;go_wp2_with fail;refine DP.out.mono ?_;rintro e1 w1 ⟨⟨⟨nT,rQ,rR⟩,⟨ta2,tn2,tc2⟩,rfl,hbr,hou⟩,hb⟩;clear DP;clear x0 x1 x2 x3 x4 x5 y0 y1 zc0 zc1 zc2 zc3;have UF:=L (zf.out.trans (hb.mono zf.out.size));have aas:=L (Uz.out.on hb);have Jg:=L (UA.out.on hb);have aat:=L (aaq.out.on hb);have aeZ:=L (UD.out.on hb);have aau:=L (aar.out.on hb);have ac4:=L (LZ.out.on hb);clear zf Uz UA aaq UD aar LZ;have BR2:=L hbr;have OU2:=L hou;clear hb hbr hou aeZ ac4;go_upto_region 16 with fail;have BR3:=L (BR2.out.on (fM w1 (aB #[U O me,J no nn nc,J ao b.dQ.length ac,J so sn sc,J nT rQ rR,J la ln lc] 28)));have OU3:=L (OU2.out.on (fM w1 (aB #[U O me,J no nn nc,J ao b.dQ.length ac,J so sn sc,J nT rQ rR,J la ln lc] 28)));clear BR2 OU2;have NN:=fM w1 (aB #[U O me,J no nn nc,J ao b.dQ.length ac,J so sn sc,J nT rQ rR,J la ln lc] 28);have ae0:=L (UF.out.trans (NN.mono UF.out.size));have Og:=L (aas.out.on NN);have aav:=L (Jg.out.on NN);have tH:=L (aat.out.on NN);have ae1:=L (aau.out.on NN);clear UF aas Jg aat aau;clear NN;have ac5:=L (dJ w1 #[U O me,J no nn nc,J ao b.dQ.length ac,J so sn sc,J nT rQ rR,J la ln lc] 28);generalize w1.alloc (aB #[U O me,J no nn nc,J ao b.dQ.length ac,J so sn sc,J nT rQ rR,J la ln lc] 28)=wb at *;obtain⟨lo,hlo1,hlo2⟩:=ae1.out;obtain⟨ls2,ae2,ac6⟩:=OU3.out;have LL:=UK.out.2;have LD:=Ey (jS b (c,d) k).1 (z1,z2) (c,d) (-1);have LU:=UK.out.1.len;have l3:=L3.out;have LM:k * (b.ent.length+1)<=900 * 901:=aX (by omega) (by omega);refine aeY _ wb w.heap.size w1.heap.size me no ao so nT la nn nc b.dQ.length ac sn sc rQ rR ln lc ta ta2 tn tc tn2 tc2 lo ls2 _ _ _ _ _ _ _ _ _ _ _ _ _ _ _ _ _ _ _ _ _ _ _ _ _ _ _ _ _ _ _ _ _ _ _ _ _ _ _ _ _ _ _ _ _ _ _ _ _ _ _ _ _ _ _ _ _ _ _ _ _ _ _ _ _ Og.out ac5.out hlo1 ae2 (by rw [hlo2.len]; omega) (by rw [ac6.len]; omega) ?_;intro x w9 v54 v55 v56 v57 v58 v59 hbx hown hblk hbl;have GX:=L (ae0.out.trans (hbl _ (aP _)));have Y2:=L hbx;have Y3:=L (show dK _ _ _ _ from (hblk _ aav.out.lt (by omega)).trans aav.out);have Y4:=L (show dK _ _ _ _ from (hblk _ tH.out.lt (by omega)).trans tH.out);have BRX:=L (fF (s1:=(no,nn,nc)) (s2:=(ao,b.dQ.length,ac)) (s3:=(so,sn,sc)) (s4:=(ea,iB,iC)) (s5:=(la,ln,lc)) BR3.out Og.out hblk (by rw [show (kI (jS b (c,d) k).1 (z1,z2) (c,d) (-1)).1.near=b.near from UK2.out.1.near]; exact HH.out.near.on GX.out));have OA:=L ((Cg (s1:=(no,nn,nc)) (s2:=(ao,b.dQ.length,ac)) (s3:=(so,sn,sc)) (s4:=(ea,iB,iC)) (s5:=(la,ln,lc)) hlo2 Og.out hblk).append (Cg (s1:=(no,nn,nc)) (s2:=(ao,b.dQ.length,ac)) (s3:=(so,sn,sc)) (s4:=(ea,iB,iC)) (s5:=(la,ln,lc)) ac6 Og.out hblk));obtain⟨ra,rc,hrv⟩:=(Row.dH hown).len;have RR:=L (Row.dH hown);rw [hrv] at RR;rw [hrv];clear hbx hown hblk hbl hlo1 hlo2 ae2 ac6 hrv BR3 OU3;go_wp2_with fail
      go_roundw
      case rel=>exact⟨k+1,nT,rQ,rR,ra,_,rc,hlt,by go_num,rfl,GX.out,Y2.out,Y3.out,Y4.out,by rw [US.out]; exact BRX.out,by rw [US.out]; exact⟨_,RR.out,OA.out⟩⟩
      case measure=>simp [intOf]; omega
     ·obtain rfl:k=b.dQ.length:=by omega
      obtain⟨x0,x1,x2,x3,x4,x5⟩:=Ux.out.eZ;obtain⟨r0,r1,r2,r3,r4,r5⟩:=ze.out.eZ;obtain⟨wW,vg,zN,Bl,Bn,Bo⟩:=ze.out.kL;have zz:=ze.out.lt;have GG:=L (dM ze.out (U O me) (J no nn nc) (J ao b.dQ.length ac) (J so sn sc) (J ea iB iC) (J la ln lc));have BL:=L (dG (b:=w.heap.size+1+1) Od.out (by omega) (U O me) (J no nn nc) (J ao b.dQ.length ac) (J so sn sc) (J ea iB iC) (J la ln lc));have HK:=L (fun j (_:j<wr.heap.size) (hj:j≠w.heap.size+1+1)=>dL wr (w.heap.size+1+1) (U O me) (J no nn nc) (J ao b.dQ.length ac) (J so sn sc) (J ea iB iC) (J la ln lc) j hj);have HC:=L (fF (s1:=(V,0,0)) (s2:=(V,0,0)) (s3:=(V,0,0)) (s4:=(V,0,0)) (s5:=(V,0,0)) Oe.out ze.out HK.out (by rw [UK.out.1.near]; exact HH.out.near.on BL.out));have HO:=L (jd (s1:=(V,0,0)) (s2:=(V,0,0)) (s3:=(V,0,0)) (s4:=(V,0,0)) (s5:=(V,0,0)) Uy.out ze.out HK.out);go_wp2_with fail;obtain⟨v0,v1,v2,v3,v4,v5⟩:=GG.out.eZ;refine bodyPost_ret (v:=.tuple #[aV #[U O me,J no nn nc,J ao b.dQ.length ac,J so sn sc,J ea iB iC,J la ln lc],J ta tn tc]) (by simp [results,cO,go_sem,v0,v1,v2,v3,v4,v5]) rfl ?_;rw [DB.out];exact⟨⟨(ea,iB,iC),(la,ln,lc),(ta,tn,tc),rfl,HC.out,HO.out⟩,BL.out⟩
end Bk
namespace At
open Go.RowKit Go.Sort Va In
end At
namespace Rl
open Go.RowKit Pu Rw Pr
end Rl
namespace Bk
open Go.RowKit Go.Sort Rw YtmklifheakemeaaGreat.Nm Pr
def Ae (B:Nat) (b11 _ _:Nat) (_ _ iD c d c2 d2 fr:Int) (up:Bool) (_ po:Option bR) (_ _ pn pc:Nat) (rv:au) (_:List mO) (i:Nat) (v:au) (x:aA):Prop :=
 match i with
 | 0=>v=rv
 | 1=>v=ah (X ⟨b11,3,V⟩)
 | 2=>v=U O iD
 | 3=>v=aV #[U O c,U O d,U O c2,U O d2,J po pn pc,U O fr,aW up]
 | 4=>v=aV #[U O 3,U O c,U O d,U O c2,U O d2,J po pn pc,J V 0 0]
 | 5=>v=wM (iD,3,c,d,c2,d2,(po,pn,pc),(V,0,0))
 | 6=>jI x B v [(iD,3,c,d,c2,d2,(po,pn,pc),(V,0,0))]
 | _=>True
noncomputable def Oh:Code:=((Tryz.f23.body.bind (eO 16)).getD .skip)
theorem Ma (B:Nat) (b11 b12 F0:Nat) (z1 z2 iD c d c2 d2 fr:Int) (up:Bool) (z3 po:Option bR) (z4 z5 pn pc:Nat) (rv:au) (lo:List mO) (i:Nat) (v:au) (x x':aA) (h:Ae B b11 b12 F0 z1 z2 iD c d c2 d2 fr up z3 po z4 z5 pn pc rv lo i v x) (hb:Below x.heap.size x x'):Ae B b11 b12 F0 z1 z2 iD c d c2 d2 fr up z3 po z4 z5 pn pc rv lo i v x':=by
 by_cases hi:i<7
 ·rcases (by omega:i=0\/i=1\/i=2\/i=3\/i=4\/i=5\/i=6) with rfl|rfl|rfl|rfl|rfl|rfl|rfl
  ·exact h
  ·exact h
  ·exact h
  ·exact h
  ·exact h
  ·exact h
  ·exact dI h hb
 ·unfold Ae
  split <;> first | omega | trivial
theorem UH (Q:Exit->Act->aA->Prop) (W:aA) (b11 b12 F0:Nat) (z1 z2 iD c d c2 d2 fr:Int) (up:Bool) (z3 po:Option bR) (z4 z5 pn pc:Nat) (rv:au) (lo:List mO) (u0 u1 u2 u3 u4 u5 u6 u7 u8 u10 u13 u14 u15 u16 u17 u18 u19 u20 u21 u22 u23 u24 u25 u26 u27 u28 u29 u30 u31 u32 u33 u34 u35 u36 u37 u38 u39 u40 u41 u42 u43 u44 u45 u46 u47 u48 u49 u50 u51 u52 u53 u54 u55 u56 u57 u58 u59 u60 u61 u62 u63 u64 u65 u66 u67 u68 u69 u70 u71 u72 u73 u74 u75 u76 u77 u78 u79 u80 u81 u82 u83 u84 u85 u86 u87 u88 u89 u90 u91 u92 u93 u94 u95 u96 u97 u98:au)
  (h11:dK W b11 #[U O z1,U O z2,J z3 z4 z5,U O iD] 74) (h12:dK W b12 #[U O c,U O d,U O c2,U O d2,J po pn pc,U O fr,aW up] 66) (fw:F0<=W.heap.size) (ho:jI W F0 rv lo) (hl:lo.length<=1000000)
  (hQ:∀ (x0 x:aA) (w9:au) (v88 v89 v90 v91 v92 v93 v94 v95:au),Below W.heap.size W x0->x0.grownBy x rv.ownBlock->jI x F0 w9 (lo++[(iD,3,c,d,c2,d2,(po,pn,pc),(V,0,0))])->Q .normal ⟨(u0::u1::u2::u3::u4::u5::u6::u7::u8::w9::u10::ah (X ⟨b11,0,V⟩)::ah (X ⟨b12,0,V⟩)::u13::u14::u15::u16::u17::u18::u19::u20::u21::u22::u23::u24::u25::u26::u27::u28::u29::u30::u31::u32::u33::u34::u35::u36::u37::u38::u39::u40::u41::u42::u43::u44::u45::u46::u47::u48::u49::u50::u51::u52::u53::u54::u55::u56::u57::u58::u59::u60::u61::u62::u63::u64::u65::u66::u67::u68::u69::u70::u71::u72::u73::u74::u75::u76::u77::u78::u79::u80::u81::u82::u83::u84::u85::u86::u87::v88::v89::v90::v91::v92::v93::v94::v95::u96::u97::u98::[]).toArray,[]⟩ x) :
  Code.wp Z Oh Q ⟨(u0::u1::u2::u3::u4::u5::u6::u7::u8::rv::u10::ah (X ⟨b11,0,V⟩)::ah (X ⟨b12,0,V⟩)::u13::u14::u15::u16::u17::u18::u19::u20::u21::u22::u23::u24::u25::u26::u27::u28::u29::u30::u31::u32::u33::u34::u35::u36::u37::u38::u39::u40::u41::u42::u43::u44::u45::u46::u47::u48::u49::u50::u51::u52::u53::u54::u55::u56::u57::u58::u59::u60::u61::u62::u63::u64::u65::u66::u67::u68::u69::u70::u71::u72::u73::u74::u75::u76::u77::u78::u79::u80::u81::u82::u83::u84::u85::u86::u87::u88::u89::u90::u91::u92::u93::u94::u95::u96::u97::u98::[]).toArray,[]⟩ W:=by
 have HQ:=L hQ;have H11:=L h11;have H12:=L h12;have FW:=L fw;have HO:=L ho;have HL:=L hl;clear hQ h11 h12 fw ho hl;have iQ:=Ma W.heap.size b11 b12 F0 z1 z2 iD c d c2 d2 fr up z3 po z4 z5 pn pc rv lo;unfold Oh
 conv=>arg 2; whnf
 have nd:∀ j,(∀ i,i<7->[88,89,90,91,92,93,94].getD i 0≠j)->∀ i,i<7->(fun i=>[88,89,90,91,92,93,94].getD i 0) i≠j:=fun j h=>h;refine Rg.fQ 9 7 (fun i=>[88,89,90,91,92,93,94].getD i 0) (fun _=>7) (Ae W.heap.size b11 b12 F0 z1 z2 iD c d c2 d2 fr up z3 po z4 z5 pn pc rv lo) (by kernel_rfl) (by kernel_rfl) rfl (by decide) (fun i j hi hj h=>(by decide:∀ i,i<7->∀ j,j<7->[88,89,90,91,92,93,94].getD i 0=[88,89,90,91,92,93,94].getD j 0->i=j) i hi j hj h) (fun i hi=>(by decide:∀ i,i<7->[88,89,90,91,92,93,94].getD i 0<99) i hi) ?_ (fun _=>Rg.jl 14 (by kernel_rfl)) ?_ ?_
 ·intro i o hi ho a x D hnd hc hD hb seen K hK;clear HQ;rcases (by omega:i=0\/i=1\/i=2\/i=3\/i=4\/i=5\/i=6) with rfl|rfl|rfl|rfl|rfl|rfl|rfl
  ·cases ho;have e9:a.eval (ak 9)=rv:=seen.kp 9 _ (nd 9 (by decide)) rfl;exact aM rfl rfl (Rg.gy a.eval _ (ak 9) rfl x) (hK _ _ e9 (aj _ _) fun _ _ _ _ _ _ _ h=>h)
  ·cases ho;have e11:a.eval (ak 11)=ah (X ⟨b11,0,V⟩):=seen.kp 11 _ (nd 11 (by decide)) rfl;exact aM rfl rfl (Rg.dR a.eval _ 74 (ak 11) 2 rfl (by rw [e11]; simp [go_sem])) (hK _ _ rfl (aj _ _) fun _ _ _ _ _ _ _ h=>h)
  ·cases ho;have e89:a.eval (ak 89)=ah (X ⟨b11,3,V⟩):=seen.at_ ⟨1,.data⟩ (by simp) rfl (aD (by decide));have y3:=(H11.out.on hb).cell 3;simp only [aG,aQ,aR] at y3;exact aM rfl rfl (Rg.dX a.eval _ 3 (ak 89) rfl (by rw [e89]; simp [go_sem,y3])) (hK _ _ rfl (aj _ _) fun _ _ _ _ _ _ _ h=>h)
  ·cases ho;have e12:a.eval (ak 12)=ah (X ⟨b12,0,V⟩):=seen.kp 12 _ (nd 12 (by decide)) rfl;obtain⟨y0,y1,y2,y3,y4,y5,y6⟩:=(H12.out.on hb).mI;exact aM rfl rfl (Rg.dX a.eval _ 66 (ak 12) rfl (by rw [e12]; simp [go_sem,y0,y1,y2,y3,y4,y5,y6])) (hK _ _ rfl (aj _ _) fun _ _ _ _ _ _ _ h=>h)
  ·cases ho;have e91:a.eval (ak 91)=aV #[U O c,U O d,U O c2,U O d2,J po pn pc,U O fr,aW up]:=seen.at_ ⟨3,.data⟩ (by simp) rfl (aD (by decide));exact Rg.gU rfl rfl (iG a.eval _ (ak 91) 66 48 rfl e91 rfl _ (gF Tryz.func48 rfl rfl _ _)) (z8 (c,d,c2,d2,(po,pn,pc),fr,up) x) fun e w1 h=>by
    obtain⟨rfl,h3⟩:=h;exact⟨_,rfl,hK _ _ rfl (h3.mono hb.size) fun j u _ _ _ _ _ h=>iQ j u _ _ h h3⟩
  ·cases ho;have e90:a.eval (ak 90)=U O iD:=seen.at_ ⟨2,.data⟩ (by simp) rfl (aD (by decide));have e92:a.eval (ak 92)=aV #[U O 3,U O c,U O d,U O c2,U O d2,J po pn pc,J V 0 0]:=seen.at_ ⟨4,.data⟩ (by simp) rfl (aD (by decide));exact aM rfl rfl (Rg.jM a.eval _ 43 #[(0,ak 90),(1,ak 92)] rfl (ps:=#[(0,U O iD),(1,aV #[U O 3,U O c,U O d,U O c2,U O d2,J po pn pc,J V 0 0])]) (by simp only [bD,bM,bU,e90,e92]) (by simp [go_sem])) (hK _ _ rfl (aj _ _) fun _ _ _ _ _ _ _ h=>h)
  ·cases ho;have e93:a.eval (ak 93)=wM (iD,3,c,d,c2,d2,(po,pn,pc),(V,0,0)):=seen.at_ ⟨5,.data⟩ (by simp) rfl (aD (by decide));have hl:=iF D7 x [((iD,3,c,d,c2,d2,(po,pn,pc),(V,0,0)):mO)] 1 rfl (by simp) (kV (iD,3,c,d,c2,d2,(po,pn,pc),(V,0,0))).toArray (by simp [flat,EU]);have nb:=fM x (aB (kV (iD,3,c,d,c2,d2,(po,pn,pc),(V,0,0))).toArray 43);exact aM rfl rfl (Rg.iU a.eval _ 35 1 #[(0,ak 93)] rfl (ps:=#[(0,wM (iD,3,c,d,c2,d2,(po,pn,pc),(V,0,0)))]) (by simp [e93]) (by simp [go_sem])) (hK (J (X ⟨x.heap.size,0,V⟩) 1 1) (x.alloc (aB (kV (iD,3,c,d,c2,d2,(po,pn,pc),(V,0,0))).toArray 43)) (dO hl hb.size) (nb.mono hb.size) fun j u _ _ _ _ _ h=>iQ j u _ _ h nb)
 ·intro kk o h1 h2 ho;rcases (by omega:kk=8) with rfl
  ·cases ho;exact⟨⟨7,.data⟩,by simp,rfl,rfl⟩
 ·intro a w' df sz kp ⟨vs,hv⟩ hb;have sz':a.tmps.size=99:=sz;have g88:a.tmps[88]?=X (rv):=by
   have h:vs 0=rv:=(hv 0 (by omega)).2 (by decide);rw [<- h];exact (hv 0 (by omega)).1
  have g94:a.tmps[94]?=X (vs 6):=(hv 6 (by omega)).1;have G94:=(hv 6 (by omega)).2 (by decide);have o94:jI w' W.heap.size (vs 6) [(iD,3,c,d,c2,d2,(po,pn,pc),(V,0,0))]:=G94;generalize vs 6=v6 at *;obtain⟨v',x',r,o',gr⟩:=xC D7 F0 (dI HO.out hb) (Row.dH o94) HL.out (by simp) (ay FW.out hb.size) 35;show Rg.fH _ _ _ 2 7 a w';simp only [Rg.fH];refine aM rfl rfl (Rg.fZ a.eval _ (ak 88) (ak 94) 35 rfl (Rg.dN g88) (Rg.dN g94) r) ?_;have e95:(a.put (X 95) v').eval (ak 95)=v':=Rg.dN (by simp [bL,sz']);refine aM rfl rfl (Rg.kM _ _ (ak 95) rfl x') ?_;show Q .normal ((a.put (X 95) v').put (X 9) ((a.put (X 95) v').eval (ak 95))) x';rw [e95];show Q .normal ((a.put (X 95) v').put (X 9) v') x';have ka:∀ j,j≠95->j≠9->((a.put (X 95) v').put (X 9) v').tmps[j]?=a.tmps[j]?:=fun j h1 h2=>by rw [cK _ _ _ _ (by omega),cK _ _ _ _ (by omega)]
  have kt:((a.put (X 95) v').put (X 9) v').tmps[9]?=X (v'):=by simp [bL,sz']
  have rV:∀ j,(j<88\/96<=j)->((a.put (X 95) v').put (X 9) v').tmps[j]?=(u0::u1::u2::u3::u4::u5::u6::u7::u8::v'::u10::ah (X ⟨b11,0,V⟩)::ah (X ⟨b12,0,V⟩)::u13::u14::u15::u16::u17::u18::u19::u20::u21::u22::u23::u24::u25::u26::u27::u28::u29::u30::u31::u32::u33::u34::u35::u36::u37::u38::u39::u40::u41::u42::u43::u44::u45::u46::u47::u48::u49::u50::u51::u52::u53::u54::u55::u56::u57::u58::u59::u60::u61::u62::u63::u64::u65::u66::u67::u68::u69::u70::u71::u72::u73::u74::u75::u76::u77::u78::u79::u80::u81::u82::u83::u84::u85::u86::u87::u88::u89::u90::u91::u92::u93::u94::u95::u96::u97::u98::[])[j]?:=fun j hj=>by
   by_cases hj2:j=9
   ·subst hj2;exact kt
   ·have hs:(u0::u1::u2::u3::u4::u5::u6::u7::u8::v'::u10::ah (X ⟨b11,0,V⟩)::ah (X ⟨b12,0,V⟩)::u13::u14::u15::u16::u17::u18::u19::u20::u21::u22::u23::u24::u25::u26::u27::u28::u29::u30::u31::u32::u33::u34::u35::u36::u37::u38::u39::u40::u41::u42::u43::u44::u45::u46::u47::u48::u49::u50::u51::u52::u53::u54::u55::u56::u57::u58::u59::u60::u61::u62::u63::u64::u65::u66::u67::u68::u69::u70::u71::u72::u73::u74::u75::u76::u77::u78::u79::u80::u81::u82::u83::u84::u85::u86::u87::u88::u89::u90::u91::u92::u93::u94::u95::u96::u97::u98::[]:List au)=(u0::u1::u2::u3::u4::u5::u6::u7::u8::rv::u10::ah (X ⟨b11,0,V⟩)::ah (X ⟨b12,0,V⟩)::u13::u14::u15::u16::u17::u18::u19::u20::u21::u22::u23::u24::u25::u26::u27::u28::u29::u30::u31::u32::u33::u34::u35::u36::u37::u38::u39::u40::u41::u42::u43::u44::u45::u46::u47::u48::u49::u50::u51::u52::u53::u54::u55::u56::u57::u58::u59::u60::u61::u62::u63::u64::u65::u66::u67::u68::u69::u70::u71::u72::u73::u74::u75::u76::u77::u78::u79::u80::u81::u82::u83::u84::u85::u86::u87::u88::u89::u90::u91::u92::u93::u94::u95::u96::u97::u98::[]).set 9 (v'):=rfl;rw [hs,bH (Ne.symm hj2)];exact (ka j (by omega) hj2).trans ((kp j (nd j fun i hi h=>by have:=(by decide:∀ i,i<7->88<=[88,89,90,91,92,93,94].getD i 0/\[88,89,90,91,92,93,94].getD i 0<96) i hi; omega)).trans aG)
  obtain⟨mid,hmid,hfr⟩:=Rg.gI (a:=(a.put (X 95) v').put (X 9) v') 88 8 (by simp [bL,df]) (by simp [bL,sz']) (by simp) rV;rw [hfr]
  match mid,hmid with
  | [v88,v89,v90,v91,v92,v93,v94,v95],_ =>
   exact HQ.out w' x' _ _ _ _ _ _ _ _ _ hb gr o'
end Bk
namespace Pr
open Go.RowKit Pu Rw
theorem UJ {α:Type} {E:Ek α} (K:E.Ok) (tn:TypeId) (htn:Tryz.prog.underlying tn=X (.int .i64)) (n:Nat) (h0:0<n) (hn:n<=1000) (W:aA) :
  ∃ (G:Nat) (R:Array au),n<=G/\G<=maxLen/\R.size=G * E.n /\
   ∀ ty,(aO #[E.ts,tn] ty #[J V 0 0,U O n]).run Z W=.ok (J (X ⟨W.heap.size,0,V⟩) n G) (W.drew.alloc (aB R E.t)):=by
 obtain⟨i,i1,i2,i3,i4⟩:=K.info;have hf:=K.few;have hpos:=K.pos;have happ:=fun ty=>Lib.run_append_grow_zeros (P:=Z) W E.ts tn ty E.t i _ O O K.hu htn i1 i2 V 0 0 [] (run_firstCells_none _ _ _ _ _) n h0 (by rw [i3]; exact hpos) (by omega) (by omega)
  (by rw [i4]; exact ay (aX hn hf) (by decide))
  (growslice_fits (by omega) (by rw [i4]; exact ay (aX (show 0+n<=2000 by omega) hf) (by decide)))
 rw [dw] at happ;have hG1:=grownCap_ge W n 0 E.t;have hG2:=grownCap_le_maxLen W n 0 E.t (by unfold maxLen; omega);generalize grownCap W n 0 E.t=G at happ hG1 hG2;refine⟨G,_,hG1,hG2,?_,happ⟩;simp only [Array.size_append,List.size_toArray,List.length_nil,size_zeroCells,K.zs,dw,<- Nat.add_mul];rw [show n+(G-n)=G by omega]
def UM (l:List C5) (w:aA) (e:Ending) (w':aA):Prop:=∃ v,e=aC v/\gT w' w.heap.size v l/\Below w.heap.size w w'
theorem UQ (n:Nat) (w:aA) (hn:n<=200) :
  bP Z 159 #[J V 0 0,U O n] w (UM [] w):=by
 rcases Nat.eq_zero_or_pos n with rfl|h0
 ·have Q:=L (show UM [] w (aC (J V 0 0)) w from ⟨_,rfl,iM _ _,aj _ _⟩);go_enter dx,cZ;go_wp2;go_ret;exact Q.out
 ·obtain⟨G,R,g1,g2,g3,hr⟩:=UJ (E:=EC) uW 3 aF n h0 (by omega) w;have r:=hr 32;have s1:=kE (E:=EC) uW ⟨w.heap.size,0,V⟩ 0 n G (aJ _);have Q:=L (show UM [] w (aC (J (X ⟨w.heap.size,0,V⟩) 0 G)) (w.drew.alloc (aB R 70)) from
   ⟨_,rfl,qK uW (l:=[]) rfl (aP _) (dJ w.drew R 70) (aJ _) g2 g3 (by simp [flat]),(aj _ _).drew.alloc (by simp) _⟩)
  change (aO #[32,3] 32 #[J V 0 0,U O (n:Int)]).run Z w=.ok (J (X ⟨w.heap.size,0,V⟩) n G) (w.drew.alloc (aB R 70)) at r;change ∀ W,(Instr.sliceAt 32 (J (X ⟨w.heap.size,0,V⟩) n G) V (X (U O 0)) V).run Z W=.ok (J (X ⟨w.heap.size,0,V⟩) 0 G) W at s1;have e1:decide ((n:Int)<0)=bf:=by simp
  have e2:decide ((0:Int)<(n:Int))=bn:=by simp; omega
  unfold maxLen at g2;clear hr g3;go_enter dx,cZ;go_wp2_with (first | (at_builtin; refine je rfl _ _ 32 3 rfl rfl rfl r ?_) | fail);go_ret;exact Q.out
def ahc (n m:Nat) (s i:au):Prop:=(i=U O 0/\s=U O 0)\/(i=U O 1/\s=U O (n:Int))\/(i=U O 2/\s=U O ((n+m:Nat):Int))
def ahd (w:aA) (a b:List C5) (v i:au) (wr:aA):Prop:=((i=U O 0/\gT wr w.heap.size v [])\/(i=U O 1/\gT wr w.heap.size v a)\/(i=U O 2/\gT wr w.heap.size v (a++b)))/\Below w.heap.size w wr
theorem Mc (g:Nat) (nW bv:au) (a b:List C5) (w:aA) (c0:w.cell? ⟨g,0,V⟩=X nW) (c1:w.cell? ⟨g,1,V⟩=X bv) (ha:fI w nW a) (hb:fI w bv b) (la:a.length<=100) (lb:b.length<=100) :
  bP Z 122 #[J (X ⟨g,0,V⟩) 2 2] w (UM (a++b) w):=by
 have HA:=L ha;have HB:=L hb;have C0:=L c0;have C1:=L c1;have hg:g<w.heap.size:=World.block_lt_of_cell? w _ c0;obtain⟨ao,ac,rfl⟩:=ha.len;obtain⟨bo,bc,rfl⟩:=hb.len;clear ha hb c0 c1;go_enter Tryz.func122,Tryz.ntmps122;go_wp2
 go_loop [3,11] (fun s i=>ahc a.length b.length s i) (fun _ i=>(2-intOf i).toNat)
 case atStart=>exact bG ⟨rfl,rfl⟩
 case round =>
  rcases hrel with⟨rfl,rfl⟩|⟨rfl,rfl⟩|⟨rfl,rfl⟩
  ·have c0:=C0.out;go_wp2
   go_round
   case rel=>exact aD (bG ⟨rfl,rfl⟩)
   case measure=>simp [intOf]
  ·have c1:=C1.out;go_wp2
   go_round
   case rel=>exact aD (aD ⟨rfl,by go_num⟩)
   case measure=>simp [intOf]
  ·have GR:=L (UQ (a.length+b.length) w (by omega));go_wp2_with fail;refine GR.out.mono ?_;rintro e1 w1 ⟨v1,rfl,ho,hb1⟩;have O1:=L ho;have B1:=L hb1;clear ho hb1 GR;go_wp2
   go_loopw [6,27] (fun v i wr=>ahd w a b v i wr) (fun _ i _=>(2-intOf i).toNat)
   case atStart=>exact⟨bG ⟨rfl,O1.out⟩,B1.out⟩
   case round =>
    obtain⟨hc,hbw⟩:=hrel;have BW:=L hbw;clear hbw;rcases hc with⟨rfl,ho⟩|⟨rfl,ho⟩|⟨rfl,ho⟩
    ·have c0:=(BW.out.cell (p:=⟨g,0,V⟩) hg).trans C0.out;obtain⟨v',w',r,o',gr⟩:=Da w.heap.size ho (HA.out.on BW.out) (by simp) (by omega) BW.out.size;have B':=L (BW.out.grown gr BW.out.size (fun j hj=>(ho.lt j hj).1));have O':=L o';clear ho o' gr;go_wp2_with (first | (at_builtin; refine wpList_append_run rfl _ _ 32 rfl rfl rfl r ?_) | fail)
     go_roundw
     case rel=>exact⟨aD (bG ⟨rfl,O'.out⟩),B'.out⟩
     case measure=>simp [intOf]
    ·have c1:=(BW.out.cell (p:=⟨g,1,V⟩) hg).trans C1.out;obtain⟨v',w',r,o',gr⟩:=Da w.heap.size ho (HB.out.on BW.out) (by omega) (by omega) BW.out.size;have B':=L (BW.out.grown gr BW.out.size (fun j hj=>(ho.lt j hj).1));have O':=L o';clear ho o' gr;go_wp2_with (first | (at_builtin; refine wpList_append_run rfl _ _ 32 rfl rfl rfl r ?_) | fail)
     go_roundw
     case rel=>exact⟨aD (aD ⟨rfl,O'.out⟩),B'.out⟩
     case measure=>simp [intOf]
    ·have Q:=L (show UM (a++b) w (aC _) _ from ⟨_,rfl,ho,BW.out⟩);clear ho;go_wp2;go_ret;exact Q.out
end Pr
namespace Rl
open Go.RowKit Go.Sort Pu Rw Pr Va
def UR (a b:List Cn) (w:aA) (e:Ending) (w':aA):Prop:=Below w.heap.size w w'/\(match jX a.length a b with
 | .ok p=>∃ pv,e=aC (.tuple #[pv,aW bn])/\fI w' pv (p.map r5)
 | .error _=>∃ pv,e=aC (.tuple #[pv,aW bf]))
theorem Jh {a b:List Cn} (na:NF a) (nb:NF b):Tp (a++b):=⟨by have:=na.five; have:=nb.five; simp; omega,fun c hc=>by
 rcases aS.1 hc with h|h
 ·exact na.small c h
 ·exact nb.small c h⟩
theorem Ze (nW bv:au) (a b:List Cn) (w:aA) (ha:fI w nW (a.map r5)) (hb:fI w bv (b.map r5)) (na:NF a) (nb:NF b):bP Z 75 #[nW,bv] w (UR a b w):=by
 have B0:=L (show Below w.heap.size w (w.alloc (aB #[nW,bv] 32)) from (aj _ _).alloc (aP _) _);have CT:=L (Mc w.heap.size nW bv (a.map r5) (b.map r5) (w.alloc (aB #[nW,bv] 32)) (by simp [go_sem]) (by simp [go_sem]) (ha.on B0.out) (hb.on B0.out) (by rw [aK]; have:=na.five; omega) (by rw [aK]; have:=nb.five; omega));have SP:=L (Jh na nb);have GD:=L (show ∀ c∈a++b,vD c=bn from fun c hc=>by
  rcases aS.1 hc with h|h
  ·exact na.good c h
  ·exact nb.good c h)
 have MB:=L (PY (b:=b) na.rise na.five);obtain⟨ao,ac,rfl⟩:=ha.len;obtain⟨bo,bc,rfl⟩:=hb.len;clear ha hb na nb;simp only [aK] at CT B0 ⊢;obtain⟨res,hres⟩:∃ r,r=jX a.length a b:=⟨_,rfl⟩;have MQ:=L (show ∀ e w',(Below w.heap.size w w'/\(match res with
  | .ok p=>∃ pv,e=aC (.tuple #[pv,aW bn])/\fI w' pv (p.map r5)
  | .error _=>∃ pv,e=aC (.tuple #[pv,aW bf])))->UR a b w e w' from fun e w' h=>by unfold UR; rw [<- hres]; exact h)
 rw [<- hres] at MB;generalize hq:UR a b w=q at *;clear hq hres;go_enter Tryz.func75,Tryz.ntmps75;go_wp2_with fail;refine CT.out.mono ?_;rintro e1 w1 ⟨v1,rfl,ho,hb1⟩;have B1:=L (B0.out.trans (hb1.mono B0.out.size));have MK:=L (TM v1 (a++b) w1 (by rw [List.map_append]; exact Row.dH ho) SP.out GD.out);clear ho hb1 CT SP GD B0;go_wp2_with fail;refine MK.out.mono ?_;rintro e2 w2 ⟨hb2,h2⟩;have B2:=L (B1.out.trans (hb2.mono B1.out.size));rw [MB.out] at h2;clear hb2 MK B1 MB;rcases res with _|p
 ·obtain⟨bb,rfl⟩:=h2;go_wp2
  go_region
  all_goals simp only [Exit.then]
  all_goals apply_assumption
  all_goals go_wp2
  all_goals exact MQ.out _ _ ⟨B2.out.drew,_,rfl⟩
 ·obtain⟨pv,rfl,hp⟩:=h2;have HP:=L hp;clear hp;go_wp2
  go_region
  all_goals simp only [Exit.then]
  all_goals apply_assumption
  all_goals go_wp2
  all_goals exact MQ.out _ _ ⟨B2.out.drew,_,rfl,HP.out.on (aj _ _).drew⟩
theorem Md (nW bv:au) (a b:List Cn) (w:aA) (ha:fI w nW (a.map r5)) (hb:fI w bv (b.map r5)) (na:NF a) (nb:NF b):bP Z 24 #[nW,bv] w fun e w'=>e=aC (aW (sQ a b))/\Below w.heap.size w w':=by
 have T:=L (Ze nW bv a b w ha hb na nb);have MM:=L (show sQ a b=match jX a.length a b with
  | .ok _=>bn
  | .error _=>bf from rfl)
 unfold UR at T;generalize sQ a b=r at *;generalize jX a.length a b=res at *;clear ha hb na nb;go_enter Tryz.func24,Tryz.ntmps24;go_wp2_with fail;refine T.out.mono ?_;rintro e1 w1 ⟨hb1,h1⟩;have B1:=L hb1;clear hb1 T;rcases res with _|p
 ·obtain⟨pv,rfl⟩:=h1;have M:=L (show r=bf from MM.out);clear MM;go_wp2;go_ret;exact⟨eG M.out.symm,B1.out⟩
 ·obtain⟨pv,rfl,hp⟩:=h1;have M:=L (show r=bn from MM.out);clear MM hp;go_wp2;go_ret;exact⟨eG M.out.symm,B1.out⟩
end Rl
namespace Av
open Go.RowKit Go.ChangeShapes Go.WideShapes Bk
theorem Zf:Tryz.prog.cellsOf 86=7:=by kernel_rfl
theorem Zg (a:bR) (m len cap:Nat) (h:m<len) (w:aA):(Instr.indexAt 45 (J (X a) len cap) (U O m)).run Z w=.ok (ah (X (a.add (m * 7)))) w:=by
 have h1:(m:Int)<len:=by omega
 simp [go_sem,bX,h1]
structure Me (W:aA) (v:au) (n:Nat):Prop where
 shape:∃ ao cap,v=J ao n cap
 at_:∀ i:Nat,i<n->∃ (p:bR) (z0 z1 z2 z3 z4:Int) (h1:Option bR) (h2 h3:Nat) (g1:Option bR) (g2 g3:Nat) (has vals:List Int),p.block<W.heap.size/\(∀ w,(Instr.indexAt 45 v (U O i)).run Z w=.ok (ah (X p)) w)/\(∀ j u,([U O z0,U O z1,U O z2,U O z3,U O z4,J h1 h2 h3,J g1 g2 g3]:List au)[j]?=X u->W.cell? (p.add j)=X u)/\((-9223372036854775808<=z0/\z0<=9223372036854775807)/\(-9223372036854775808<=z1/\z1<=9223372036854775807)/\(-9223372036854775808<=z2/\z2<=9223372036854775807)/\(-9223372036854775808<=z3/\z3<=9223372036854775807)/\(-9223372036854775808<=z4/\z4<=9223372036854775807))/\In.nR W (J h1 h2 h3) has/\In.nR W (J g1 g2 g3) vals/\has.length<=maxLen/\vals.length<=maxLen
theorem Me.on {W W':aA} {v:au} {n:Nat} (h:Me W v n) (hb:Below W.heap.size W W'):Me W' v n :=
 ⟨h.shape,fun i hi=>by
  obtain⟨p,z0,z1,z2,z3,z4,x1,x2,x3,y1,y2,y3,has,vals,h1,h2,h3,h4,h5,h6,h7⟩:=h.at_ i hi;exact⟨p,z0,z1,z2,z3,z4,x1,x2,x3,y1,y2,y3,has,vals,Nat.lt_of_lt_of_le h1 hb.size,h2,fun j u hu=>by rw [hb.cell (by rw [wL]; exact h1)]; exact h3 j u hu,h4,h5.on hb,h6.on hb,h7⟩⟩
end Av
namespace Av
open Go.RowKit Go.Sort Rw YtmklifheakemeaaGreat.Nm Pr Bk
def UU (x y:Int):Bool:=x == y
theorem Zh (x y:Int):UU x y=bn↔x=y:=by simp [UU]
theorem Zi (nW bv:au) (l m:List Int) (w:aA) (ha:qJ w nW l) (hb:qJ w bv m) (hl:l.length<=1000000) :
  bP Z 80 #[nW,bv] w fun e w'=>e=aC (aW (fV UU l m))/\Below w.heap.size w w':=by
 have HA:=L ha;have HB:=L hb;obtain⟨ao,ac,rfl⟩:=ha.len;obtain⟨bo,bc,rfl⟩:=hb.len;clear ha hb;by_cases hlen:l.length=m.length
 ·have HL:=L hlen;rw [<- hlen] at HB ⊢;generalize hn:l.length=n at *;have HN:=L hn;clear hlen hn;go_enter Tryz.func80,dB;go_wp2
  go_loopw [13] (fun i wr=>∃ k:Nat,k<=n/\i=U O k/\Below w.heap.size w wr/\∀ (j:Nat) (x y:Int),j<k->l[j]?=X x->m[j]?=X y->UU x y=bn) (fun i _=>n-(intOf i).toNat)
  case atStart=>exact⟨0,aJ _,rfl,aj _ _,fun j x y h=>by omega⟩
  case round =>
   obtain⟨k,hk,rfl,hbe,hall⟩:=hrel;have BE:=L hbe;have AL:=L hall;clear hbe hall;by_cases hlt:k<n
   ·obtain⟨x,hx⟩:∃ x,l[k]?=X x:=⟨_,Y (by rw [HN.out]; exact hlt)⟩;obtain⟨y,hy⟩:∃ y,m[k]?=X y:=⟨_,Y (by rw [<- HL.out]; exact hlt)⟩;obtain⟨p,ix,px⟩:=elI HA.out rfl HN.out hx;obtain⟨q,iy,py⟩:=elI HB.out rfl HL.out.symm hy;have p0:=cell_regrown (px.2 _ BE.out);have q0:=cell_regrown (py.2 _ BE.out);clear px py;obtain⟨r,hr⟩:∃ r,UU x y=r:=⟨_,rfl⟩;have hne:(x != y)=!r:=by rw [<- hr]; rfl
    have HX:=L hx;have HY:=L hy;have HR:=L hr;clear hx hy hr;cases r
    ·have R:=L (show fV UU l m=bf from oD l m k x y HX.out HY.out HR.out);go_wp2;refine wp_region_quiet_below (by kernel_rfl) (by kernel_rfl) ?_
     repeat (go_big_quiet_step (fail))
     refine wpQuiet_nil ?_;intro _ hw';obtain⟨⟨dq,osq⟩,hw''⟩:=hw';subst hw'';go_wp2;go_ret;exact⟨by rw [R.out]; rfl,BE.out.trans ((below_regrown wr dq osq).mono BE.out.size)⟩
    ·go_wp2;refine wp_region_quiet_below (by kernel_rfl) (by kernel_rfl) ?_
     repeat (go_big_quiet_step (fail))
     refine wpQuiet_nil ?_;intro _ hw';obtain⟨⟨dq,osq⟩,hw''⟩:=hw';subst hw'';clear ix iy p0 q0 hne;go_wp2
     go_roundw
     case rel=>exact⟨k+1,by omega,by go_num,BE.out.trans ((below_regrown wr dq osq).mono BE.out.size),fun j x' y' hj h1 h2=>by
      rcases bY j k with h3|h3
      ·exact AL.out j x' y' h3 h1 h2
      ·obtain rfl:j=k:=by omega
       have e1:=HX.out;have e2:=HY.out;rw [h1] at e1;rw [h2] at e2;rw [aL e1,aL e2];exact HR.out⟩
     case measure=>simp [intOf]; omega
   ·obtain rfl:k=n:=by omega
    have R:=L (show fV UU l m=bn from oC l m (by rw [HN.out]; exact HL.out) (fun j a b h1 h2=>AL.out j a b (by have:=(aH.1 h1).1; have:=HN.out; omega) h1 h2));go_wp2;go_ret;exact⟨by rw [R.out]; rfl,BE.out⟩
 ·have R:=L (show fV UU l m=bf by
   cases h:fV UU l m
   ·rfl
   ·exact absurd (oz _ _ h) hlen)
  have hne:(((l.length:Nat):Int) != ((m.length:Nat):Int))=bn:=by simp; omega
  have hne2:(((l.length:Nat):Int) == ((m.length:Nat):Int))=bf:=by simp; omega
  clear hlen;go_enter Tryz.func80,dB;go_wp2;go_ret;exact⟨by rw [R.out]; rfl,aj _ _⟩
theorem Zj (nW bv:au) (l m:List fC) (w:aA) (ha:vT w nW l) (hb:vT w bv m) (hl:l.length<=1000000) :
  bP Z 81 #[nW,bv] w fun e w'=>e=aC (aW (fV Ie l m))/\Below w.heap.size w w':=by
 have HA:=L ha;have HB:=L hb;obtain⟨ao,ac,rfl⟩:=ha.len;obtain⟨bo,bc,rfl⟩:=hb.len;clear ha hb;by_cases hlen:l.length=m.length
 ·have HL:=L hlen;rw [<- hlen] at HB ⊢;generalize hn:l.length=n at *;have HN:=L hn;clear hlen hn;go_enter Tryz.func81,Tryz.ntmps81;go_wp2
  go_loopw [13] (fun i wr=>∃ k:Nat,k<=n/\i=U O k/\Below w.heap.size w wr/\∀ (j:Nat) (x y:fC),j<k->l[j]?=X x->m[j]?=X y->Ie x y=bn) (fun i _=>n-(intOf i).toNat)
  case atStart=>exact⟨0,aJ _,rfl,aj _ _,fun j x y h=>by omega⟩
  case round =>
   obtain⟨k,hk,rfl,hbe,hall⟩:=hrel;have BE:=L hbe;have AL:=L hall;clear hbe hall;by_cases hlt:k<n
   ·obtain⟨x,hx⟩:∃ x,l[k]?=X x:=⟨_,Y (by rw [HN.out]; exact hlt)⟩;obtain⟨y,hy⟩:∃ y,m[k]?=X y:=⟨_,Y (by rw [<- HL.out]; exact hlt)⟩;obtain⟨p,ix,px⟩:=elJ HA.out rfl HN.out hx;obtain⟨q,iy,py⟩:=elJ HB.out rfl HL.out.symm hy;have p0:=cell_regrown (px _ BE.out).1;have p1:=cell_regrown (px _ BE.out).2;have q0:=cell_regrown (py _ BE.out).1;have q1:=cell_regrown (py _ BE.out).2;clear px py;obtain⟨r,hr⟩:∃ r,Ie x y=r:=⟨_,rfl⟩;have hne:=P6 x.1 x.2 y.1 y.2 (!r) (by rw [<- hr]; rfl);have HX:=L hx;have HY:=L hy;have HR:=L hr;clear hx hy hr;cases r
    ·have R:=L (show fV Ie l m=bf from oD l m k x y HX.out HY.out HR.out);go_wp2;refine wp_region_quiet_below (by kernel_rfl) (by kernel_rfl) ?_
     repeat (go_big_quiet_step (fail))
     refine wpQuiet_nil ?_;intro _ hw';obtain⟨⟨dq,osq⟩,hw''⟩:=hw';subst hw'';go_wp2;go_ret;exact⟨by rw [R.out]; rfl,BE.out.trans ((below_regrown wr dq osq).mono BE.out.size)⟩
    ·go_wp2;refine wp_region_quiet_below (by kernel_rfl) (by kernel_rfl) ?_
     repeat (go_big_quiet_step (fail))
     refine wpQuiet_nil ?_;intro _ hw';obtain⟨⟨dq,osq⟩,hw''⟩:=hw';subst hw'';clear ix iy p0 p1 q0 q1 hne;go_wp2
     go_roundw
     case rel=>exact⟨k+1,by omega,by go_num,BE.out.trans ((below_regrown wr dq osq).mono BE.out.size),fun j x' y' hj h1 h2=>by
      rcases bY j k with h3|h3
      ·exact AL.out j x' y' h3 h1 h2
      ·obtain rfl:j=k:=by omega
       have e1:=HX.out;have e2:=HY.out;rw [h1] at e1;rw [h2] at e2;rw [aL e1,aL e2];exact HR.out⟩
     case measure=>simp [intOf]; omega
   ·obtain rfl:k=n:=by omega
    have R:=L (show fV Ie l m=bn from oC l m (by rw [HN.out]; exact HL.out) (fun j a b h1 h2=>AL.out j a b (by have:=(aH.1 h1).1; have:=HN.out; omega) h1 h2));go_wp2;go_ret;exact⟨by rw [R.out]; rfl,BE.out⟩
 ·have R:=L (show fV Ie l m=bf by
   cases h:fV Ie l m
   ·rfl
   ·exact absurd (oz _ _ h) hlen)
  have hne:(((l.length:Nat):Int) != ((m.length:Nat):Int))=bn:=by simp; omega
  have hne2:(((l.length:Nat):Int) == ((m.length:Nat):Int))=bf:=by simp; omega
  clear hlen;go_enter Tryz.func81,Tryz.ntmps81;go_wp2;go_ret;exact⟨by rw [R.out]; rfl,aj _ _⟩
theorem Zk (nW bv:au) (l m:List C5) (w:aA) (ha:fI w nW l) (hb:fI w bv m) (hl:l.length<=1000000) :
  bP Z 160 #[nW,bv] w fun e w'=>e=aC (aW (jo l m))/\Below w.heap.size w w':=by
 have HA:=L ha;have HB:=L hb;obtain⟨ao,ac,rfl⟩:=ha.len;obtain⟨bo,bc,rfl⟩:=hb.len;clear ha hb;by_cases hlen:l.length=m.length
 ·have HL:=L hlen;rw [<- hlen] at HB ⊢;generalize hn:l.length=n at *;have HN:=L hn;clear hlen hn;go_enter Tryz.func160,dh;go_wp2
  go_loopw [13] (fun i wr=>∃ k:Nat,k<=n/\i=U O k/\Below w.heap.size w wr/\∀ (j:Nat) (x y:C5),j<k->l[j]?=X x->m[j]?=X y->zK x y=bn) (fun i _=>n-(intOf i).toNat)
  case atStart=>exact⟨0,aJ _,rfl,aj _ _,fun j x y h=>by omega⟩
  case round =>
   obtain⟨k,hk,rfl,hbe,hall⟩:=hrel;have BE:=L hbe;have AL:=L hall;clear hbe hall;by_cases hlt:k<n
   ·obtain⟨x,hx⟩:∃ x,l[k]?=X x:=⟨_,Y (by rw [HN.out]; exact hlt)⟩;obtain⟨y,hy⟩:∃ y,m[k]?=X y:=⟨_,Y (by rw [<- HL.out]; exact hlt)⟩;obtain⟨p,ix,px⟩:=XT HA.out rfl HN.out hx;obtain⟨q,iy,py⟩:=XT HB.out rfl HL.out.symm hy;have p0:=cell_regrown (px _ BE.out).1;have p1:=cell_regrown (px _ BE.out).2.1;have p2:=cell_regrown (px _ BE.out).2.2.1;have p3:=cell_regrown (px _ BE.out).2.2.2.1;have p4:=cell_regrown (px _ BE.out).2.2.2.2;have q0:=cell_regrown (py _ BE.out).1;have q1:=cell_regrown (py _ BE.out).2.1;have q2:=cell_regrown (py _ BE.out).2.2.1;have q3:=cell_regrown (py _ BE.out).2.2.2.1;have q4:=cell_regrown (py _ BE.out).2.2.2.2;clear px py;obtain⟨r,hr⟩:∃ r,zK x y=r:=⟨_,rfl⟩;have hne:=agv x y r hr;have HX:=L hx;have HY:=L hy;have HR:=L hr;clear hx hy hr;cases r
    ·have R:=L (show jo l m=bf from DN l m k x y HX.out HY.out HR.out);go_wp2;refine wp_region_quiet_below (by kernel_rfl) (by kernel_rfl) ?_
     repeat (go_big_quiet_step (fail))
     refine wpQuiet_nil ?_;intro _ hw';obtain⟨⟨dq,osq⟩,hw''⟩:=hw';subst hw'';go_wp2;go_ret;exact⟨by rw [R.out]; rfl,BE.out.trans ((below_regrown wr dq osq).mono BE.out.size)⟩
    ·go_wp2;refine wp_region_quiet_below (by kernel_rfl) (by kernel_rfl) ?_
     repeat (go_big_quiet_step (fail))
     refine wpQuiet_nil ?_;intro _ hw';obtain⟨⟨dq,osq⟩,hw''⟩:=hw';subst hw'';clear ix iy p0 p1 p2 p3 p4 q0 q1 q2 q3 q4 hne;go_wp2
     go_roundw
     case rel=>exact⟨k+1,by omega,by go_num,BE.out.trans ((below_regrown wr dq osq).mono BE.out.size),fun j x' y' hj h1 h2=>by
      rcases bY j k with h3|h3
      ·exact AL.out j x' y' h3 h1 h2
      ·obtain rfl:j=k:=by omega
       have e1:=HX.out;have e2:=HY.out;rw [h1] at e1;rw [h2] at e2;rw [aL e1,aL e2];exact HR.out⟩
     case measure=>simp [intOf]; omega
   ·obtain rfl:k=n:=by omega
    have R:=L (show jo l m=bn from DK l m (by rw [HN.out]; exact HL.out) (fun j a b h1 h2=>AL.out j a b (by have:=(aH.1 h1).1; have:=HN.out; omega) h1 h2));go_wp2;go_ret;exact⟨by rw [R.out]; rfl,BE.out⟩
 ·have R:=L (show jo l m=bf by
   cases h:jo l m
   ·rfl
   ·exact absurd (DJ _ _ h) hlen)
  have hne:(((l.length:Nat):Int) != ((m.length:Nat):Int))=bn:=by simp; omega
  have hne2:(((l.length:Nat):Int) == ((m.length:Nat):Int))=bf:=by simp; omega
  clear hlen;go_enter Tryz.func160,dh;go_wp2;go_ret;exact⟨by rw [R.out]; rfl,aj _ _⟩
theorem yQ (nW bv:au) (l m:List C5) (w:aA) (ha:fI w nW l) (hb:fI w bv m) (hl:l.length<=1000000):bP Z 127 #[nW,bv] w fun e w'=>e=aC (aW (jo l m))/\Below w.heap.size w w':=by
 have C:=L (Zk nW bv l m w ha hb hl);obtain⟨ao,ac,rfl⟩:=ha.len;obtain⟨bo,bc,rfl⟩:=hb.len;clear ha hb;go_enter Tryz.func127,Tryz.ntmps127;go_wp2_with fail;refine C.out.mono ?_;rintro e w' ⟨rfl,hb⟩;have HB:=L hb;clear hb;go_wp2;go_ret;exact⟨rfl,HB.out⟩
end Av
namespace Av
open Go.RowKit Go.ChangeShapes Go.WideShapes Bk
theorem ac7 {H:Type} {enc:TypeId×au->H} {W:aA} {sp:Nat->Bool} {held:Bool} {fuel:Nat} {g1:au} {x:DataW H×List MemPlace}
  (hf:aI enc Z W 0 sp held fuel 45 [g1]=X x):∃ n:Nat,n<=maxLen/\Me W g1 n:=by
 rcases Deep.open_slice bX hf with⟨h1,_⟩|⟨a,len,cap,m,n,D,Pl,h1,_,h3,h4,h5,_,hx⟩
 ·have e:g1=J V 0 0:=by simpa using h1
  exact⟨0,aJ _,⟨V,0,e⟩,fun i hi=>by omega⟩
 ·have e:g1=J (X a) len cap:=by simpa using h1
  rw [e];have hle:len<=m:=by rw [h5]; split <;> omega
  refine⟨len,by omega,⟨X a,cap,rfl⟩,fun i hi=>?_⟩;obtain⟨cs',k1,k2⟩:=hx i (by omega);obtain⟨xs,n',_,_,hcl,hxl,hy⟩:=bg Tryz.underlying86 k2;rw [Zf] at hcl k1
  match cs',hcl with
  | [c0,c1,c2,c3,c4,c5,d1],_ =>
   have f0:aI enc Z W 0 sp held n' 3 (([c0,c1,c2,c3,c4,c5,d1].drop 0).take (Tryz.prog.cellsOf 3))=xs[0]?:=hy 0 _ rfl;have f1:aI enc Z W 0 sp held n' 3 (([c0,c1,c2,c3,c4,c5,d1].drop 1).take (Tryz.prog.cellsOf 3))=xs[1]?:=hy 1 _ rfl;have f2:aI enc Z W 0 sp held n' 3 (([c0,c1,c2,c3,c4,c5,d1].drop 2).take (Tryz.prog.cellsOf 3))=xs[2]?:=hy 2 _ rfl;have f3:aI enc Z W 0 sp held n' 3 (([c0,c1,c2,c3,c4,c5,d1].drop 3).take (Tryz.prog.cellsOf 3))=xs[3]?:=hy 3 _ rfl;have f4:aI enc Z W 0 sp held n' 3 (([c0,c1,c2,c3,c4,c5,d1].drop 4).take (Tryz.prog.cellsOf 3))=xs[4]?:=hy 4 _ rfl;have fp:aI enc Z W 0 sp held n' 49 (([c0,c1,c2,c3,c4,c5,d1].drop 5).take (Tryz.prog.cellsOf 49))=xs[5]?:=hy 5 _ rfl;have ahe:xs.length=5+1:=hxl;simp only [In.Kr,Pr.acU,bI,aT,aU,bK] at f0 f1 f2 f3 f4 fp;rw [Y (by omega)] at f0 f1 f2 f3 f4 fp;obtain⟨m0,e0,_,w0⟩:=aN aF f0;obtain⟨m1,e1,_,w1⟩:=aN aF f1;obtain⟨m2,e2,_,w2⟩:=aN aF f2;obtain⟨m3,e3,_,w3⟩:=aN aF f3;obtain⟨m4,e4,_,w4⟩:=aN aF f4;simp only [List.cons.injEq,and_true] at e0 e1 e2 e3 e4;subst e0 e1 e2 e3 e4;obtain⟨ys,n2,_,_,_,hyl,hp⟩:=bg Tryz.underlying49 fp;have ak5:ys.length=2:=hyl;have q0:aI enc Z W 0 sp held n2 22 (([c5,d1].drop 0).take (Tryz.prog.cellsOf 22))=ys[0]?:=hp 0 _ rfl;have q1:aI enc Z W 0 sp held n2 22 (([c5,d1].drop 1).take (Tryz.prog.cellsOf 22))=ys[1]?:=hp 1 _ rfl;simp only [Pr.YP,bI,aT,aU,bK] at q0 q1;rw [Y (by omega)] at q0 q1;obtain⟨has,l1,i1⟩:=In.M9 q0;obtain⟨vals,l2,i2⟩:=In.M9 q1;obtain⟨x1,y1,rfl⟩:=i1.shape;obtain⟨x2,y2,rfl⟩:=i2.shape;obtain⟨_,_,k3⟩:=World.cells?_some k1;have k0:=k3 0 (by decide);rw [Rw.add_zero] at k0;refine⟨a.add (i * 7),m0,m1,m2,m3,m4,x1,_,y1,x2,_,y2,has,vals,World.block_lt_of_cell? W _ k0,fun w=>Zg a i len cap hi w,fun j u hu=>?_,⟨In.uH w0,In.uH w1,In.uH w2,In.uH w3,In.uH w4⟩,i1,i2,l1,l2⟩;have hj:j<7:=(aH.1 hu).1;rw [<- hu];exact k3 j hj
theorem UW:Tryz.prog.cellsOf 47=2:=by kernel_rfl
theorem UY:Tryz.prog.cellsOf 45=1:=by kernel_rfl
theorem UZ {n:Int} (h:(Lit.int O n).wf=bn):-9223372036854775808<=n/\n<=9223372036854775807:=by
 have h2:(decide (IntKind.i64.min<=n) && decide (n<=IntKind.i64.max))=bn:=h;rw [Bool.and_eq_true,decide_eq_true_eq,decide_eq_true_eq,show IntKind.i64.min=-9223372036854775808 by decide,show IntKind.i64.max=9223372036854775807 by decide] at h2;exact h2
theorem Rv {H:Type} {enc:TypeId×au->H} {W:aA} {r:Reach} {b0:Nat} {sp:Nat->Bool} {held:Bool} {v:au} {d:DataW H} {ps:List MemPlace}
  (hval:Value.okWide Z W r b0 47 v) (hd:DataW.Trod enc Z W 0 sp held 47 v d ps) :
  ∃ (zn:Int) (u:au) (n:Nat),v=aV #[U O zn,u]/\-9223372036854775808<=zn/\zn<=9223372036854775807/\n<=maxLen/\Me W u n:=by
 obtain⟨cs,rfl,hsz⟩:=okWide_struct bZ hval;obtain⟨fuel,hf⟩:=hd;obtain⟨xs,n,_,_,_,hxl,hx⟩:=bg bZ hf;rw [UW] at hsz;obtain⟨l⟩:=cs
 match l,hsz with
 | [c0,c1],_ =>
  have f0:aI enc Z W 0 sp held n 3 (([c0,c1].drop 0).take (Tryz.prog.cellsOf 3))=xs[0]?:=hx 0 _ rfl;have f1:aI enc Z W 0 sp held n 45 (([c0,c1].drop 1).take (Tryz.prog.cellsOf 45))=xs[1]?:=hx 1 _ rfl;have ahe:xs.length=2:=hxl;simp only [In.Kr,UY,bI,aT,aU,bK] at f0 f1;rw [Y (by omega)] at f0 f1;obtain⟨m0,e0,_,w0⟩:=aN aF f0;simp only [List.cons.injEq,and_true] at e0;subst e0;obtain⟨k,h1,h2⟩:=ac7 f1;exact⟨m0,c1,k,rfl,(UZ w0).1,(UZ w0).2,h1,h2⟩
end Av
end Go.Proofs.YtmklifheakemeaaGreat
