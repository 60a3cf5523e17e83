/-
  A set of IDs as a ma. Conditions as told.
-/
import Derived.Maps.OwnSet
import Derived.DeepKeys4
import Derived.KernelRfl
import Derived.Test.YtkcfgbddlpomgaaGreatDQ022
import Derived.Test.YtkcfgbddlpomgaaGreatDQ033
import Derived.Test.YtkcfgbddlpomgaaGreatDQ030
set_option maxRecDepth 100000
set_option maxHeartbeats 64000000
open _root_.Go renaming World->aG,Value->aJ,maxLen->aY,bodyPost_ret->aZ,Addr->bE,Calls->bK
open Go.DataW renaming trod->aF,trod_int->aL,trod_struct->aQ,Trod->bJ
open Go.IntKind renaming i64->O
open Go.Lib renaming hid->Z
open Go.Operand renaming tmp->aB
open Go.Proofs.Tryz renaming prog->ak,underlying3->aI,underlying22->bg,underlying24->bn,underlying27->bD,results62->bG,func9->bH
open Go.Proofs.YtkcfgbddlpomgaaGreat.Rg renaming dw->aP,dY->bF,gL->bL,dP->bO,jO->bP,fM->bQ,dI->bR,yx->bS
open Go.Proofs.YtkcfgbddlpomgaaGreat.Wi renaming within->aj,gY->bN
open Go.RowKit.Below renaming refl->au
open Go.Value renaming slice->L,int->U,pointer->ah,agg->aK,okWide->bI
open _root_.List renaming getElem?_toArray->ay,getElem?_eq_getElem->aC,getElem?_cons_zero->aD,getElem?_cons_succ->aH,drop_succ_cons->aN,take_succ_cons->aO,drop_zero->aR,take_zero->aS,mem_cons->aT,map_toArray->aU,mem_cons_of_mem->aV,map_cons->aW,pairwise_cons->aX,map_nil->bf
open _root_.Option renaming none->V,some->aA
open Option.some renaming inj->J
open _root_.Or renaming inr->aM
namespace Go.Proofs.YtkcfgbddlpomgaaGreat
namespace Av
open Go.RowKit Rw Bk Go.Maps Go.ChangeMaps
end Av
namespace Av
open Go.RowKit Rw YtkcfgbddlpomgaaGreat.Nm Pr Bk Go.Sort
abbrev Du (me:Int) (near:List Int):Br:=⟨me,near,[],[],[],[]⟩
theorem Tg (me:Int) (v:Sl) (l:List Int) (w:aG) (hv:q8 w (dR v) l) (hl:l.length<=900) :
  bK ak 41 #[U O me,dR v] w fun e w'=>(∃ (l':List Int) (nv:Sl),e=.returned (ny me nv (V,0,0) (V,0,0) (V,0,0) (V,0,0))/\gZ w' (Du me l') nv (V,0,0) (V,0,0) (V,0,0) (V,0,0)/\(∃ B,lU w' B (dR nv) l')/\l'.Pairwise (·<·)/\∀ x,x∈l'↔x∈l)/\Below w.heap.size w w':=by
 have n0:=fE w (.cells #[U O 0,L V 0 0,L V 0 0,L V 0 0,L V 0 0,L V 0 0] 33);have X:=Z (dL w #[U O 0,L V 0 0,L V 0 0,L V 0 0,L V 0 0,L V 0 0] 33);have C:=Z (yP v l _ (hv.on n0) hl);have B0:=Z n0;have HL:=Z hl;obtain⟨vo,vn,vc⟩:=v;clear hv hl n0;go_enter Tryz.func41,Tryz.ntmps41;go_wp2_with fail;generalize w.alloc (.cells #[U O 0,L V 0 0,L V 0 0,L V 0 0,L V 0 0,L V 0 0] 33)=W at *;refine C.out.mono ?_;rintro e1 w1 ⟨⟨⟨p1,p2,p3⟩,rfl,ho⟩,hb⟩;have B1:=Z (B0.out.trans (hb.mono B0.out.size));have X1:=Z (X.out.on hb);have hlt:w.heap.size<W.heap.size:=X.out.lt;have C2:=Z (CY w1 W.heap.size _ l ho HL.out);have OT:=Z (fun g hg=>(ho.lt g hg).1);have HW:=Z hlt;clear hb ho C X;go_wp2_with fail;refine C2.out.mono ?_;rintro e2 w2 ⟨rfl,l2,ho2,hp2,hs2,hg2⟩;have B2:=Z (B1.out.grown hg2 B1.out.size (fun j hj=>Nat.le_trans (Nat.le_of_lt HW.out) (OT.out j hj)));have X2:=Z (show dJ w2 w.heap.size _ _ from (hg2.block _ X1.out.lt (fun e=>by have:=OT.out _ e.symm; have:=HW.out; omega)).trans X1.out);have C3:=Z (GD w2 W.heap.size (p1,p2,p3) l2 ho2 hs2 (by rw [hp2.length_eq]; exact HL.out));have PM:=Z hp2;have OT2:=Z (fun g hg=>(ho2.lt g hg).1);clear ho2 hp2 hs2 hg2 C2 OT X1;go_wp2_with fail;refine C3.out.mono ?_;rintro e3 w3 ⟨⟨⟨t1,t2,t3⟩,rfl,l3,ho3,hs3,hm3⟩,hg3⟩;have B3:=Z (B2.out.grown hg3 B2.out.size (fun j hj=>Nat.le_trans (Nat.le_of_lt HW.out) (OT2.out j hj)));have Y:=show dJ w3 w.heap.size _ _ from (hg3.block _ X2.out.lt (fun e=>by have:=OT2.out _ e.symm; have:=HW.out; omega)).trans X2.out;obtain⟨y0,y1,y2,y3,y4,y5⟩:=Y.fA;obtain⟨f0,f1,f2,f3,f4,f5⟩:=Y.kg;have zz:=Y.lt;have FB:=Z (dK Y (U O me) (L t1 t2 t3) (L V 0 0) (L V 0 0) (L V 0 0) (L V 0 0));have FL:=Z (dD (b:=w.heap.size) B3.out (Nat.le_refl _) (U O me) (L t1 t2 t3) (L V 0 0) (L V 0 0) (L V 0 0) (L V 0 0));have FO:=Z (eY ho3 w.heap.size HW.out (U O me) (L t1 t2 t3) (L V 0 0) (L V 0 0) (L V 0 0) (L V 0 0));have Q:=Z (show l3.Pairwise (·<·)/\∀ x,x∈l3↔x∈l from ⟨hs3,fun x=>(hm3 x).trans PM.out.mem_iff⟩);clear ho3 hs3 hm3 hg3 Y X2 C3 B2 B1 B0;go_wp2_with fail;obtain⟨v0,v1,v2,v3,v4,v5⟩:=FB.out.fA;refine aZ (v:=aK #[U O me,L t1 t2 t3,L V 0 0,L V 0 0,L V 0 0,L V 0 0]) (by simp [results,Tryz.results41,go_sem,v0,v1,v2,v3,v4,v5]) rfl ?_;exact⟨⟨l3,(t1,t2,t3),rfl,⟨Row.dx FO.out,⟨[],ji _,.nil⟩,ji _,⟨[],ji _,.nil⟩,⟨[],ji _,.nil⟩⟩,⟨_,FO.out⟩,Q.out.1,Q.out.2⟩,FL.out⟩
end Av
namespace Bk
open Go.RowKit Go.Sort Rw YtkcfgbddlpomgaaGreat.Nm Pr
end Bk
namespace Av
open Go.RowKit Go.Sort Rw YtkcfgbddlpomgaaGreat.Nm Pr Bk
structure xG (W:aG) (b:Br) (nv av sv ev ov:Sl):Prop where
 br:gZ W b nv av sv ev ov
 no:kM W nv b.near
theorem xG.on {W W':aG} {b:Br} {nv av sv ev ov:Sl} (h:xG W b nv av sv ev ov) (hb:Below W.heap.size W W'):xG W' b nv av sv ev ov:=⟨h.br.on hb,h.no.on hb⟩
theorem xG.keep {W W':aG} {k:Nat} {me:Int} {s1 s2 s3 s4 s5:Sl} {b:Br} {nv av sv ev ov:Sl} (h:xG W b nv av sv ev ov) (hb:dJ W k (iw me s1 s2 s3 s4 s5) 33) (hk:But k W W'):xG W' b nv av sv ev ov:=by
 obtain⟨B,hn⟩:=h.no;have hn2:lU W' B (dR nv) b.near:=hk.own hn hb (by decide);exact⟨eZ h.br hb hk.1 (Row.dx hn2),B,hn2⟩
theorem Ti (W:aG) (me:Int) {near:List Int} {nv:Sl} (h:q8 W (dR nv) near):gZ W ⟨me,near,[],[],[],[]⟩ nv (V,0,0) (V,0,0) (V,0,0) (V,0,0):=⟨h,⟨[],ji _,.nil⟩,ji _,⟨[],ji _,.nil⟩,⟨[],ji _,.nil⟩⟩
theorem sQ:∀ {l m:List Int},l.Pairwise (·<·)->m.Pairwise (·<·)->(∀ x,x∈l↔x∈m)->l=m
 | [],[],_,_,_=>rfl
 | [],y::m,_,_,h=>by have:=(h y).2 (by simp); simp at this
 | x::l,[],_,_,h=>by have:=(h x).1 (by simp); simp at this
 | x::l,y::m,hl,hm,h=>by
  have hl':=aX.1 hl;have hm':=aX.1 hm;have h1:x=y:=by
   rcases aT.1 ((h x).1 (by simp)) with e|e
   ·exact e
   ·rcases aT.1 ((h y).2 (by simp)) with e2|e2
    ·exact e2.symm
    ·have a1:=hm'.1 x e;have a2:=hl'.1 y e2;omega
  subst h1;rw [sQ hl'.2 hm'.2 fun z=>⟨fun hz=>?_,fun hz=>?_⟩]
  ·rcases aT.1 ((h z).1 (aV _ hz)) with e|e
   ·have:=hl'.1 z hz;omega
   ·exact e
  ·rcases aT.1 ((h z).2 (aV _ hz)) with e|e
   ·have:=hm'.1 z hz;omega
   ·exact e
theorem OY {W W':aG} {b:Nat} (h:W.grownBy W' (aA b)):But b W W':=⟨fun k hk hne=>h.block k hk (by simpa using hne),h.size⟩
end Av
namespace Bk
open Go.RowKit Go.Sort Rw YtkcfgbddlpomgaaGreat.Nm Pr
def uV (B:Nat) (bv:aJ) (f c d:Int) (l:List Int) (i:Nat) (v:aJ) (x:aG):Prop :=
 match i with
 | 0=>v=bv
 | 1=>v=bv
 | 2=>v=U O f
 | 3=>v=mD (c,d)
 | 4=>v=aK #[U O 2,U O c,U O d,U O 0,U O 0,L V 0 0,L V 0 0]
 | 5=>∃ sl:Sl,v=dR sl/\jd x B v (lg l f fun n=>(n,2,c,d,0,0,(V,0,0),(V,0,0)))
 | _=>True
noncomputable def Ma:Code:=((Tryz.f62.body.bind (eG 4)).getD .skip)
theorem Tj (Q:Exit->Act->aG->Prop) (W:aG) (b3 b5 b6:Nat) (me f c d:Int) (o1 o2 o3 o4 o5:Option bE) (n1 c1 n2 c2 n3 c3 n4 c4 n5 c5:Nat) (l:List Int) (z0 z1 z2 z3 z4 z5:aJ) (u0 u2 u4 u7 u8 u9 u10 u11 u12 u13 u14 u15 u16 u17 u18 u19 u20 u21 u22 u23 u24:aJ)
  (h3:dJ W b3 #[U O me,L o1 n1 c1,L o2 n2 c2,L o3 n3 c3,L o4 n4 c4,L o5 n5 c5] 33) (h5:dJ W b5 #[U O c,U O d] 38) (h6:dJ W b6 #[z0,z1,z2,z3,z4,z5] 33) (hl:q8 W (L o1 n1 c1) l) (hlen:l.length<=900)
  (hQ:∀ (a:Act) (x:aG) (sl:Sl),a.defers=[]->a.tmps[6]?=aA (ah (aA ⟨b6,0,V⟩))->a.tmps[7]?=aA (dR sl)->dJ x b6 #[U O me,L o1 n1 c1,L o2 n2 c2,L o3 n3 c3,L o4 n4 c4,L o5 n5 c5] 33->jd x W.heap.size (dR sl) (lg l f fun n=>(n,2,c,d,0,0,(V,0,0),(V,0,0)))->(∀ k,k<W.heap.size->k≠b6->x.heap[k]?=W.heap[k]?)->(∀ B,B<=b6->Below B W x)->Q .normal a x) :
  Code.wp ak Ma Q ⟨(u0::U O f::u2::ah (aA ⟨b3,0,V⟩)::u4::ah (aA ⟨b5,0,V⟩)::ah (aA ⟨b6,0,V⟩)::u7::u8::u9::u10::u11::u12::u13::u14::u15::u16::u17::u18::u19::u20::u21::u22::u23::u24::[]).toArray,[]⟩ W:=by
 have HQ:=Z hQ;have H3:=Z h3;have H5:=Z h5;have H6:=Z h6;have HL:=Z hl;have LL:=Z hlen;clear hQ h3 h5 h6 hl hlen;have iN:∀ (j:Nat) (u:aJ) (x x':aG),j<6->uV W.heap.size (aK #[U O me,L o1 n1 c1,L o2 n2 c2,L o3 n3 c3,L o4 n4 c4,L o5 n5 c5]) f c d l j u x->Below x.heap.size x x'->uV W.heap.size (aK #[U O me,L o1 n1 c1,L o2 n2 c2,L o3 n3 c3,L o4 n4 c4,L o5 n5 c5]) f c d l j u x':=by
  intro i u x x' hi h hb;rcases (by omega:i=0\/i=1\/i=2\/i=3\/i=4\/i=5) with rfl|rfl|rfl|rfl|rfl|rfl
  ·exact h
  ·exact h
  ·exact h
  ·exact h
  ·exact h
  ·obtain⟨sl,h1,h2⟩:=h;exact⟨sl,h1,dB h2 hb⟩
 unfold Ma
 conv=>arg 2; whnf
 have nd:∀ j,(j<19\/25<=j)->∀ i,i<6->(fun i=>19+i) i≠j:=by
  intro j hj i hi h;simp only at h;omega
 refine Rg.fJ 8 6 (fun i=>19+i) (fun _=>6) (uV W.heap.size (aK #[U O me,L o1 n1 c1,L o2 n2 c2,L o3 n3 c3,L o4 n4 c4,L o5 n5 c5]) f c d l) (by kernel_rfl) (by kernel_rfl) rfl (by decide) (fun i j _ _ h=>by have h2:19+i=19+j:=h; omega) (fun i hi=>by show 19+i<25; omega) ?_ (fun _=>Rg.jc 3 (by kernel_rfl)) ?_ ?_
 ·intro i o hi ho a x D hnd hc hD hb seen K hK;clear HQ;rcases (by omega:i=0\/i=1\/i=2\/i=3\/i=4\/i=5) with rfl|rfl|rfl|rfl|rfl|rfl
  ·cases ho;have e3:a.eval (aB 3)=ah (aA ⟨b3,0,V⟩):=seen.kp 3 _ (nd 3 (by omega)) rfl;exact aP rfl rfl (bF a.eval _ 33 (aB 3) rfl (by rw [e3]; exact wm (H3.out.on hb))) (hK _ _ rfl (au _ _) fun _ _ _ _ _ _ _ h=>h)
  ·cases ho;have e3:a.eval (aB 3)=ah (aA ⟨b3,0,V⟩):=seen.kp 3 _ (nd 3 (by omega)) rfl;exact aP rfl rfl (bF a.eval _ 33 (aB 3) rfl (by rw [e3]; exact wm (H3.out.on hb))) (hK _ _ rfl (au _ _) fun _ _ _ _ _ _ _ h=>h)
  ·cases ho;have e1:a.eval (aB 1)=U O f:=seen.kp 1 _ (nd 1 (by omega)) rfl;exact aP rfl rfl (Rg.fU a.eval _ (aB 1) rfl x) (hK _ _ e1 (au _ _) fun _ _ _ _ _ _ _ h=>h)
  ·cases ho;have e5:a.eval (aB 5)=ah (aA ⟨b5,0,V⟩):=seen.kp 5 _ (nd 5 (by omega)) rfl;exact aP rfl rfl (bF a.eval _ 38 (aB 5) rfl (by rw [e5]; exact Bz x _ (c,d) (Ky (H5.out.on hb)))) (hK _ _ rfl (au _ _) fun _ _ _ _ _ _ _ h=>h)
  ·cases ho;have e22:a.eval (aB 22)=mD (c,d):=seen.at_ ⟨3,.data⟩ (by simp) rfl (aM (by decide));exact aP rfl rfl (bP a.eval _ 43 #[(0,.const (U O 2)),(1,aB 22)] rfl (ps:=#[(0,U O 2),(1,mD (c,d))]) (by simp only [aU,aW,bf,e22]; rfl) (by simp [go_sem])) (hK _ _ rfl (au _ _) fun _ _ _ _ _ _ _ h=>h)
  ·cases ho;have e20:a.eval (aB 20)=aK #[U O me,L o1 n1 c1,L o2 n2 c2,L o3 n3 c3,L o4 n4 c4,L o5 n5 c5]:=seen.at_ ⟨1,.data⟩ (by simp) rfl (aM (by decide));have e21:a.eval (aB 21)=U O f:=seen.at_ ⟨2,.data⟩ (by simp) rfl (aM (by decide));have e23:a.eval (aB 23)=aK #[U O 2,U O c,U O d,U O 0,U O 0,L V 0 0,L V 0 0]:=seen.at_ ⟨4,.data⟩ (by simp) rfl (aM (by decide));exact bL rfl rfl (Cg a.eval _ (aB 20) (aB 21) (aB 23) 33 3 43 61 rfl e20 e21 e23 rfl _ (gu Tryz.func61 rfl rfl _ _)) (yT me f 2 c d 0 0 (o1,n1,c1) _ _ _ _ (V,0,0) (V,0,0) l x (HL.out.on hb) LL.out) fun e w1 h=>by
    obtain⟨⟨v,rfl,h1⟩,h3⟩:=h;exact⟨_,rfl,hK _ _ ⟨v,rfl,dG h1 hb.size⟩ (h3.mono hb.size) fun j u hj _ _ _ hne h=>iN j u _ _ (by omega) h h3⟩
 ·intro kk o h1 h2 ho;obtain rfl:kk=7:=by omega
  cases ho;exact⟨⟨6,.chain⟩,by simp,rfl,rfl⟩
 ·intro a w' df sz kp ⟨vs,hv⟩ hb;have g19:a.tmps[19]?=aA (aK #[U O me,L o1 n1 c1,L o2 n2 c2,L o3 n3 c3,L o4 n4 c4,L o5 n5 c5]):=by
   have h:vs 0=aK #[U O me,L o1 n1 c1,L o2 n2 c2,L o3 n3 c3,L o4 n4 c4,L o5 n5 c5]:=(hv 0 (by omega)).2 (by decide);rw [<- h];exact (hv 0 (by omega)).1
  obtain⟨sl,hsl,ho⟩:=(hv 5 (by omega)).2 (by decide);have g24:a.tmps[24]?=aA (dR sl):=by
   rw [<- hsl];exact (hv 5 (by omega)).1
  rw [hsl] at ho;have g6:a.tmps[6]?=aA (ah (aA ⟨b6,0,V⟩)):=(kp 6 (nd 6 (by omega))).trans rfl;have sz':a.tmps.size=25:=sz;have H6':=H6.out.on hb;have lt6:=H6.out.lt;show Rg.fC _ _ _ 2 6 a w';simp only [Rg.fC];refine bQ 33 (aB 6) (aB 19) rfl rfl rfl rfl (bR g6) (bR g19) (w':=gP w' b6 (U O me) (L o1 n1 c1) (L o2 n2 c2) (L o3 n3 c3) (L o4 n4 c4) (L o5 n5 c5)) (sI H6' me _ _ _ _ _ _ _ _ _ _ _ _ _ _ _) ?_;refine aP rfl rfl (Rg.kU a.eval _ (aB 24) rfl _) ?_;rw [bR g24];refine HQ.out _ _ sl df ((Rg.get_put a 7 (dR sl) 6 (by decide)).trans g6) ?_ (dK H6' _ _ _ _ _ _) (eY ho b6 lt6 _ _ _ _ _ _) ?_ ?_
  ·have:7<a.tmps.size:=by omega
   show (a.put (aA 7) (dR sl)).tmps[7]?=_;simp [Act.put,this]
  ·intro k hk hne;exact (dH w' b6 (U O me) (L o1 n1 c1) (L o2 n2 c2) (L o3 n3 c3) (L o4 n4 c4) (L o5 n5 c5) k hne).trans (hb.block k hk)
  ·exact fun B hB=>dD (hb.mono (Nat.le_of_lt (Nat.lt_of_le_of_lt hB lt6))) hB _ _ _ _ _ _
def zI (b:Br) (f:Int) (x:Id):List nC:=if (gM b x f).2=true then lg b.near f (fun n=>(n,2,x.1,x.2,0,0,(V,0,0),(V,0,0))) else []
theorem jY (b:Br) (x:Id) (f:Int):(gM b x f).1.near=b.near/\(gM b x f).1.me=b.me:=by
 unfold gM
 split
 ·exact⟨rfl,rfl⟩
 ·split
  ·exact⟨rfl,rfl⟩
  ·split <;> exact⟨rfl,rfl⟩
theorem J5 (b:Br) (nv av sv ev ov:Sl) (x:Id) (f:Int) (w:aG) (h:gZ w b nv av sv ev ov) (l1:b.near.length<=900) (l2:b.dO.length<=900) (l3:b.ent.length<=900) :
  bK ak 62 #[ny b.me nv av sv ev ov,U O f,mD x] w fun e w'=>(∃ xX ev' sl:Sl,e=.returned (.tuple #[ny b.me nv xX sv ev' ov,dR sl])/\gZ w' (gM b x f).1 nv xX sv ev' ov/\AX w' (dR sl) (zI b f x))/\Below w.heap.size w w':=by
 obtain⟨no,nn,nc⟩:=nv;obtain⟨ao,an,ac⟩:=av;obtain⟨so,sn,sc⟩:=sv;obtain⟨eo,en,ec⟩:=ev;obtain⟨oo,dU,oc⟩:=ov;obtain⟨c,d⟩:=x;have FG:=Z (fun W hb'=>F9 b (no,nn,nc) (ao,an,ac) (so,sn,sc) (eo,en,ec) (oo,dU,oc) (c,d) f W (h.on (show Below w.heap.size w W from hb')) l2 l3);have vO:=Z h.near;have L1:=Z l1;obtain⟨h0,h1,h2,h3⟩:=gN w #[U O b.me,L no nn nc,L ao an ac,L so sn sc,L eo en ec,L oo dU oc] #[U O c,U O d] #[U O 0,L V 0 0,L V 0 0,L V 0 0,L V 0 0,L V 0 0] 33 38 33;obtain⟨me,hme⟩:∃ me,me=b.me:=⟨_,rfl⟩;simp only [<- hme] at h0 h1 h2 h3 FG ⊢;have B0:=Z h0;have X2:=Z h1;have X3:=Z h2;have X5:=Z h3;clear h0 h1 h2 h3 h l1 l2 l3 hme;show bK ak 62 #[aK #[U O me,L no nn nc,L ao an ac,L so sn sc,L eo en ec,L oo dU oc],U O f,aK #[U O c,U O d]] w _;go_enter Tryz.func62,Tryz.ntmps62;go_upto_region 1 with fail;generalize (((w.alloc (.cells #[U O me,L no nn nc,L ao an ac,L so sn sc,L eo en ec,L oo dU oc] 33)).alloc (.cells #[U O c,U O d] 38)).alloc (.cells #[U O 0,L V 0 0,L V 0 0,L V 0 0,L V 0 0,L V 0 0] 33))=W at *;have SW:=Z (FG.out W B0.out);have x_:=X2.out;have y_:=X3.out;obtain⟨x0,x1,x2,x3,x4,x5⟩:=x_.fA;obtain⟨y0,y1⟩:=y_.cs2;clear x_ y_ FG;go_wp2_with fail;refine SW.out.mono ?_;rintro e1 w1 ⟨⟨⟨Mc,kC,kD⟩,⟨Md,gW,gX⟩,rfl,hbr⟩,hb⟩;obtain⟨fb,JI⟩:∃ r,(gM b (c,d) f).2=r:=⟨_,rfl⟩;have LB:=Z JI;rw [JI];have B1:=Z (B0.out.trans (hb.mono B0.out.size));have Y2:=X2.out.on hb;have Y3:=X3.out.on hb;have Y5:=X5.out.on hb;obtain⟨k0,k1,k2,k3,k4,k5⟩:=Y2.fA;obtain⟨t0,t1,t2,t3,t4,t5⟩:=Y2.kg;have zz:=Y2.lt;have FB:=Z (dK Y2 (U O me) (L no nn nc) (L Mc kC kD) (L so sn sc) (L Md gW gX) (L oo dU oc));have B2:=Z (dD (b:=w.heap.size) B1.out (Nat.le_refl _) (U O me) (L no nn nc) (L Mc kC kD) (L so sn sc) (L Md gW gX) (L oo dU oc));have F3:=Z (show dJ _ _ _ _ from (dH w1 w.heap.size (U O me) (L no nn nc) (L Mc kC kD) (L so sn sc) (L Md gW gX) (L oo dU oc) (w.heap.size+1) (by omega)).trans Y3);have F5:=Z (show dJ _ _ _ _ from (dH w1 w.heap.size (U O me) (L no nn nc) (L Mc kC kD) (L so sn sc) (L Md gW gX) (L oo dU oc) (w.heap.size+1+1) (by omega)).trans Y5);have HB:=Z (eZ (s1:=(no,nn,nc)) (s2:=(ao,an,ac)) (s3:=(so,sn,sc)) (s4:=(eo,en,ec)) (s5:=(oo,dU,oc)) hbr Y2 (fun j _ hj=>dH w1 w.heap.size (U O me) (L no nn nc) (L Mc kC kD) (L so sn sc) (L Md gW gX) (L oo dU oc) j hj) (by rw [(jY b (c,d) f).1]; exact vO.out.on B2.out));clear JI hbr hb SW X2 X3 X5 B1 Y2 Y3 Y5 x0 x1 x2 x3 x4 x5 y0 y1;go_upto_region 2 with fail;clear zz k0 k1 k2 k3 k4 k5 t0 t1 t2 t3 t4 t5;unfold gP at FB B2 F3 F5 HB;generalize ((((((w1.setCell ⟨w.heap.size,0,V⟩ (U O me)).setCell ⟨w.heap.size,1,V⟩ (L no nn nc)).setCell ⟨w.heap.size,2,V⟩ (L Mc kC kD)).setCell ⟨w.heap.size,3,V⟩ (L so sn sc)).setCell ⟨w.heap.size,4,V⟩ (L Md gW gX)).setCell ⟨w.heap.size,5,V⟩ (L oo dU oc))=w2 at *;cases fb
 ·have x_:=FB.out;have r_:=F5.out;obtain⟨x0,x1,x2,x3,x4,x5⟩:=x_.fA;obtain⟨r0,r1,r2,r3,r4,r5⟩:=r_.fA;obtain⟨t0,t1,t2,t3,t4,t5⟩:=r_.kg;have zz:=r_.lt;have GB:=Z (dK r_ (U O me) (L no nn nc) (L Mc kC kD) (L so sn sc) (L Md gW gX) (L oo dU oc));have BL:=Z (dD (b:=w.heap.size+1+1) B2.out (by omega) (U O me) (L no nn nc) (L Mc kC kD) (L so sn sc) (L Md gW gX) (L oo dU oc));have HC:=Z (eZ (s1:=(V,0,0)) (s2:=(V,0,0)) (s3:=(V,0,0)) (s4:=(V,0,0)) (s5:=(V,0,0)) HB.out r_ (fun j _ hj=>dH w2 (w.heap.size+1+1) (U O me) (L no nn nc) (L Mc kC kD) (L so sn sc) (L Md gW gX) (L oo dU oc) j hj) (by rw [(jY b (c,d) f).1]; exact vO.out.on BL.out));clear x_ r_ HB FB F3 F5;go_wp2_with fail;obtain⟨v0,v1,v2,v3,v4,v5⟩:=GB.out.fA;refine aZ (v:=.tuple #[aK #[U O me,L no nn nc,L Mc kC kD,L so sn sc,L Md gW gX,L oo dU oc],L V 0 0]) (by simp [results,bG,go_sem,v0,v1,v2,v3,v4,v5]) rfl ?_;exact⟨⟨(Mc,kC,kD),(Md,gW,gX),(V,0,0),rfl,HC.out,by unfold zI; rw [LB.out]; exact Or.inl ⟨rfl,rfl⟩⟩,BL.out⟩
 ·go_upto_region 4 with fail;refine Tj _ w2 w.heap.size (w.heap.size+1) (w.heap.size+1+1) me f c d no Mc so Md oo nn nc kC kD sn sc gW gX dU oc b.near _ _ _ _ _ _ _ _ _ _ _ _ _ _ _ _ _ _ _ _ _ _ _ _ _ _ _ FB.out F3.out F5.out (vO.out.on B2.out) L1.out ?_;intro a9 x9 sl Gs h69 h79 hbx ho hblk hbl;have BL:=Z (B2.out.trans (hbl w.heap.size (by omega)));have HC:=Z (eZ (s1:=(V,0,0)) (s2:=(V,0,0)) (s3:=(V,0,0)) (s4:=(V,0,0)) (s5:=(V,0,0)) HB.out F5.out (fun j hlt hj=>hblk j hlt hj) (by rw [(jY b (c,d) f).1]; exact vO.out.on BL.out));have HU:=Z (Row.dx ho);have ad1:=hbx;obtain⟨v0,v1,v2,v3,v4,v5⟩:=ad1.fA;clear ad1 hbx ho hblk hbl HB FB F3 F5;simp only [Exit.then]
  apply_assumption
  go_wp2_with fail;refine aZ (v:=.tuple #[aK #[U O me,L no nn nc,L Mc kC kD,L so sn sc,L Md gW gX,L oo dU oc],dR sl]) (by simp [results,bG,go_sem,h69,h79,v0,v1,v2,v3,v4,v5]) Gs ?_;exact⟨⟨(Mc,kC,kD),(Md,gW,gX),sl,rfl,HC.out,by unfold zI; rw [LB.out]; exact HU.out⟩,BL.out⟩
def zJ (near:List Int) (n:Int):Int:=(near[(aj n 0 near.length).toNat]?).getD (-1)
theorem Ia (me n:Int) (nv:Sl) (av sv ev ov:aJ) (l:List Int) (w:aG) (hs:q8 w (dR nv) l) (hl:l.length<=900) (h1:-9223372036854775808<=n) (h2:n<=9223372036854775807) :
  bK ak 8 #[aK #[U O me,dR nv,av,sv,ev,ov],U O n] w fun e w'=>e=.returned (U O (zJ l n))/\Below w.heap.size w w':=by
 obtain⟨no,nn,nc⟩:=nv;obtain⟨q1,q2,hq⟩:=hs.len;obtain⟨rfl,rfl,rfl⟩:no=q1/\nn=l.length/\nc=q2:=by
  have:L no nn nc=L q1 l.length q2:=hq;simpa using this
 obtain⟨nn,hnn⟩:∃ n,n=l.length:=⟨_,rfl⟩;simp only [<- hnn] at hs ⊢;have NB:=fE w (.cells #[U O me,L no nn nc,av,sv,ev,ov] 33);have B0:=Z NB;have X2:=Z (dL w #[U O me,L no nn nc,av,sv,ev,ov] 33);have HS:=Z (hs.on NB);have HN:=Z hnn;have nl:nn<=900:=by omega
 clear NB hs hq hnn hl;show bK ak 8 #[aK #[U O me,L no nn nc,av,sv,ev,ov],U O n] w _;go_enter Tryz.func8,Tryz.ntmps8;go_upto_region 1 with fail;generalize w.alloc (.cells #[U O me,L no nn nc,av,sv,ev,ov] 33)=W at *;have x1:=X2.out.cell 1;simp only [ay,aD,aH] at x1;have WI:=bN n 0 (nn:Int) W (by omega) (by decide) (by omega) h1 h2;have WB:=Wi.iP n 0 (nn:Int) (by omega);have SD:=Z (show zJ l n=(l[(aj n 0 (nn:Int)).toNat]?).getD (-1) from by unfold zJ; rw [HN.out]);generalize aj n 0 (nn:Int)=y at *;obtain⟨m,rfl⟩:∃ m:Nat,y=m:=⟨y.toNat,by omega⟩;rw [Int.toNat_natCast] at SD;go_wp2_with fail;refine WI.mono ?_;rintro e2 w2 ⟨rfl,rfl⟩;clear WI;by_cases hm:m<nn
 ·have hm2:(m:Int)<(nn:Int):=by omega
  obtain⟨z,hz⟩:∃ z,l[m]?=aA z:=⟨_,aC (by rw [<- HN.out]; exact hm)⟩;obtain⟨p,ix,px⟩:=elI HS.out rfl HN.out.symm hz;have p0:=px.2 W (au _ _);rw [hz] at SD;clear px hz;go_wp2_with fail;go_ret;exact⟨by rw [SD.out]; rfl,B0.out⟩
 ·have hm2:¬ ((m:Int)<(nn:Int)):=by omega
  rw [List.getElem?_eq_none (by have:=HN.out; omega)] at SD;go_wp2_with fail;go_ret;exact⟨by rw [SD.out]; rfl,B0.out⟩
end Bk
namespace Av
open Go.RowKit Go.Sort Rw YtkcfgbddlpomgaaGreat.Nm Pr Bk
theorem zK {P:Program} (ρ:Operand->aJ) (o:Oper) (y:Operand) (k:Nat) (ho:o.op=.extract y k) {c:Array aJ} {v:aJ} (hx:ρ y=.tuple c) (hv:c[k]?=aA v) (w:aG):(execOp ρ o).run P w=.ok (.value v) w:=by
 simp [execOp,ho,hx,hv,go_sem]
def ad2 (_:Nat) (bq:Nat) (_ _ _ z3 z4:Int) (_:Option bE) (_ _:Nat) (_:Option bE) (_ _:Nat) (i:Nat) (v:aJ) (_:aG):Prop :=
 match i with
 | 0=>v=ah (aA ⟨bq,3,V⟩)
 | 1=>v=U O z3
 | 2=>v=U O (aj z3 0 4)
 | 3=>v=ah (aA ⟨bq,4,V⟩)
 | 4=>v=U O z4
 | 5=>v=U O (aj z4 0 2)
 | 6=>v=aK #[U O (aj z3 0 4),U O (aj z4 0 2)]
 | 7=>True
 | 8=>True
 | _=>True
noncomputable def YL:Code:=((Tryz.f7.body.bind (eG 12)).getD .skip)
theorem agz (Q:Exit->Act->aG->Prop) (W:aG) (bq:Nat) (z0 z1 z2 z3 z4:Int) (h1:Option bE) (h2 h3:Nat) (g1:Option bE) (g2 g3:Nat) (u0 u1 u2 u3 u4 u5 u7 u8 u9 u10 u11 u12 u13 u14 u15 u16 u17 u18 u19 u20 u21 u22 u23 u24 u25 u26 u27 u28 u29 u30 u31 u32 u33 u34 u35 u36 u37 u38 u39 u40 u41 u42 u43 u44 u45 u46 u47 u48 u49 u50 u51 u52 u53 u54 u55 u56 u57 u58 u59 u60 u61 u62 u63 u64 u65 u66 u67 u68 u69 u70 u71 u72 u73 u74 u75 u76 u77 u78 u79 u80 u81 u82 u83 u84 u85 u86 u87 u88 u89 u90 u91 u92 u93 u94 u95 u96 u97 u98 u99 u100 u101 u102 u103 u104 u105 u106 u107 u108 u109 u110 u111 u112 u113 u114 u115 u116 u117 u118 u119 u120 u121 u122 u123:aJ)
  (q:dJ W bq #[U O z0,U O z1,U O z2,U O z3,U O z4,L h1 h2 h3,L g1 g2 g3] 83) (d3:-9223372036854775808<=z3/\z3<=9223372036854775807) (d4:-9223372036854775808<=z4/\z4<=9223372036854775807)
  (hQ:∀ (x:aG) (bb:Nat) (v46 v47 v48 v49 v50 v51 v52:aJ),W.heap.size<=bb->dJ x bb #[U O (aj z3 0 4),U O (aj z4 0 2)] 38->Below W.heap.size W x->Q .normal ⟨(u0::u1::u2::u3::u4::u5::ah (aA ⟨bq,0,V⟩)::u7::ah (aA ⟨bb,0,V⟩)::u9::u10::u11::u12::u13::u14::u15::u16::u17::u18::u19::u20::u21::u22::u23::u24::u25::u26::u27::u28::u29::u30::u31::u32::u33::u34::u35::u36::u37::u38::u39::u40::u41::u42::u43::u44::u45::v46::v47::v48::v49::v50::v51::v52::u53::u54::u55::u56::u57::u58::u59::u60::u61::u62::u63::u64::u65::u66::u67::u68::u69::u70::u71::u72::u73::u74::u75::u76::u77::u78::u79::u80::u81::u82::u83::u84::u85::u86::u87::u88::u89::u90::u91::u92::u93::u94::u95::u96::u97::u98::u99::u100::u101::u102::u103::u104::u105::u106::u107::u108::u109::u110::u111::u112::u113::u114::u115::u116::u117::u118::u119::u120::u121::u122::u123::[]).toArray,[]⟩ x) :
  Code.wp ak YL Q ⟨(u0::u1::u2::u3::u4::u5::ah (aA ⟨bq,0,V⟩)::u7::u8::u9::u10::u11::u12::u13::u14::u15::u16::u17::u18::u19::u20::u21::u22::u23::u24::u25::u26::u27::u28::u29::u30::u31::u32::u33::u34::u35::u36::u37::u38::u39::u40::u41::u42::u43::u44::u45::u46::u47::u48::u49::u50::u51::u52::u53::u54::u55::u56::u57::u58::u59::u60::u61::u62::u63::u64::u65::u66::u67::u68::u69::u70::u71::u72::u73::u74::u75::u76::u77::u78::u79::u80::u81::u82::u83::u84::u85::u86::u87::u88::u89::u90::u91::u92::u93::u94::u95::u96::u97::u98::u99::u100::u101::u102::u103::u104::u105::u106::u107::u108::u109::u110::u111::u112::u113::u114::u115::u116::u117::u118::u119::u120::u121::u122::u123::[]).toArray,[]⟩ W:=by
 have HQ:=Z hQ;have HQ6:=Z q;have D3:=Z d3;have D4:=Z d4;clear hQ q d3 d4;unfold YL
 conv=>arg 2; whnf
 have nb6:∀ i,i<9->[46,47,48,49,50,51,52,8,8].getD i 0≠6:=by decide
 refine Rg.wJ 9 7 8 6 (fun i=>[46,47,48,49,50,51,52,8,8].getD i 0) (fun i=>9) (ad2 W.heap.size bq z0 z1 z2 z3 z4 h1 h2 h3 g1 g2 g3) 38 #[U O 0,U O 0] (fun v=>match v with | aK c=>c | _=>#[]) (by kernel_rfl) (by kernel_rfl) rfl (by decide) (by decide) (by decide) (by decide) (by decide) (by decide) (by decide) (fun i j hi hj h1 h2 h=>(by decide:∀ i,i<9->∀ j,j<9->i≠8->j≠8->[46,47,48,49,50,51,52,8,8].getD i 0=[46,47,48,49,50,51,52,8,8].getD j 0->i=j) i hi j hj h1 h2 h) (fun i hi=>(by decide:∀ i,i<9->[46,47,48,49,50,51,52,8,8].getD i 0<124) i hi) ?_ ?_ ?_ ?_ ?_ ?_
 ·intro i v x x' hi h hb;rcases (by omega:i=0\/i=1\/i=2\/i=3\/i=4\/i=5\/i=6\/i=7\/i=8) with rfl|rfl|rfl|rfl|rfl|rfl|rfl|rfl|rfl
  ·exact h
  ·exact h
  ·exact h
  ·exact h
  ·exact h
  ·exact h
  ·exact h
  ·exact h
  ·exact h
 ·intro o ho;cases ho;exact⟨⟨⟨7,.data⟩,by simp,rfl,rfl⟩,⟨⟨6,.data⟩,by simp,rfl,rfl⟩⟩
 ·intro i o hi Yg Qa ho a x hb seen K hK;clear HQ;rcases (by omega:i=0\/i=1\/i=2\/i=3\/i=4\/i=5\/i=6) with rfl|rfl|rfl|rfl|rfl|rfl|rfl
  ·cases ho;have e6:a.eval (aB 6)=ah (aA ⟨bq,0,V⟩):=seen.kp 6 _ nb6 rfl;exact aP rfl rfl (bO a.eval _ 83 (aB 6) 3 rfl (by rw [e6]; simp [go_sem])) (hK _ x rfl (au _ _))
  ·cases ho;have e46:a.eval (aB 46)=ah (aA ⟨bq,3,V⟩):=seen.at_ ⟨0,.data⟩ (by simp) rfl (by decide) (by decide) (aM (by decide));have y3:=(HQ6.out.on hb).cell 3;simp only [ay,aD,aH] at y3;exact aP rfl rfl (bF a.eval _ 3 (aB 46) rfl (by rw [e46]; simp [go_sem,y3])) (hK _ x rfl (au _ _))
  ·cases ho;have e47:a.eval (aB 47)=U O z3:=seen.at_ ⟨1,.data⟩ (by simp) rfl (by decide) (by decide) (aM (by decide));exact bL rfl rfl (bS a.eval _ (aB 47) (.const (U O 0)) (.const (U O 4)) 3 9 rfl e47 rfl rfl rfl _ (gu bH rfl rfl _ _)) (bN z3 0 4 x (by omega) (by omega) (by omega) D3.out.1 D3.out.2) fun e w1 h=>by
    obtain⟨rfl,rfl⟩:=h;exact⟨_,rfl,hK _ _ rfl (au _ _)⟩
  ·cases ho;have e6:a.eval (aB 6)=ah (aA ⟨bq,0,V⟩):=seen.kp 6 _ nb6 rfl;exact aP rfl rfl (bO a.eval _ 83 (aB 6) 4 rfl (by rw [e6]; simp [go_sem])) (hK _ x rfl (au _ _))
  ·cases ho;have e49:a.eval (aB 49)=ah (aA ⟨bq,4,V⟩):=seen.at_ ⟨3,.data⟩ (by simp) rfl (by decide) (by decide) (aM (by decide));have y4:=(HQ6.out.on hb).cell 4;simp only [ay,aD,aH] at y4;exact aP rfl rfl (bF a.eval _ 3 (aB 49) rfl (by rw [e49]; simp [go_sem,y4])) (hK _ x rfl (au _ _))
  ·cases ho;have e50:a.eval (aB 50)=U O z4:=seen.at_ ⟨4,.data⟩ (by simp) rfl (by decide) (by decide) (aM (by decide));exact bL rfl rfl (bS a.eval _ (aB 50) (.const (U O 0)) (.const (U O 2)) 3 9 rfl e50 rfl rfl rfl _ (gu bH rfl rfl _ _)) (bN z4 0 2 x (by omega) (by omega) (by omega) D4.out.1 D4.out.2) fun e w1 h=>by
    obtain⟨rfl,rfl⟩:=h;exact⟨_,rfl,hK _ _ rfl (au _ _)⟩
  ·cases ho;have e48:a.eval (aB 48)=U O (aj z3 0 4):=seen.at_ ⟨2,.data⟩ (by simp) rfl (by decide) (by decide) (aM (by decide));have e51:a.eval (aB 51)=U O (aj z4 0 2):=seen.at_ ⟨5,.data⟩ (by simp) rfl (by decide) (by decide) (aM (by decide));exact aP rfl rfl (bP a.eval _ 38 #[(0,aB 48),(1,aB 51)] rfl (ps:=#[(0,U O (aj z3 0 4)),(1,U O (aj z4 0 2))]) (by simp only [aU,aW,bf,e48,e51]) (by simp [go_sem])) (hK _ x rfl (au _ _))
 ·intro o ho a x K hK;cases ho;exact aP rfl rfl (Rg.yE a.eval _ 38 rfl (by simp [go_sem])) hK
 ·intro o ho a x bb v D hc hD hb hA hC Tk hbb lJ K hK;clear HQ;cases ho;have hv:v=aK #[U O (aj z3 0 4),U O (aj z4 0 2)]:=Tk;subst hv;obtain⟨x0,x1⟩:=lJ.cs2;obtain⟨f0,f1⟩:=lJ.fs2;have hst:(Instr.storeAt 38 (ah (aA ⟨bb,0,V⟩)) (aK #[U O (aj z3 0 4),U O (aj z4 0 2)])).run ak x=.ok () ((x.setCell ⟨bb,0,V⟩ (U O (aj z3 0 4))).setCell ⟨bb,1,V⟩ (U O (aj z4 0 2))):=by simp [go_sem,x0,x1,f0,f1]
  have aby:=dN (k:=1) (dN (k:=0) lJ (U O (aj z3 0 4))) (U O (aj z4 0 2));refine bQ 38 (aB 8) (aB 52) rfl rfl rfl rfl hA hC hst (hK _ ((hb.setCell (p:=⟨bb,0,V⟩) hbb _).setCell (p:=⟨bb,1,V⟩) hbb _) (by simpa using aby) ?_);exact fun j u hj hjA hjS hdj hnl hls h=>by
   rcases (by omega:j=0\/j=1\/j=2\/j=3\/j=4\/j=5\/j=6) with rfl|rfl|rfl|rfl|rfl|rfl|rfl
   ·have h2:u=ah (aA ⟨bq,3,V⟩):=h; exact h2
   ·have h2:u=U O z3:=h; exact h2
   ·have h2:u=U O (aj z3 0 4):=h; exact h2
   ·have h2:u=ah (aA ⟨bq,4,V⟩):=h; exact h2
   ·have h2:u=U O z4:=h; exact h2
   ·have h2:u=U O (aj z4 0 2):=h; exact h2
   ·have h2:u=aK #[U O (aj z3 0 4),U O (aj z4 0 2)]:=h; exact h2
 ·intro a x bb v df sz kp gA gC hbb lJ Tk hbel ⟨vs,hv⟩;have hv9:v=aK #[U O (aj z3 0 4),U O (aj z4 0 2)]:=Tk;subst hv9;have g8:a.tmps[8]?=aA (ah (aA ⟨bb,0,V⟩)):=gA;have qU:∀ j,(j<8\/53<=j)->a.tmps[j]?=(u0::u1::u2::u3::u4::u5::ah (aA ⟨bq,0,V⟩)::u7::u8::u9::u10::u11::u12::u13::u14::u15::u16::u17::u18::u19::u20::u21::u22::u23::u24::u25::u26::u27::u28::u29::u30::u31::u32::u33::u34::u35::u36::u37::u38::u39::u40::u41::u42::u43::u44::u45::u46::u47::u48::u49::u50::u51::u52::u53::u54::u55::u56::u57::u58::u59::u60::u61::u62::u63::u64::u65::u66::u67::u68::u69::u70::u71::u72::u73::u74::u75::u76::u77::u78::u79::u80::u81::u82::u83::u84::u85::u86::u87::u88::u89::u90::u91::u92::u93::u94::u95::u96::u97::u98::u99::u100::u101::u102::u103::u104::u105::u106::u107::u108::u109::u110::u111::u112::u113::u114::u115::u116::u117::u118::u119::u120::u121::u122::u123::[])[j]?:=fun j hj=>(kp j (fun i hi h=>by have:=(by decide:∀ i,i<9->8<=[46,47,48,49,50,51,52,8,8].getD i 0/\[46,47,48,49,50,51,52,8,8].getD i 0<53) i hi; omega)).trans ay;obtain⟨mid,hmid,rfl⟩:=Rg.gq 8 45 df sz (by simp) qU
  match mid,hmid with
  | v8::v9::v10::v11::v12::v13::v14::v15::v16::v17::v18::v19::v20::v21::v22::v23::v24::v25::v26::v27::v28::v29::v30::v31::v32::v33::v34::v35::v36::v37::v38::v39::v40::v41::v42::v43::v44::v45::v46::v47::v48::v49::v50::v51::v52::[],_ =>
   obtain rfl:v8=ah (aA ⟨bb,0,V⟩):=J g8;obtain rfl:v9=u9:=J (kp 9 (fun i hi h=>(by decide:∀ i,i<9->[46,47,48,49,50,51,52,8,8].getD i 0≠9) i hi h));obtain rfl:v10=u10:=J (kp 10 (fun i hi h=>(by decide:∀ i,i<9->[46,47,48,49,50,51,52,8,8].getD i 0≠10) i hi h));obtain rfl:v11=u11:=J (kp 11 (fun i hi h=>(by decide:∀ i,i<9->[46,47,48,49,50,51,52,8,8].getD i 0≠11) i hi h));obtain rfl:v12=u12:=J (kp 12 (fun i hi h=>(by decide:∀ i,i<9->[46,47,48,49,50,51,52,8,8].getD i 0≠12) i hi h));obtain rfl:v13=u13:=J (kp 13 (fun i hi h=>(by decide:∀ i,i<9->[46,47,48,49,50,51,52,8,8].getD i 0≠13) i hi h));obtain rfl:v14=u14:=J (kp 14 (fun i hi h=>(by decide:∀ i,i<9->[46,47,48,49,50,51,52,8,8].getD i 0≠14) i hi h));obtain rfl:v15=u15:=J (kp 15 (fun i hi h=>(by decide:∀ i,i<9->[46,47,48,49,50,51,52,8,8].getD i 0≠15) i hi h));obtain rfl:v16=u16:=J (kp 16 (fun i hi h=>(by decide:∀ i,i<9->[46,47,48,49,50,51,52,8,8].getD i 0≠16) i hi h));obtain rfl:v17=u17:=J (kp 17 (fun i hi h=>(by decide:∀ i,i<9->[46,47,48,49,50,51,52,8,8].getD i 0≠17) i hi h));obtain rfl:v18=u18:=J (kp 18 (fun i hi h=>(by decide:∀ i,i<9->[46,47,48,49,50,51,52,8,8].getD i 0≠18) i hi h));obtain rfl:v19=u19:=J (kp 19 (fun i hi h=>(by decide:∀ i,i<9->[46,47,48,49,50,51,52,8,8].getD i 0≠19) i hi h));obtain rfl:v20=u20:=J (kp 20 (fun i hi h=>(by decide:∀ i,i<9->[46,47,48,49,50,51,52,8,8].getD i 0≠20) i hi h));obtain rfl:v21=u21:=J (kp 21 (fun i hi h=>(by decide:∀ i,i<9->[46,47,48,49,50,51,52,8,8].getD i 0≠21) i hi h));obtain rfl:v22=u22:=J (kp 22 (fun i hi h=>(by decide:∀ i,i<9->[46,47,48,49,50,51,52,8,8].getD i 0≠22) i hi h));obtain rfl:v23=u23:=J (kp 23 (fun i hi h=>(by decide:∀ i,i<9->[46,47,48,49,50,51,52,8,8].getD i 0≠23) i hi h));obtain rfl:v24=u24:=J (kp 24 (fun i hi h=>(by decide:∀ i,i<9->[46,47,48,49,50,51,52,8,8].getD i 0≠24) i hi h));obtain rfl:v25=u25:=J (kp 25 (fun i hi h=>(by decide:∀ i,i<9->[46,47,48,49,50,51,52,8,8].getD i 0≠25) i hi h));obtain rfl:v26=u26:=J (kp 26 (fun i hi h=>(by decide:∀ i,i<9->[46,47,48,49,50,51,52,8,8].getD i 0≠26) i hi h));obtain rfl:v27=u27:=J (kp 27 (fun i hi h=>(by decide:∀ i,i<9->[46,47,48,49,50,51,52,8,8].getD i 0≠27) i hi h));obtain rfl:v28=u28:=J (kp 28 (fun i hi h=>(by decide:∀ i,i<9->[46,47,48,49,50,51,52,8,8].getD i 0≠28) i hi h));obtain rfl:v29=u29:=J (kp 29 (fun i hi h=>(by decide:∀ i,i<9->[46,47,48,49,50,51,52,8,8].getD i 0≠29) i hi h));obtain rfl:v30=u30:=J (kp 30 (fun i hi h=>(by decide:∀ i,i<9->[46,47,48,49,50,51,52,8,8].getD i 0≠30) i hi h));obtain rfl:v31=u31:=J (kp 31 (fun i hi h=>(by decide:∀ i,i<9->[46,47,48,49,50,51,52,8,8].getD i 0≠31) i hi h));obtain rfl:v32=u32:=J (kp 32 (fun i hi h=>(by decide:∀ i,i<9->[46,47,48,49,50,51,52,8,8].getD i 0≠32) i hi h));obtain rfl:v33=u33:=J (kp 33 (fun i hi h=>(by decide:∀ i,i<9->[46,47,48,49,50,51,52,8,8].getD i 0≠33) i hi h));obtain rfl:v34=u34:=J (kp 34 (fun i hi h=>(by decide:∀ i,i<9->[46,47,48,49,50,51,52,8,8].getD i 0≠34) i hi h));obtain rfl:v35=u35:=J (kp 35 (fun i hi h=>(by decide:∀ i,i<9->[46,47,48,49,50,51,52,8,8].getD i 0≠35) i hi h));obtain rfl:v36=u36:=J (kp 36 (fun i hi h=>(by decide:∀ i,i<9->[46,47,48,49,50,51,52,8,8].getD i 0≠36) i hi h));obtain rfl:v37=u37:=J (kp 37 (fun i hi h=>(by decide:∀ i,i<9->[46,47,48,49,50,51,52,8,8].getD i 0≠37) i hi h));obtain rfl:v38=u38:=J (kp 38 (fun i hi h=>(by decide:∀ i,i<9->[46,47,48,49,50,51,52,8,8].getD i 0≠38) i hi h));obtain rfl:v39=u39:=J (kp 39 (fun i hi h=>(by decide:∀ i,i<9->[46,47,48,49,50,51,52,8,8].getD i 0≠39) i hi h));obtain rfl:v40=u40:=J (kp 40 (fun i hi h=>(by decide:∀ i,i<9->[46,47,48,49,50,51,52,8,8].getD i 0≠40) i hi h));obtain rfl:v41=u41:=J (kp 41 (fun i hi h=>(by decide:∀ i,i<9->[46,47,48,49,50,51,52,8,8].getD i 0≠41) i hi h));obtain rfl:v42=u42:=J (kp 42 (fun i hi h=>(by decide:∀ i,i<9->[46,47,48,49,50,51,52,8,8].getD i 0≠42) i hi h));obtain rfl:v43=u43:=J (kp 43 (fun i hi h=>(by decide:∀ i,i<9->[46,47,48,49,50,51,52,8,8].getD i 0≠43) i hi h));obtain rfl:v44=u44:=J (kp 44 (fun i hi h=>(by decide:∀ i,i<9->[46,47,48,49,50,51,52,8,8].getD i 0≠44) i hi h));obtain rfl:v45=u45:=J (kp 45 (fun i hi h=>(by decide:∀ i,i<9->[46,47,48,49,50,51,52,8,8].getD i 0≠45) i hi h));exact HQ.out x bb _ _ _ _ _ _ _ hbb lJ hbel
def ad4 (B:Nat) (bq _ _:Nat) (z0 _ _ _ _ t1 t2 i1 i2:Int) (h1:Option bE) (h2 h3:Nat) (g1:Option bE) (g2 g3:Nat) (has vals:List Int) (i:Nat) (v:aJ) (x:aG):Prop :=
 match i with
 | 0=>v=ah (aA ⟨bq,0,V⟩)
 | 1=>v=U O z0
 | 2=>v=U O (aj z0 1 7)
 | 3=>v=aK #[U O t1,U O t2]
 | 4=>v=aK #[U O i1,U O i2]
 | 5=>v=ah (aA ⟨bq,5,V⟩)
 | 6=>v=aK #[L h1 h2 h3,L g1 g2 g3]
 | 7=>∃ s:Sl,v=dR s/\jP x B (dR s) ((o7 has vals 7).map r5)
 | 8=>∃ s:Sl,v=aK #[U O (aj z0 1 7),U O t1,U O t2,U O i1,U O i2,dR s,L V 0 0]/\jP x B (dR s) ((o7 has vals 7).map r5)
 | 9=>True
 | 10=>True
 | _=>True
noncomputable def YM:Code:=((Tryz.f7.body.bind (eG 14)).getD .skip)
theorem agA (Q:Exit->Act->aG->Prop) (W:aG) (bq b7 b8:Nat) (z0 z1 z2 z3 z4 t1 t2 i1 i2:Int) (h1:Option bE) (h2 h3:Nat) (g1:Option bE) (g2 g3:Nat) (has vals:List Int) (u0 u1 u2 u3 u4 u5 u9 u10 u11 u12 u13 u14 u15 u16 u17 u18 u19 u20 u21 u22 u23 u24 u25 u26 u27 u28 u29 u30 u31 u32 u33 u34 u35 u36 u37 u38 u39 u40 u41 u42 u43 u44 u45 u46 u47 u48 u49 u50 u51 u52 u53 u54 u55 u56 u57 u58 u59 u60 u61 u62 u63 u64 u65 u66 u67 u68 u69 u70 u71 u72 u73 u74 u75 u76 u77 u78 u79 u80 u81 u82 u83 u84 u85 u86 u87 u88 u89 u90 u91 u92 u93 u94 u95 u96 u97 u98 u99 u100 u101 u102 u103 u104 u105 u106 u107 u108 u109 u110 u111 u112 u113 u114 u115 u116 u117 u118 u119 u120 u121 u122 u123:aJ)
  (q:dJ W bq #[U O z0,U O z1,U O z2,U O z3,U O z4,L h1 h2 h3,L g1 g2 g3] 83) (d0:-9223372036854775808<=z0/\z0<=9223372036854775807) (x7:dJ W b7 #[U O t1,U O t2] 38) (x8:dJ W b8 #[U O i1,U O i2] 38) (ih:In.jo W (L h1 h2 h3) has) (iv:In.jo W (L g1 g2 g3) vals) (lh:has.length<=aY) (lv:vals.length<=aY)
  (hQ:∀ (x:aG) (bb:Nat) (v57 v58 v59 v60 v61 v62 v63 v64 v65:aJ) (m1:Option bE) (m2 m3:Nat),W.heap.size<=bb->dJ x bb #[U O (aj z0 1 7),U O t1,U O t2,U O i1,U O i2,L m1 m2 m3,L V 0 0] 43->jP x W.heap.size (L m1 m2 m3) ((o7 has vals 7).map r5)->Below W.heap.size W x->Q .normal ⟨(u0::u1::u2::u3::u4::u5::ah (aA ⟨bq,0,V⟩)::ah (aA ⟨b7,0,V⟩)::ah (aA ⟨b8,0,V⟩)::u9::ah (aA ⟨bb,0,V⟩)::u11::u12::u13::u14::u15::u16::u17::u18::u19::u20::u21::u22::u23::u24::u25::u26::u27::u28::u29::u30::u31::u32::u33::u34::u35::u36::u37::u38::u39::u40::u41::u42::u43::u44::u45::u46::u47::u48::u49::u50::u51::u52::u53::u54::u55::u56::v57::v58::v59::v60::v61::v62::v63::v64::v65::u66::u67::u68::u69::u70::u71::u72::u73::u74::u75::u76::u77::u78::u79::u80::u81::u82::u83::u84::u85::u86::u87::u88::u89::u90::u91::u92::u93::u94::u95::u96::u97::u98::u99::u100::u101::u102::u103::u104::u105::u106::u107::u108::u109::u110::u111::u112::u113::u114::u115::u116::u117::u118::u119::u120::u121::u122::u123::[]).toArray,[]⟩ x) :
  Code.wp ak YM Q ⟨(u0::u1::u2::u3::u4::u5::ah (aA ⟨bq,0,V⟩)::ah (aA ⟨b7,0,V⟩)::ah (aA ⟨b8,0,V⟩)::u9::u10::u11::u12::u13::u14::u15::u16::u17::u18::u19::u20::u21::u22::u23::u24::u25::u26::u27::u28::u29::u30::u31::u32::u33::u34::u35::u36::u37::u38::u39::u40::u41::u42::u43::u44::u45::u46::u47::u48::u49::u50::u51::u52::u53::u54::u55::u56::u57::u58::u59::u60::u61::u62::u63::u64::u65::u66::u67::u68::u69::u70::u71::u72::u73::u74::u75::u76::u77::u78::u79::u80::u81::u82::u83::u84::u85::u86::u87::u88::u89::u90::u91::u92::u93::u94::u95::u96::u97::u98::u99::u100::u101::u102::u103::u104::u105::u106::u107::u108::u109::u110::u111::u112::u113::u114::u115::u116::u117::u118::u119::u120::u121::u122::u123::[]).toArray,[]⟩ W:=by
 have HQ:=Z hQ;have HQ6:=Z q;have D0:=Z d0;have H7:=Z x7;have H8:=Z x8;have IH:=Z ih;have IV:=Z iv;have LH:=Z lh;have LV:=Z lv;clear hQ q d0 x7 x8 ih iv lh lv;unfold YM
 conv=>arg 2; whnf
 have nb6:∀ i,i<11->[57,58,59,60,61,62,63,64,65,10,10].getD i 0≠6:=by decide
 have nb7:∀ i,i<11->[57,58,59,60,61,62,63,64,65,10,10].getD i 0≠7:=by decide
 have nb8:∀ i,i<11->[57,58,59,60,61,62,63,64,65,10,10].getD i 0≠8:=by decide
 refine Rg.wJ 11 9 10 8 (fun i=>[57,58,59,60,61,62,63,64,65,10,10].getD i 0) (fun i=>if i=7 then 8 else 11) (ad4 W.heap.size bq b7 b8 z0 z1 z2 z3 z4 t1 t2 i1 i2 h1 h2 h3 g1 g2 g3 has vals) 43 #[U O 0,U O 0,U O 0,U O 0,U O 0,L V 0 0,L V 0 0] (fun v=>match v with | aK c=>c | _=>#[]) (by kernel_rfl) (by kernel_rfl) rfl (by decide) (by decide) (by decide) (by decide) (by decide) (by decide) (by decide) (fun i j hi hj h1 h2 h=>(by decide:∀ i,i<11->∀ j,j<11->i≠10->j≠10->[57,58,59,60,61,62,63,64,65,10,10].getD i 0=[57,58,59,60,61,62,63,64,65,10,10].getD j 0->i=j) i hi j hj h1 h2 h) (fun i hi=>(by decide:∀ i,i<11->[57,58,59,60,61,62,63,64,65,10,10].getD i 0<124) i hi) ?_ ?_ ?_ ?_ ?_ ?_
 ·intro i v x x' hi h hb;rcases (by omega:i=0\/i=1\/i=2\/i=3\/i=4\/i=5\/i=6\/i=7\/i=8\/i=9\/i=10) with rfl|rfl|rfl|rfl|rfl|rfl|rfl|rfl|rfl|rfl|rfl
  ·exact h
  ·exact h
  ·exact h
  ·exact h
  ·exact h
  ·exact h
  ·exact h
  ·obtain⟨s,h1,h2⟩:=h; exact⟨s,h1,Bk.dB h2 hb⟩
  ·obtain⟨s,h1,h2⟩:=h; exact⟨s,h1,Bk.dB h2 hb⟩
  ·exact h
  ·exact h
 ·intro o ho;cases ho;exact⟨⟨⟨9,.data⟩,by simp,rfl,rfl⟩,⟨⟨8,.data⟩,by simp,rfl,rfl⟩⟩
 ·intro i o hi Yg Qa ho a x hb seen K hK;clear HQ;rcases (by omega:i=0\/i=1\/i=2\/i=3\/i=4\/i=5\/i=6\/i=7\/i=8) with rfl|rfl|rfl|rfl|rfl|rfl|rfl|rfl|rfl
  ·cases ho;have e6:a.eval (aB 6)=ah (aA ⟨bq,0,V⟩):=seen.kp 6 _ nb6 rfl;exact aP rfl rfl (bO a.eval _ 83 (aB 6) 0 rfl (by rw [e6]; simp [go_sem])) (hK _ x rfl (au _ _))
  ·cases ho;have e57:a.eval (aB 57)=ah (aA ⟨bq,0,V⟩):=seen.at_ ⟨0,.data⟩ (by simp) rfl (by decide) (by decide) (aM (by decide));have y0:=(HQ6.out.on hb).cell 0;simp only [ay,aD] at y0;exact aP rfl rfl (bF a.eval _ 3 (aB 57) rfl (by rw [e57]; simp [go_sem,y0])) (hK _ x rfl (au _ _))
  ·cases ho;have e58:a.eval (aB 58)=U O z0:=seen.at_ ⟨1,.data⟩ (by simp) rfl (by decide) (by decide) (aM (by decide));exact bL rfl rfl (bS a.eval _ (aB 58) (.const (U O 1)) (.const (U O 7)) 3 9 rfl e58 rfl rfl rfl _ (gu bH rfl rfl _ _)) (bN z0 1 7 x (by omega) (by omega) (by omega) D0.out.1 D0.out.2) fun e w1 h=>by
    obtain⟨rfl,rfl⟩:=h;exact⟨_,rfl,hK _ _ rfl (au _ _)⟩
  ·cases ho;have e7:a.eval (aB 7)=ah (aA ⟨b7,0,V⟩):=seen.kp 7 _ nb7 rfl;obtain⟨y0,y1⟩:=(H7.out.on hb).cs2;exact aP rfl rfl (bF a.eval _ 38 (aB 7) rfl (by rw [e7]; simp [go_sem,y0,y1])) (hK _ x rfl (au _ _))
  ·cases ho;have e8:a.eval (aB 8)=ah (aA ⟨b8,0,V⟩):=seen.kp 8 _ nb8 rfl;obtain⟨y0,y1⟩:=(H8.out.on hb).cs2;exact aP rfl rfl (bF a.eval _ 38 (aB 8) rfl (by rw [e8]; simp [go_sem,y0,y1])) (hK _ x rfl (au _ _))
  ·cases ho;have e6:a.eval (aB 6)=ah (aA ⟨bq,0,V⟩):=seen.kp 6 _ nb6 rfl;exact aP rfl rfl (bO a.eval _ 83 (aB 6) 5 rfl (by rw [e6]; simp [go_sem])) (hK _ x rfl (au _ _))
  ·cases ho;have e62:a.eval (aB 62)=ah (aA ⟨bq,5,V⟩):=seen.at_ ⟨5,.data⟩ (by simp) rfl (by decide) (by decide) (aM (by decide));have y5:=(HQ6.out.on hb).cell 5;have y6:=(HQ6.out.on hb).cell 6;simp only [ay,aD,aH] at y5 y6;exact aP rfl rfl (bF a.eval _ 72 (aB 62) rfl (by rw [e62]; simp [go_sem,y5,y6])) (hK _ x rfl (au _ _))
  ·cases ho;have e63:a.eval (aB 63)=aK #[L h1 h2 h3,L g1 g2 g3]:=seen.at_ ⟨6,.data⟩ (by simp) rfl (by decide) (by decide) (aM (by decide));exact bL rfl rfl (Rw.iK a.eval _ (aB 63) 72 23 rfl e63 rfl _ (gu Tryz.func23 rfl rfl _ _)) (QE (L h1 h2 h3) (L g1 g2 g3) has vals x (IH.out.on hb) (IV.out.on hb) LH.out LV.out) fun e w1 h=>by
    obtain⟨v,rfl,q1,q2⟩:=h;obtain⟨a1,a2,hvv⟩:=(Row.dx q1).len;have q3:=dG q1 hb.size;rw [hvv] at q3;exact⟨_,rfl,hK _ _ ⟨(a1,_,a2),hvv,q3⟩ q2⟩
  ·cases ho;have e59:a.eval (aB 59)=U O (aj z0 1 7):=seen.at_ ⟨2,.data⟩ (by simp) rfl (by decide) (by decide) (aM (by decide));have e60:a.eval (aB 60)=aK #[U O t1,U O t2]:=seen.at_ ⟨3,.data⟩ (by simp) rfl (by decide) (by decide) (aM (by decide));have e61:a.eval (aB 61)=aK #[U O i1,U O i2]:=seen.at_ ⟨4,.data⟩ (by simp) rfl (by decide) (by decide) (aM (by decide));have E64:=seen.at_ ⟨7,.data⟩ (by simp) rfl (by decide) (by decide) (Or.inl rfl);obtain⟨s,q0,q1⟩:=E64;have q0:a.eval (aB 64)=dR s:=q0;exact aP rfl rfl (bP a.eval _ 43 #[(0,aB 59),(1,aB 60),(2,aB 61),(3,aB 64)] rfl (ps:=#[(0,U O (aj z0 1 7)),(1,aK #[U O t1,U O t2]),(2,aK #[U O i1,U O i2]),(3,dR s)]) (by simp only [aU,aW,bf,e59,e60,e61,q0]) (by simp [go_sem])) (hK _ x ⟨s,rfl,q1⟩ (au _ _))
 ·intro o ho a x K hK;cases ho;exact aP rfl rfl (Rg.yE a.eval _ 43 rfl (by simp [go_sem])) hK
 ·intro o ho a x bb v D hc hD hb hA hC Tk hbb lJ K hK;clear HQ;cases ho;obtain⟨⟨m1,m2,m3⟩,hv1,hv2⟩:=Tk;subst hv1;obtain⟨x0,x1,x2,x3,x4,x5,x6⟩:=lJ.mU;obtain⟨f0,f1,f2,f3,f4,f5,f6⟩:=lJ.fs7;have hst:(Instr.storeAt 43 (ah (aA ⟨bb,0,V⟩)) (aK #[U O (aj z0 1 7),U O t1,U O t2,U O i1,U O i2,L m1 m2 m3,L V 0 0])).run ak x=.ok () (((((((x.setCell ⟨bb,0,V⟩ (U O (aj z0 1 7))).setCell ⟨bb,1,V⟩ (U O t1)).setCell ⟨bb,2,V⟩ (U O t2)).setCell ⟨bb,3,V⟩ (U O i1)).setCell ⟨bb,4,V⟩ (U O i2)).setCell ⟨bb,5,V⟩ (L m1 m2 m3)).setCell ⟨bb,6,V⟩ (L V 0 0)):=by simp [go_sem,x0,x1,x2,x3,x4,x5,x6,f0,f1,f2,f3,f4,f5,f6]
  have aby:=dN (k:=6) (dN (k:=5) (dN (k:=4) (dN (k:=3) (dN (k:=2) (dN (k:=1) (dN (k:=0) lJ (U O (aj z0 1 7))) (U O t1)) (U O t2)) (U O i1)) (U O i2)) (L m1 m2 m3)) (L V 0 0);have Xk:But bb x (((((((x.setCell ⟨bb,0,V⟩ (U O (aj z0 1 7))).setCell ⟨bb,1,V⟩ (U O t1)).setCell ⟨bb,2,V⟩ (U O t2)).setCell ⟨bb,3,V⟩ (U O i1)).setCell ⟨bb,4,V⟩ (U O i2)).setCell ⟨bb,5,V⟩ (L m1 m2 m3)).setCell ⟨bb,6,V⟩ (L V 0 0)):=(((((((dQ _ bb _ _).trans (dQ _ bb _ _)).trans (dQ _ bb _ _)).trans (dQ _ bb _ _)).trans (dQ _ bb _ _)).trans (dQ _ bb _ _)).trans (dQ _ bb _ _));refine bQ 43 (aB 10) (aB 65) rfl rfl rfl rfl hA hC hst (hK _ (((((((hb.setCell (p:=⟨bb,0,V⟩) hbb _).setCell (p:=⟨bb,1,V⟩) hbb _).setCell (p:=⟨bb,2,V⟩) hbb _).setCell (p:=⟨bb,3,V⟩) hbb _).setCell (p:=⟨bb,4,V⟩) hbb _).setCell (p:=⟨bb,5,V⟩) hbb _).setCell (p:=⟨bb,6,V⟩) hbb _) (by simpa using aby) ?_);exact fun j u hj hjA hjS hdj hnl hls h=>by
   rcases (by omega:j=0\/j=1\/j=2\/j=3\/j=4\/j=5\/j=6\/j=7\/j=8) with rfl|rfl|rfl|rfl|rfl|rfl|rfl|rfl|rfl
   ·have h2:u=ah (aA ⟨bq,0,V⟩):=h; exact h2
   ·have h2:u=U O z0:=h; exact h2
   ·have h2:u=U O (aj z0 1 7):=h; exact h2
   ·have h2:u=aK #[U O t1,U O t2]:=h; exact h2
   ·have h2:u=aK #[U O i1,U O i2]:=h; exact h2
   ·have h2:u=ah (aA ⟨bq,5,V⟩):=h; exact h2
   ·have h2:u=aK #[L h1 h2 h3,L g1 g2 g3]:=h; exact h2
   ·exact absurd (hD ⟨8,.data⟩ (by simp) rfl) hnl
   ·obtain⟨s,h1,h2⟩:=h; exact⟨s,h1,Xk.own h2 lJ (by decide)⟩
 ·intro a x bb v df sz kp gA gC hbb lJ Tk hbel ⟨vs,hv⟩;obtain⟨⟨m1,m2,m3⟩,hv1,hv2⟩:=Tk;subst hv1;have g10:a.tmps[10]?=aA (ah (aA ⟨bb,0,V⟩)):=gA;have qU:∀ j,(j<10\/66<=j)->a.tmps[j]?=(u0::u1::u2::u3::u4::u5::ah (aA ⟨bq,0,V⟩)::ah (aA ⟨b7,0,V⟩)::ah (aA ⟨b8,0,V⟩)::u9::u10::u11::u12::u13::u14::u15::u16::u17::u18::u19::u20::u21::u22::u23::u24::u25::u26::u27::u28::u29::u30::u31::u32::u33::u34::u35::u36::u37::u38::u39::u40::u41::u42::u43::u44::u45::u46::u47::u48::u49::u50::u51::u52::u53::u54::u55::u56::u57::u58::u59::u60::u61::u62::u63::u64::u65::u66::u67::u68::u69::u70::u71::u72::u73::u74::u75::u76::u77::u78::u79::u80::u81::u82::u83::u84::u85::u86::u87::u88::u89::u90::u91::u92::u93::u94::u95::u96::u97::u98::u99::u100::u101::u102::u103::u104::u105::u106::u107::u108::u109::u110::u111::u112::u113::u114::u115::u116::u117::u118::u119::u120::u121::u122::u123::[])[j]?:=fun j hj=>(kp j (fun i hi h=>by have:=(by decide:∀ i,i<11->10<=[57,58,59,60,61,62,63,64,65,10,10].getD i 0/\[57,58,59,60,61,62,63,64,65,10,10].getD i 0<66) i hi; omega)).trans ay;obtain⟨mid,hmid,rfl⟩:=Rg.gq 10 56 df sz (by simp) qU
  match mid,hmid with
  | v10::v11::v12::v13::v14::v15::v16::v17::v18::v19::v20::v21::v22::v23::v24::v25::v26::v27::v28::v29::v30::v31::v32::v33::v34::v35::v36::v37::v38::v39::v40::v41::v42::v43::v44::v45::v46::v47::v48::v49::v50::v51::v52::v53::v54::v55::v56::v57::v58::v59::v60::v61::v62::v63::v64::v65::[],_ =>
   obtain rfl:v10=ah (aA ⟨bb,0,V⟩):=J g10;obtain rfl:v11=u11:=J (kp 11 (fun i hi h=>(by decide:∀ i,i<11->[57,58,59,60,61,62,63,64,65,10,10].getD i 0≠11) i hi h));obtain rfl:v12=u12:=J (kp 12 (fun i hi h=>(by decide:∀ i,i<11->[57,58,59,60,61,62,63,64,65,10,10].getD i 0≠12) i hi h));obtain rfl:v13=u13:=J (kp 13 (fun i hi h=>(by decide:∀ i,i<11->[57,58,59,60,61,62,63,64,65,10,10].getD i 0≠13) i hi h));obtain rfl:v14=u14:=J (kp 14 (fun i hi h=>(by decide:∀ i,i<11->[57,58,59,60,61,62,63,64,65,10,10].getD i 0≠14) i hi h));obtain rfl:v15=u15:=J (kp 15 (fun i hi h=>(by decide:∀ i,i<11->[57,58,59,60,61,62,63,64,65,10,10].getD i 0≠15) i hi h));obtain rfl:v16=u16:=J (kp 16 (fun i hi h=>(by decide:∀ i,i<11->[57,58,59,60,61,62,63,64,65,10,10].getD i 0≠16) i hi h));obtain rfl:v17=u17:=J (kp 17 (fun i hi h=>(by decide:∀ i,i<11->[57,58,59,60,61,62,63,64,65,10,10].getD i 0≠17) i hi h));obtain rfl:v18=u18:=J (kp 18 (fun i hi h=>(by decide:∀ i,i<11->[57,58,59,60,61,62,63,64,65,10,10].getD i 0≠18) i hi h));obtain rfl:v19=u19:=J (kp 19 (fun i hi h=>(by decide:∀ i,i<11->[57,58,59,60,61,62,63,64,65,10,10].getD i 0≠19) i hi h));obtain rfl:v20=u20:=J (kp 20 (fun i hi h=>(by decide:∀ i,i<11->[57,58,59,60,61,62,63,64,65,10,10].getD i 0≠20) i hi h));obtain rfl:v21=u21:=J (kp 21 (fun i hi h=>(by decide:∀ i,i<11->[57,58,59,60,61,62,63,64,65,10,10].getD i 0≠21) i hi h));obtain rfl:v22=u22:=J (kp 22 (fun i hi h=>(by decide:∀ i,i<11->[57,58,59,60,61,62,63,64,65,10,10].getD i 0≠22) i hi h));obtain rfl:v23=u23:=J (kp 23 (fun i hi h=>(by decide:∀ i,i<11->[57,58,59,60,61,62,63,64,65,10,10].getD i 0≠23) i hi h));obtain rfl:v24=u24:=J (kp 24 (fun i hi h=>(by decide:∀ i,i<11->[57,58,59,60,61,62,63,64,65,10,10].getD i 0≠24) i hi h));obtain rfl:v25=u25:=J (kp 25 (fun i hi h=>(by decide:∀ i,i<11->[57,58,59,60,61,62,63,64,65,10,10].getD i 0≠25) i hi h));obtain rfl:v26=u26:=J (kp 26 (fun i hi h=>(by decide:∀ i,i<11->[57,58,59,60,61,62,63,64,65,10,10].getD i 0≠26) i hi h));obtain rfl:v27=u27:=J (kp 27 (fun i hi h=>(by decide:∀ i,i<11->[57,58,59,60,61,62,63,64,65,10,10].getD i 0≠27) i hi h));obtain rfl:v28=u28:=J (kp 28 (fun i hi h=>(by decide:∀ i,i<11->[57,58,59,60,61,62,63,64,65,10,10].getD i 0≠28) i hi h));obtain rfl:v29=u29:=J (kp 29 (fun i hi h=>(by decide:∀ i,i<11->[57,58,59,60,61,62,63,64,65,10,10].getD i 0≠29) i hi h));obtain rfl:v30=u30:=J (kp 30 (fun i hi h=>(by decide:∀ i,i<11->[57,58,59,60,61,62,63,64,65,10,10].getD i 0≠30) i hi h));obtain rfl:v31=u31:=J (kp 31 (fun i hi h=>(by decide:∀ i,i<11->[57,58,59,60,61,62,63,64,65,10,10].getD i 0≠31) i hi h));obtain rfl:v32=u32:=J (kp 32 (fun i hi h=>(by decide:∀ i,i<11->[57,58,59,60,61,62,63,64,65,10,10].getD i 0≠32) i hi h));obtain rfl:v33=u33:=J (kp 33 (fun i hi h=>(by decide:∀ i,i<11->[57,58,59,60,61,62,63,64,65,10,10].getD i 0≠33) i hi h));obtain rfl:v34=u34:=J (kp 34 (fun i hi h=>(by decide:∀ i,i<11->[57,58,59,60,61,62,63,64,65,10,10].getD i 0≠34) i hi h));obtain rfl:v35=u35:=J (kp 35 (fun i hi h=>(by decide:∀ i,i<11->[57,58,59,60,61,62,63,64,65,10,10].getD i 0≠35) i hi h));obtain rfl:v36=u36:=J (kp 36 (fun i hi h=>(by decide:∀ i,i<11->[57,58,59,60,61,62,63,64,65,10,10].getD i 0≠36) i hi h));obtain rfl:v37=u37:=J (kp 37 (fun i hi h=>(by decide:∀ i,i<11->[57,58,59,60,61,62,63,64,65,10,10].getD i 0≠37) i hi h));obtain rfl:v38=u38:=J (kp 38 (fun i hi h=>(by decide:∀ i,i<11->[57,58,59,60,61,62,63,64,65,10,10].getD i 0≠38) i hi h));obtain rfl:v39=u39:=J (kp 39 (fun i hi h=>(by decide:∀ i,i<11->[57,58,59,60,61,62,63,64,65,10,10].getD i 0≠39) i hi h));obtain rfl:v40=u40:=J (kp 40 (fun i hi h=>(by decide:∀ i,i<11->[57,58,59,60,61,62,63,64,65,10,10].getD i 0≠40) i hi h));obtain rfl:v41=u41:=J (kp 41 (fun i hi h=>(by decide:∀ i,i<11->[57,58,59,60,61,62,63,64,65,10,10].getD i 0≠41) i hi h));obtain rfl:v42=u42:=J (kp 42 (fun i hi h=>(by decide:∀ i,i<11->[57,58,59,60,61,62,63,64,65,10,10].getD i 0≠42) i hi h));obtain rfl:v43=u43:=J (kp 43 (fun i hi h=>(by decide:∀ i,i<11->[57,58,59,60,61,62,63,64,65,10,10].getD i 0≠43) i hi h));obtain rfl:v44=u44:=J (kp 44 (fun i hi h=>(by decide:∀ i,i<11->[57,58,59,60,61,62,63,64,65,10,10].getD i 0≠44) i hi h));obtain rfl:v45=u45:=J (kp 45 (fun i hi h=>(by decide:∀ i,i<11->[57,58,59,60,61,62,63,64,65,10,10].getD i 0≠45) i hi h));obtain rfl:v46=u46:=J (kp 46 (fun i hi h=>(by decide:∀ i,i<11->[57,58,59,60,61,62,63,64,65,10,10].getD i 0≠46) i hi h));obtain rfl:v47=u47:=J (kp 47 (fun i hi h=>(by decide:∀ i,i<11->[57,58,59,60,61,62,63,64,65,10,10].getD i 0≠47) i hi h));obtain rfl:v48=u48:=J (kp 48 (fun i hi h=>(by decide:∀ i,i<11->[57,58,59,60,61,62,63,64,65,10,10].getD i 0≠48) i hi h));obtain rfl:v49=u49:=J (kp 49 (fun i hi h=>(by decide:∀ i,i<11->[57,58,59,60,61,62,63,64,65,10,10].getD i 0≠49) i hi h));obtain rfl:v50=u50:=J (kp 50 (fun i hi h=>(by decide:∀ i,i<11->[57,58,59,60,61,62,63,64,65,10,10].getD i 0≠50) i hi h));obtain rfl:v51=u51:=J (kp 51 (fun i hi h=>(by decide:∀ i,i<11->[57,58,59,60,61,62,63,64,65,10,10].getD i 0≠51) i hi h));obtain rfl:v52=u52:=J (kp 52 (fun i hi h=>(by decide:∀ i,i<11->[57,58,59,60,61,62,63,64,65,10,10].getD i 0≠52) i hi h));obtain rfl:v53=u53:=J (kp 53 (fun i hi h=>(by decide:∀ i,i<11->[57,58,59,60,61,62,63,64,65,10,10].getD i 0≠53) i hi h));obtain rfl:v54=u54:=J (kp 54 (fun i hi h=>(by decide:∀ i,i<11->[57,58,59,60,61,62,63,64,65,10,10].getD i 0≠54) i hi h));obtain rfl:v55=u55:=J (kp 55 (fun i hi h=>(by decide:∀ i,i<11->[57,58,59,60,61,62,63,64,65,10,10].getD i 0≠55) i hi h));obtain rfl:v56=u56:=J (kp 56 (fun i hi h=>(by decide:∀ i,i<11->[57,58,59,60,61,62,63,64,65,10,10].getD i 0≠56) i hi h));exact HQ.out x bb _ _ _ _ _ _ _ _ _ m1 m2 m3 hbb lJ hv2 hbel
end Av
namespace Av
open Go.RowKit Go.ChangeShapes Go.WideShapes Bk
theorem Xl:Tryz.prog.cellsOf 83=7:=by kernel_rfl
theorem Xm (a:bE) (m len cap:Nat) (h:m<len) (w:aG):(Instr.indexAt 22 (L (aA a) len cap) (U O m)).run ak w=.ok (ah (aA (a.add (m * 7)))) w:=by
 have h1:(m:Int)<len:=by omega
 simp [go_sem,bg,h1]
structure J6 (W:aG) (v:aJ) (n:Nat):Prop where
 shape:∃ ao cap,v=L ao n cap
 at_:∀ i:Nat,i<n->∃ (p:bE) (z0 z1 z2 z3 z4:Int) (h1:Option bE) (h2 h3:Nat) (g1:Option bE) (g2 g3:Nat) (has vals:List Int),p.block<W.heap.size/\(∀ w,(Instr.indexAt 22 v (U O i)).run ak w=.ok (ah (aA p)) w)/\(∀ j u,([U O z0,U O z1,U O z2,U O z3,U O z4,L h1 h2 h3,L g1 g2 g3]:List aJ)[j]?=aA u->W.cell? (p.add j)=aA u)/\((-9223372036854775808<=z0/\z0<=9223372036854775807)/\(-9223372036854775808<=z1/\z1<=9223372036854775807)/\(-9223372036854775808<=z2/\z2<=9223372036854775807)/\(-9223372036854775808<=z3/\z3<=9223372036854775807)/\(-9223372036854775808<=z4/\z4<=9223372036854775807))/\In.jo W (L h1 h2 h3) has/\In.jo W (L g1 g2 g3) vals/\has.length<=aY/\vals.length<=aY
theorem J6.on {W W':aG} {v:aJ} {n:Nat} (h:J6 W v n) (hb:Below W.heap.size W W'):J6 W' v n :=
 ⟨h.shape,fun i hi=>by
  obtain⟨p,z0,z1,z2,z3,z4,x1,x2,x3,y1,y2,y3,has,vals,h1,h2,h3,h4,h5,h6,h7⟩:=h.at_ i hi;exact⟨p,z0,z1,z2,z3,z4,x1,x2,x3,y1,y2,y3,has,vals,Nat.lt_of_lt_of_le h1 hb.size,h2,fun j u hu=>by rw [hb.cell (by rw [sH]; exact h1)]; exact h3 j u hu,h4,h5.on hb,h6.on hb,h7⟩⟩
end Av
namespace Pr
open Go.RowKit Pu Rw
end Pr
namespace Pr
open Go.RowKit Go.Sort Pu Rw Va
end Pr
namespace Rl
open Go.RowKit Go.Sort Pu Rw Pr Va
end Rl
namespace Av
open Go.RowKit Go.ChangeShapes Go.WideShapes Bk
theorem abz {H:Type} {enc:TypeId×aJ->H} {W:aG} {sp:Nat->Bool} {held:Bool} {fuel:Nat} {g1:aJ} {x:DataW H×List MemPlace}
  (hf:aF enc ak W 0 sp held fuel 22 [g1]=aA x):∃ n:Nat,n<=aY/\J6 W g1 n:=by
 rcases Deep.open_slice bg hf with⟨h1,_⟩|⟨a,len,cap,m,n,D,Pl,h1,_,h3,h4,h5,_,hx⟩
 ·have e:g1=L V 0 0:=by simpa using h1
  exact⟨0,Nat.zero_le _,⟨V,0,e⟩,fun i hi=>by omega⟩
 ·have e:g1=L (aA a) len cap:=by simpa using h1
  rw [e];have hle:len<=m:=by rw [h5]; split <;> omega
  refine⟨len,by omega,⟨aA a,cap,rfl⟩,fun i hi=>?_⟩;obtain⟨cs',k1,k2⟩:=hx i (by omega);obtain⟨xs,n',_,_,hcl,hxl,hy⟩:=aQ Tryz.underlying83 k2;rw [Xl] at hcl k1
  match cs',hcl with
  | [c0,c1,c2,c3,c4,c5,d1],_ =>
   have f0:aF enc ak W 0 sp held n' 3 (([c0,c1,c2,c3,c4,c5,d1].drop 0).take (Tryz.prog.cellsOf 3))=xs[0]?:=hy 0 _ rfl;have f1:aF enc ak W 0 sp held n' 3 (([c0,c1,c2,c3,c4,c5,d1].drop 1).take (Tryz.prog.cellsOf 3))=xs[1]?:=hy 1 _ rfl;have f2:aF enc ak W 0 sp held n' 3 (([c0,c1,c2,c3,c4,c5,d1].drop 2).take (Tryz.prog.cellsOf 3))=xs[2]?:=hy 2 _ rfl;have f3:aF enc ak W 0 sp held n' 3 (([c0,c1,c2,c3,c4,c5,d1].drop 3).take (Tryz.prog.cellsOf 3))=xs[3]?:=hy 3 _ rfl;have f4:aF enc ak W 0 sp held n' 3 (([c0,c1,c2,c3,c4,c5,d1].drop 4).take (Tryz.prog.cellsOf 3))=xs[4]?:=hy 4 _ rfl;have fp:aF enc ak W 0 sp held n' 72 (([c0,c1,c2,c3,c4,c5,d1].drop 5).take (Tryz.prog.cellsOf 72))=xs[5]?:=hy 5 _ rfl;have ad5:xs.length=5+1:=hxl;simp only [In.Jm,Pr.aaY,aR,aN,aO,aS] at f0 f1 f2 f3 f4 fp;rw [aC (by omega)] at f0 f1 f2 f3 f4 fp;obtain⟨m0,e0,_,w0⟩:=aL aI f0;obtain⟨m1,e1,_,w1⟩:=aL aI f1;obtain⟨m2,e2,_,w2⟩:=aL aI f2;obtain⟨m3,e3,_,w3⟩:=aL aI f3;obtain⟨m4,e4,_,w4⟩:=aL aI f4;simp only [List.cons.injEq,and_true] at e0 e1 e2 e3 e4;subst e0 e1 e2 e3 e4;obtain⟨ys,n2,_,_,_,hyl,hp⟩:=aQ Tryz.underlying72 fp;have ajT:ys.length=2:=hyl;have q0:aF enc ak W 0 sp held n2 25 (([c5,d1].drop 0).take (Tryz.prog.cellsOf 25))=ys[0]?:=hp 0 _ rfl;have q1:aF enc ak W 0 sp held n2 25 (([c5,d1].drop 1).take (Tryz.prog.cellsOf 25))=ys[1]?:=hp 1 _ rfl;simp only [Pr.El,aR,aN,aO,aS] at q0 q1;rw [aC (by omega)] at q0 q1;obtain⟨has,l1,i1⟩:=In.xW q0;obtain⟨vals,l2,i2⟩:=In.xW q1;obtain⟨x1,y1,rfl⟩:=i1.shape;obtain⟨x2,y2,rfl⟩:=i2.shape;obtain⟨_,_,k3⟩:=World.cells?_some k1;have k0:=k3 0 (by decide);rw [Rw.add_zero] at k0;refine⟨a.add (i * 7),m0,m1,m2,m3,m4,x1,_,y1,x2,_,y2,has,vals,World.block_lt_of_cell? W _ k0,fun w=>Xm a i len cap hi w,fun j u hu=>?_,⟨In.sD w0,In.sD w1,In.sD w2,In.sD w3,In.sD w4⟩,i1,i2,l1,l2⟩;have hj:j<7:=(List.getElem?_eq_some_iff.1 hu).1;rw [<- hu];exact k3 j hj
theorem Tm:Tryz.prog.cellsOf 24=2:=by kernel_rfl
theorem Tn:Tryz.prog.cellsOf 22=1:=by kernel_rfl
theorem Tp {n:Int} (h:(Lit.int O n).wf=true):-9223372036854775808<=n/\n<=9223372036854775807:=by
 have h2:(decide (IntKind.i64.min<=n) && decide (n<=IntKind.i64.max))=true:=h;rw [Bool.and_eq_true,decide_eq_true_eq,decide_eq_true_eq,show IntKind.i64.min=-9223372036854775808 by decide,show IntKind.i64.max=9223372036854775807 by decide] at h2;exact h2
theorem Qc {H:Type} {enc:TypeId×aJ->H} {W:aG} {r:Reach} {b0:Nat} {sp:Nat->Bool} {held:Bool} {v:aJ} {d:DataW H} {ps:List MemPlace}
  (hval:bI ak W r b0 24 v) (hd:bJ enc ak W 0 sp held 24 v d ps) :
  ∃ (zn:Int) (u:aJ) (n:Nat),v=aK #[U O zn,u]/\-9223372036854775808<=zn/\zn<=9223372036854775807/\n<=aY/\J6 W u n:=by
 obtain⟨cs,rfl,hsz⟩:=okWide_struct bn hval;obtain⟨fuel,hf⟩:=hd;obtain⟨xs,n,_,_,_,hxl,hx⟩:=aQ bn hf;rw [Tm] at hsz;obtain⟨l⟩:=cs
 match l,hsz with
 | [c0,c1],_ =>
  have f0:aF enc ak W 0 sp held n 3 (([c0,c1].drop 0).take (Tryz.prog.cellsOf 3))=xs[0]?:=hx 0 _ rfl;have f1:aF enc ak W 0 sp held n 22 (([c0,c1].drop 1).take (Tryz.prog.cellsOf 22))=xs[1]?:=hx 1 _ rfl;have ad5:xs.length=2:=hxl;simp only [In.Jm,Tn,aR,aN,aO,aS] at f0 f1;rw [aC (by omega)] at f0 f1;obtain⟨m0,e0,_,w0⟩:=aL aI f0;simp only [List.cons.injEq,and_true] at e0;subst e0;obtain⟨k,h1,h2⟩:=abz f1;exact⟨m0,c1,k,rfl,(Tp w0).1,(Tp w0).2,h1,h2⟩
end Av
namespace At
open Go.RowKit Go.ChangeShapes Go.WideShapes In
theorem abA:Tryz.prog.cellsOf 27=2:=by kernel_rfl
theorem El:Tryz.prog.cellsOf 25=1:=by kernel_rfl
theorem Jb {H:Type} {enc:TypeId×aJ->H} {W:aG} {r:Reach} {b0:Nat} {sp:Nat->Bool} {held:Bool} {v:aJ} {d:DataW H} {ps:List MemPlace}
  (hval:bI ak W r b0 27 v) (hd:bJ enc ak W 0 sp held 27 v d ps) :
  ∃ (hv vv:aJ) (has vals:List Int),v=aK #[hv,vv]/\has.length<=aY/\vals.length<=aY/\jo W hv has/\jo W vv vals:=by
 obtain⟨cs,rfl,hsz⟩:=okWide_struct bD hval;obtain⟨fuel,hf⟩:=hd;obtain⟨xs,n,_,_,_,hxl,hx⟩:=aQ bD hf;rw [abA] at hsz;obtain⟨l⟩:=cs
 match l,hsz with
 | [c0,c1],_ =>
  have f0:aF enc ak W 0 sp held n 25 (([c0,c1].drop 0).take (Tryz.prog.cellsOf 25))=xs[0]?:=hx 0 _ rfl;have f1:aF enc ak W 0 sp held n 25 (([c0,c1].drop 1).take (Tryz.prog.cellsOf 25))=xs[1]?:=hx 1 _ rfl;have ad5:xs.length=2:=hxl;simp only [El,aR,aN,aO,aS] at f0 f1;rw [aC (by omega)] at f0 f1;obtain⟨has,h1,h2⟩:=xW f0;obtain⟨vals,h3,h4⟩:=xW f1;exact⟨c0,c1,has,vals,rfl,h1,h3,h2,h4⟩
end At
end Go.Proofs.YtkcfgbddlpomgaaGreat
