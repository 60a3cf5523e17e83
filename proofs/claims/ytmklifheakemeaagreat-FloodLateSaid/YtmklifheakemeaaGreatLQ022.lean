/-
  sub of broadsideref9. Conditions as told.
-/
import Derived.Test.YtmklifheakemeaaGreatLQ021
set_option maxRecDepth 100000
set_option maxHeartbeats 64000000
open _root_.Go renaming World->au,Value->aA,Addr->aC
open Go.IntKind renaming i64->U
open Go.Lib renaming hid->L
open Go.Obj renaming cells->ay
open Go.Value renaming slice->J,int->O,pointer->Y,bool->aB,agg->aD
open _root_.List renaming getElem?_toArray->Z,getElem?_cons_zero->ah,getElem?_cons_succ->aj
open _root_.Option renaming none->X,some->ak
namespace Go.Proofs.YtmklifheakemeaaGreat
namespace Bk
open Go.RowKit Go.Sort Rw YtmklifheakemeaaGreat.Nm Pr
abbrev Bl (W:au) (b:Nat) (a0 a1 a2 a3 a4 a5 a6:aA):au:=((((((W.setCell ⟨b,0,X⟩ a0).setCell ⟨b,1,X⟩ a1).setCell ⟨b,2,X⟩ a2).setCell ⟨b,3,X⟩ a3).setCell ⟨b,4,X⟩ a4).setCell ⟨b,5,X⟩ a5).setCell ⟨b,6,X⟩ a6
theorem sG {W:au} {b:Nat} {t:TypeId} {z0 z1 z2 z3 z4 z5 z6:aA} (h:dI W b #[z0,z1,z2,z3,z4,z5,z6] t) (a0 a1 a2 a3 a4 a5 a6:aA):dI (Bl W b a0 a1 a2 a3 a4 a5 a6) b #[a0,a1,a2,a3,a4,a5,a6] t:=by
 have h2:=eD (k:=6) (eD (k:=5) (eD (k:=4) (eD (k:=3) (eD (k:=2) (eD (k:=1) (eD (k:=0) h a0) a1) a2) a3) a4) a5) a6;simp only [List.setIfInBounds_toArray,List.set_cons_zero,List.set_cons_succ] at h2;exact h2
theorem QZ (z:gW) (w:au):Calls Tryz.prog 48 #[nY z] w fun e w'=>e=.returned (aD #[O U 3,O U z.1,O U z.2.1,O U z.2.2.1,O U z.2.2.2.1,dO z.2.2.2.2.1,J X 0 0])/\Below w.heap.size w w':=by
 obtain⟨c,d,g,h,⟨po,pn,pc⟩,fr,up⟩:=z;obtain⟨h0,h1,h2⟩:=gT w #[O U c,O U d,O U g,O U h,J po pn pc,O U fr,aB up] #[O U 0,O U 0,O U 0,O U 0,O U 0,J X 0 0,J X 0 0] 66 41;obtain⟨x0,x1,x2,x3,x4,x5,x6⟩:=h1.mE;obtain⟨r0,r1,r2,r3,r4,r5,r6⟩:=h2.mE;obtain⟨t0,t1,t2,t3,t4,t5,t6⟩:=h2.RA;have zz:=h2.lt;have FB:=L (sG h2 (O U 3) (O U c) (O U d) (O U g) (O U h) (J po pn pc) (J X 0 0));have BL:=L ((((((((h0.setCell (p:=⟨w.heap.size+1,0,X⟩) (by show w.heap.size<=w.heap.size+1; omega) (O U 3)).setCell (p:=⟨w.heap.size+1,1,X⟩) (by show w.heap.size<=w.heap.size+1; omega) (O U c)).setCell (p:=⟨w.heap.size+1,2,X⟩) (by show w.heap.size<=w.heap.size+1; omega) (O U d)).setCell (p:=⟨w.heap.size+1,3,X⟩) (by show w.heap.size<=w.heap.size+1; omega) (O U g)).setCell (p:=⟨w.heap.size+1,4,X⟩) (by show w.heap.size<=w.heap.size+1; omega) (O U h)).setCell (p:=⟨w.heap.size+1,5,X⟩) (by show w.heap.size<=w.heap.size+1; omega) (J po pn pc)).setCell (p:=⟨w.heap.size+1,6,X⟩) (by show w.heap.size<=w.heap.size+1; omega) (J X 0 0)));clear h0 h1 h2;show Calls Tryz.prog 48 #[aD #[O U c,O U d,O U g,O U h,J po pn pc,O U fr,aB up]] w _;go_enter Tryz.func48,Tryz.ntmps48;go_upto_region 1 with fail;generalize (w.alloc (ay #[O U c,O U d,O U g,O U h,J po pn pc,O U fr,aB up] 66)).alloc (ay #[O U 0,O U 0,O U 0,O U 0,O U 0,J X 0 0,J X 0 0] 41)=W at *;go_wp2_with fail;obtain⟨v0,v1,v2,v3,v4,v5,v6⟩:=FB.out.mE;refine bodyPost_ret (v:=aD #[O U 3,O U c,O U d,O U g,O U h,J po pn pc,J X 0 0]) (by simp [results,Tryz.results48,go_sem,v0,v1,v2,v3,v4,v5,v6]) rfl ?_;exact⟨rfl,BL.out⟩
end Bk
namespace Av
open Go.RowKit Go.Sort Rw YtmklifheakemeaaGreat.Nm Pr Bk
def Gy (B:Nat) (b1 _b2:Nat) (_me:Int) (_z1:aA) (o2:Option aC) (n2 c2:Nat) (_z3 _z4 _z5:aA) (y1 y2:Int) (yo:Option aC) (yn yc:Nat) (y4:Int) (p:List C5) (i:Nat) (v:aA) (x:au):Prop :=
 match i with
 | 0=>v=Y (ak ⟨b1,2,X⟩)
 | 1=>v=J o2 n2 c2
 | 2=>v=aD #[O U y1,O U y2,J yo yn yc,O U y4]
 | 3=>∃ s:Sl,v=lQ (y1,y2,s,y4)/\gG x B (dO s) p
 | _=>True
noncomputable def R6:Code:=((Tryz.f35.body.bind (eT 4)).getD .skip)
theorem Md (B:Nat) (b1 b2:Nat) (me:Int) (z1:aA) (o2:Option aC) (n2 c2:Nat) (z3 z4 z5:aA) (y1 y2:Int) (yo:Option aC) (yn yc:Nat) (y4:Int) (p:List C5) (i:Nat) (v:aA) (x x':au) (h:Gy B b1 b2 me z1 o2 n2 c2 z3 z4 z5 y1 y2 yo yn yc y4 p i v x) (hb:Below x.heap.size x x'):Gy B b1 b2 me z1 o2 n2 c2 z3 z4 z5 y1 y2 yo yn yc y4 p i v x':=by
 by_cases hi:i<4
 ·rcases (by omega:i=0\/i=1\/i=2\/i=3) with rfl|rfl|rfl|rfl
  ·exact h
  ·exact h
  ·exact h
  ·obtain⟨s,h1,h2⟩:=h; exact⟨s,h1,Bk.dJ h2 hb⟩
 ·unfold Gy
  split <;> first | omega | trivial
theorem aa8 (Q:Exit->Act->au->Prop) (W:au) (B0:Nat) (l:List jk) (b1 b2:Nat) (me:Int) (z1:aA) (o2:Option aC) (n2 c2:Nat) (z3 z4 z5:aA) (y1 y2:Int) (yo:Option aC) (yn yc:Nat) (y4:Int) (p:List C5) (u0 u1 u4 u5 u6 u7 u8 u9 u10 u11 u12 u13 u14 u15 u16 u17 u18 u19 u20 u21 u22 u23 u24 u25:aA)
  (h1:dI W b1 #[O U me,z1,J o2 n2 c2,z3,z4,z5] 28) (h2:dI W b2 #[O U y1,O U y2,J yo yn yc,O U y4] 74) (ho:qo W B0 (J o2 n2 c2) l) (hr:jK jI l) (hl:l.length<=900) (hB:B0<=W.heap.size) (hb0:b1<B0) (hp:eY W (J yo yn yc) p) (lp:p.length<=900)
  (hQ:∀ (w1:au) (v13 v14 v15 v16 v17 v18:aA) (s1:Option aC) (s2 s3:Nat) (t1:Option aC) (t2 t3:Nat),dI w1 b1 #[O U me,z1,J o2 n2 c2,z3,z4,z5] 28->qo w1 B0 (J t1 t2 t3) (fC l (fV jI l (y1,y2)) (y1,y2,(s1,s2,s3),y4))->gG w1 W.heap.size (J s1 s2 s3) p->Off (dO (o2,n2,c2)).ownBlock W w1->Below B0 W w1->Q .normal ⟨(u0::u1::Y (ak ⟨b1,0,X⟩)::Y (ak ⟨b2,0,X⟩)::u4::u5::u6::u7::u8::u9::u10::u11::u12::v13::v14::v15::v16::v17::v18::u19::u20::u21::u22::u23::u24::u25::[]).toArray,[]⟩ (w1.setCell ⟨b1,2,X⟩ (J t1 t2 t3))) :
  Code.wp Tryz.prog R6 Q ⟨(u0::u1::Y (ak ⟨b1,0,X⟩)::Y (ak ⟨b2,0,X⟩)::u4::u5::u6::u7::u8::u9::u10::u11::u12::u13::u14::u15::u16::u17::u18::u19::u20::u21::u22::u23::u24::u25::[]).toArray,[]⟩ W:=by
 have HQ:=L hQ;have H1:=L h1;have H2:=L h2;have HO:=L ho;have HR:=L hr;have HL:=L hl;have HB:=L hB;have H0:=L hb0;have HP:=L hp;have LP:=L lp;clear hQ h1 h2 ho hr hl hB hb0 hp lp;have jG:=Md W.heap.size b1 b2 me z1 o2 n2 c2 z3 z4 z5 y1 y2 yo yn yc y4 p;unfold R6
 conv=>arg 2; whnf
 have nd:∀ j,(j<13\/17<=j)->∀ i,i<4->(fun i=>13+i) i≠j:=by
  intro j hj i hi h;simp only at h;omega
 refine Rg.gN 7 4 (fun i=>13+i) (fun _=>4) (Gy W.heap.size b1 b2 me z1 o2 n2 c2 z3 z4 z5 y1 y2 yo yn yc y4 p) (by kernel_rfl) (by kernel_rfl) rfl (by decide) (fun i j _ _ h=>by have h2:13+i=13+j:=h; omega) (fun i hi=>by show 13+i<26; omega) ?_ (fun _=>Rg.jN 14 (by kernel_rfl)) ?_ ?_
 ·intro i o hi ho a x D hnd hc hD hb seen K hK;clear HQ;rcases (by omega:i=0\/i=1\/i=2\/i=3) with rfl|rfl|rfl|rfl
  ·cases ho;have e2:a.eval (.tmp 2)=Y (ak ⟨b1,0,X⟩):=seen.kp 2 _ (nd 2 (by omega)) rfl;exact Rg.dF rfl rfl (Rg.eP a.eval _ 28 (.tmp 2) 2 rfl (by rw [e2]; simp [go_sem])) (hK _ _ rfl (Below.refl _ _) fun _ _ _ _ _ _ _ h=>h)
  ·cases ho;have e13:a.eval (.tmp 13)=Y (ak ⟨b1,2,X⟩):=seen.at_ ⟨0,.data⟩ (by simp) rfl (Or.inr (by decide));have y2:=(H1.out.on hb).cell 2;simp only [Z,ah,aj] at y2;exact Rg.dF rfl rfl (Rg.eu a.eval _ 23 (.tmp 13) rfl (by rw [e13]; simp [go_sem,y2])) (hK _ _ rfl (Below.refl _ _) fun _ _ _ _ _ _ _ h=>h)
  ·cases ho;have e3:a.eval (.tmp 3)=Y (ak ⟨b2,0,X⟩):=seen.kp 3 _ (nd 3 (by omega)) rfl;obtain⟨y0,y1,y2,y3⟩:=(H2.out.on hb).zZ;exact Rg.dF rfl rfl (Rg.eu a.eval _ 74 (.tmp 3) rfl (by rw [e3]; simp [go_sem,y0,y1,y2,y3])) (hK _ _ rfl (Below.refl _ _) fun _ _ _ _ _ _ _ h=>h)
  ·cases ho;have e15:a.eval (.tmp 15)=aD #[O U y1,O U y2,J yo yn yc,O U y4]:=seen.at_ ⟨2,.data⟩ (by simp) rfl (Or.inr (by decide));exact Rg.fO rfl rfl (Rw.gu a.eval _ (.tmp 15) 74 79 rfl e15 rfl _ (fI Tryz.func79 rfl rfl _ _)) (vJ (y1,y2,(yo,yn,yc),y4) p x (HP.out.on hb) LP.out) fun e w1 h=>by
    obtain⟨⟨s,rfl,h1⟩,h3⟩:=h;exact⟨_,rfl,hK _ _ ⟨s,rfl,dK h1 hb.size⟩ (h3.mono hb.size) fun j u hj _ _ _ hne h=>jG j u _ _ h h3⟩
 ·intro kk o h1 h2 ho;rcases (by omega:kk=5\/kk=6) with rfl|rfl
  ·cases ho;exact⟨⟨4,.phase⟩,by simp,rfl,rfl⟩
  ·cases ho;exact⟨⟨5,.data⟩,by simp,rfl,rfl⟩
 ·intro a w' df sz kp ⟨vs,hv⟩ hb;have sz':a.tmps.size=26:=sz;have g2:a.tmps[2]?=ak (Y (ak ⟨b1,0,X⟩)):=(kp 2 (nd 2 (by omega))).trans rfl;have g14:a.tmps[14]?=ak (J o2 n2 c2):=by
   have h:vs 1=J o2 n2 c2:=(hv 1 (by omega)).2 (by decide);rw [<- h];exact (hv 1 (by omega)).1
  obtain⟨⟨s1,s2,s3⟩,hs,hc⟩:=(hv 3 (by omega)).2 (by decide);have g16:a.tmps[16]?=ak (lQ (y1,y2,(s1,s2,s3),y4)):=((hv 3 (by omega)).1).trans (congrArg ak hs);have B1:=H1.out.on hb;show Rg.fP _ _ _ 3 4 a w';simp only [Rg.fP];refine Rg.fO rfl rfl (oZ a.eval _ (.tmp 14) (.tmp 16) (.func 58) 23 74 106 92 rfl (Rg.dH g14) (Rg.dH g16) rfl rfl _ (fI Tryz.func92 rfl rfl _ _)) (Ma B0 (o2,n2,c2) l (y1,y2,(s1,s2,s3),y4) w' (Bk.dJ HO.out hb) HR.out HL.out (Nat.le_trans HB.out hb.size)) fun e w1 h=>?_;obtain⟨⟨⟨t1,t2,t3⟩,rfl,hown⟩,hbel,hoth⟩:=h;refine⟨_,rfl,?_⟩;have aa9:(a.put (ak 17) (J t1 t2 t3)).tmps[17]?=ak (J t1 t2 t3):=by simp [Act.put,sz']
  show Go.wpOp _ _ _ 5 _ (a.put (ak 17) (J t1 t2 t3)) _;refine Rg.dF rfl rfl (Rg.eP _ _ 28 (.tmp 2) 2 rfl (v:=Y (ak ⟨b1,2,X⟩)) (by rw [Rg.dH ((Rg.get_put _ 17 _ 2 (by decide)).trans g2)]; simp [go_sem])) ?_;have abb:((a.put (ak 17) (J t1 t2 t3)).put (ak 18) (Y (ak ⟨b1,2,X⟩))).tmps[18]?=ak (Y (ak ⟨b1,2,X⟩)):=by simp [Act.put,sz']
  show Go.wpOp _ _ _ 6 _ ((a.put (ak 17) (J t1 t2 t3)).put (ak 18) (Y (ak ⟨b1,2,X⟩))) _;have B2:dI w1 b1 _ _:=(hbel.block b1 H0.out).trans B1;have cx:=B2.cell 2;have fx:=B2.fr 2;simp only [Z,ah,aj] at cx;refine Rg.gB 23 (.tmp 18) (.tmp 17) rfl rfl rfl rfl (Rg.dH abb) (Rg.dH ((Rg.get_put _ 18 _ 17 (by decide)).trans aa9)) (w':=w1.setCell ⟨b1,2,X⟩ (J t1 t2 t3)) (by simp [go_sem,cx,fx]) ?_;have of1:Off (dO (o2,n2,c2)).ownBlock w' w1:=⟨hoth,hbel.size⟩;have of2:Off (dO (o2,n2,c2)).ownBlock W w1:=⟨fun j hj hne=>(hoth j (Nat.lt_of_lt_of_le hj hb.size) hne).trans (hb.block j hj),Nat.le_trans hb.size hbel.size⟩;have pQ:∀ j,(j<13\/19<=j)->((a.put (ak 17) (J t1 t2 t3)).put (ak 18) (Y (ak ⟨b1,2,X⟩))).tmps[j]?=(u0::u1::Y (ak ⟨b1,0,X⟩)::Y (ak ⟨b2,0,X⟩)::u4::u5::u6::u7::u8::u9::u10::u11::u12::u13::u14::u15::u16::u17::u18::u19::u20::u21::u22::u23::u24::u25::[])[j]?:=fun j hj=>(Rg.get_put _ 18 _ j (by omega)).trans ((Rg.get_put _ 17 _ j (by omega)).trans ((kp j (nd j (by omega))).trans Z));obtain⟨mid,hmid,hfr⟩:=Rg.gF (a:=(a.put (ak 17) (J t1 t2 t3)).put (ak 18) (Y (ak ⟨b1,2,X⟩))) 13 6 df (by simp [Rg.size_put,sz']) (by simp) pQ;show Q .normal ((a.put (ak 17) (J t1 t2 t3)).put (ak 18) (Y (ak ⟨b1,2,X⟩))) _;rw [hfr]
  match mid,hmid with
  | [v13,v14,v15,v16,v17,v18],_ =>
   exact HQ.out w1 _ _ _ _ _ _ s1 s2 s3 t1 t2 t3 B2 hown (of1.own hc (iO (Bk.dJ HO.out hb)) (by decide)) of2 ((hb.mono HB.out).trans hbel)
abbrev qh (l:List Ad):Prop:=jK Ad.id l
abbrev Me (l:List fB):Prop:=jK (fun x:fB=>x) l
def kX (W:au) (nv:Sl) (l:List Int):Prop:=∃ B,uX W B (dO nv) l
theorem kX.on {W W':au} {nv:Sl} {l:List Int} (h:kX W nv l) (hb:Below W.heap.size W W'):kX W' nv l:=by obtain⟨B,h⟩:=h; exact⟨B,Bk.dJ h hb⟩
def lY (W:au) (b:Br) (nv av sv ev ov:Sl):Prop:=∃ (V:au) (B:Nat),Cp (vw V) B W b nv av sv ev ov
theorem lY.on {W W':au} {b:Br} {nv av sv ev ov:Sl} (h:lY W b nv av sv ev ov) (hb:Below W.heap.size W W'):lY W' b nv av sv ev ov:=by
 obtain⟨V,B,h⟩:=h;exact⟨V,B,h.grow hb⟩
theorem Cp.X7 {V wr:au} {B:Nat} {b:Br} {nv av sv ev ov:Sl} (h:Cp (vw V) B wr b nv av sv ev ov):lS wr b nv av sv ev ov where
 near:=Row.dG h.near
 dV:=by obtain⟨l,h1,h2⟩:=h.dV; exact⟨l,Row.dG h1,h2.mono fun _ _ q=>⟨q.1,q.2.1,q.2.2.elim Eo Row.dG⟩⟩
 seen:=Row.dG h.seen
 ent:=by obtain⟨l,h1,h2⟩:=h.ent; exact⟨l,Row.dG h1,h2.mono fun _ _ q=>⟨q.1,q.2.1,q.2.2.1,q.2.2.2.1,q.2.2.2.2.elim Eo Row.dG⟩⟩
 own:=by obtain⟨l,h1,h2⟩:=h.own; exact⟨l,Row.dG h1,h2.mono fun _ _ q=>⟨q.1,q.2.elim Eo Row.dG⟩⟩
theorem lY.br {W:au} {b:Br} {nv av sv ev ov:Sl} (h:lY W b nv av sv ev ov):lS W b nv av sv ev ov:=by
 obtain⟨V,B,h⟩:=h;exact h.X7
theorem lY.no {W:au} {b:Br} {nv av sv ev ov:Sl} (h:lY W b nv av sv ev ov):kX W nv b.near:=by
 obtain⟨V,B,h⟩:=h;exact⟨B,h.near⟩
theorem lY.sj {W W':au} {b:Br} {nv av sv ev ov:Sl} (h:lY W b nv av sv ev ov) {g:Nat} {d:Array aA} {t:TypeId} (hb:But g W W') (hg:dI W g d t) (h1:(3 == t)=false) (h2:(31 == t)=false) (h3:(74 == t)=false) (h4:(66 == t)=false) (h5:(34 == t)=false) (h6:(70 == t)=false):lY W' b nv av sv ev ov:=by
 obtain⟨V,B,h⟩:=h;exact⟨V,B,h.sj hb hg h1 h2 h3 h4 h5 h6⟩
def zQ (W:au) (P R:Prop) (r:Br×Bool) (e:Ending) (w':au):Prop:=(∃ nv av sv ev ov:Sl,e=.returned (.tuple #[lN r.1.me nv av sv ev ov,aB r.2])/\lS w' r.1 nv av sv ev ov/\(P->kX w' nv r.1.near)/\(R\/r.2=true->lY w' r.1 nv av sv ev ov))/\Below W.heap.size W w'
theorem sH {b:Br} {a:Ad} (h:a.id∈b.seen):eO b a=(b,false):=by unfold eO; rw [if_pos h]
theorem nM {b:Br} {a:Ad} (h:¬ a.id∈b.seen):eO b a=({ b with seen:=fC b.seen (fU b.seen a.id) a.id,dV:=fC b.dV (fU (b.dV.map Ad.id) a.id) a },true):=by unfold eO; rw [if_neg h]
theorem JG (b:Br) (a:Ad) (nv av sv ev ov:Sl) (x:jk) (w:au) (h:lS w b nv av sv ev ov) (ha:xK w x a) (hf:Kn b) (hp:uF b) (hla:a.p.length<=900) (hr1:Me b.seen) (hr2:qh b.dV) :
  Calls Tryz.prog 35 #[lN b.me nv av sv ev ov,lQ x] w (zQ w (kX w nv b.near) (lY w b nv av sv ev ov) (eO b a)):=by
 obtain⟨no,nn,nc⟩:=nv;obtain⟨ao,an,ac⟩:=av;obtain⟨so,sn,sc⟩:=sv;obtain⟨eo,en,ec⟩:=ev;obtain⟨oo,gI,oc⟩:=ov;obtain⟨y1,y2,⟨yo,yn,yc⟩,y4⟩:=x;obtain⟨h0,h1,h2⟩:=gT w #[O U b.me,J no nn nc,J ao an ac,J so sn sc,J eo en ec,J oo gI oc] #[O U y1,O U y2,J yo yn yc,O U y4] 28 74;have h3:=gM ((w.alloc (ay #[O U b.me,J no nn nc,J ao an ac,J so sn sc,J eo en ec,J oo gI oc] 28)).alloc (ay #[O U y1,O U y2,J yo yn yc,O U y4] 74)) (ay #[O U 0,J X 0 0,J X 0 0,J X 0 0,J X 0 0,J X 0 0] 28);have h4:=dL ((w.alloc (ay #[O U b.me,J no nn nc,J ao an ac,J so sn sc,J eo en ec,J oo gI oc] 28)).alloc (ay #[O U y1,O U y2,J yo yn yc,O U y4] 74)) #[O U 0,J X 0 0,J X 0 0,J X 0 0,J X 0 0,J X 0 0] 28;have hsz:((w.alloc (ay #[O U b.me,J no nn nc,J ao an ac,J so sn sc,J eo en ec,J oo gI oc] 28)).alloc (ay #[O U y1,O U y2,J yo yn yc,O U y4] 74)).heap.size=w.heap.size+1+1:=by simp
 rw [hsz] at h4;have BB:=L (h0.trans (h3.mono h0.size));have X1:=L (h1.on h3);have X2:=L (h2.on h3);have X3:=L h4;have HH:=L h;have HA:=L ha;have HF:=L hf;have HP:=L hp;have LA:=L hla;have R1:=L hr1;have R2:=L hr2;have ei:a.id=(y1,y2):=ha.1.symm;have SW:=L (Jd b.me (J no nn nc) (J ao an ac) (J eo en ec) (J oo gI oc) (so,sn,sc) b.seen (y1,y2) _ (h.seen.on BB.out));obtain⟨r,hr⟩:∃ r,decide ((y1,y2)∈b.seen)=r:=⟨_,rfl⟩;rw [hr] at SW;have HR:=L hr;have EI:=L ei;obtain⟨x0,x1,x2,x3,x4,x5⟩:=X1.out.gP;obtain⟨d0,d1,d2,d3⟩:=X2.out.zZ;obtain⟨z0,z1,z2,z3,z4,z5⟩:=X3.out.gP;obtain⟨t0,t1,t2,t3,t4,t5⟩:=X3.out.pO;have zz:=X3.out.lt;clear h0 h1 h2 h3 h4 hsz h ha hf hp hla hr1 hr2 hr ei;go_enter Tryz.func35,Tryz.ntmps35;go_wp2_with fail;generalize ((w.alloc (ay #[O U b.me,J no nn nc,J ao an ac,J so sn sc,J eo en ec,J oo gI oc] 28)).alloc (ay #[O U y1,O U y2,J yo yn yc,O U y4] 74)).alloc (ay #[O U 0,J X 0 0,J X 0 0,J X 0 0,J X 0 0,J X 0 0] 28)=W at *;refine SW.out.mono ?_;rintro e1 w1 ⟨rfl,hb⟩;have B1:=L (BB.out.trans (hb.mono BB.out.size));have Y1:=X1.out.on hb;have Y2:=X2.out.on hb;have Y3:=X3.out.on hb;clear SW hb x0 x1 x2 x3 x4 x5 d0 d1 d2 d3 z0 z1 z2 z3 z4 z5 t0 t1 t2 t3 t4 t5 zz X1 X2 X3;obtain⟨x0,x1,x2,x3,x4,x5⟩:=Y1.gP;obtain⟨z0,z1,z2,z3,z4,z5⟩:=Y3.gP;obtain⟨t0,t1,t2,t3,t4,t5⟩:=Y3.pO;have zz:=Y3.lt;cases r
 ·have nin:¬ a.id∈b.seen:=by rw [EI.out]; exact of_decide_eq_false HR.out
  have LQ:=L (nM nin);have Z1:=L Y1;have Z2:=L Y2;have Z3:=L Y3;have L1:=L Y1.lt;have L3:=L (show w.heap.size+1<w1.heap.size from Y2.lt);clear z0 z1 z2 z3 z4 z5 t0 t1 t2 t3 t4 t5 zz nin;go_wp2_with fail;refine (pz b (no,nn,nc) (ao,an,ac) (so,sn,sc) (eo,en,ec) (oo,gI,oc) w w1 B1.out HH.out HF.out HP.out).mono ?_;rintro e2 w2 ⟨⟨⟨p1,q1,s1⟩,⟨p2,q2,s2⟩,⟨p3,q3,s3⟩,⟨p4,q4,s4⟩,⟨p5,q5,s5⟩,rfl,cp⟩,hb2⟩;have V1:=Z1.out.on hb2;have V2:=L (Z2.out.on hb2);have V3:=L (Z3.out.on hb2);clear x0 x1 x2 x3 x4 x5;obtain⟨x0,x1,x2,x3,x4,x5⟩:=V1.gP;obtain⟨t0,t1,t2,t3,t4,t5⟩:=V1.pO;have zz:=V1.lt;have FB:=L (dZ V1 (O U b.me) (J p1 q1 s1) (J p2 q2 s2) (J p3 q3 s3) (J p4 q4 s4) (J p5 q5 s5));have FC:=L (cp.but (fu w2 w.heap.size (O U b.me) (J p1 q1 s1) (J p2 q2 s2) (J p3 q3 s3) (J p4 q4 s4) (J p5 q5 s5)) V1);have FL:=L (dN (b:=w.heap.size) (B1.out.trans (hb2.mono B1.out.size)) (Nat.le_refl _) (O U b.me) (J p1 q1 s1) (J p2 q2 s2) (J p3 q3 s3) (J p4 q4 s4) (J p5 q5 s5));have F2:=L ((fu w2 w.heap.size (O U b.me) (J p1 q1 s1) (J p2 q2 s2) (J p3 q3 s3) (J p4 q4 s4) (J p5 q5 s5)).box V2.out (by omega));have F3:=L ((fu w2 w.heap.size (O U b.me) (J p1 q1 s1) (J p2 q2 s2) (J p3 q3 s3) (J p4 q4 s4) (J p5 q5 s5)).box V3.out (by omega));have SZ:=L (show w1.heap.size<=(iF w2 w.heap.size (O U b.me) (J p1 q1 s1) (J p2 q2 s2) (J p3 q3 s3) (J p4 q4 s4) (J p5 q5 s5)).heap.size by have:=hb2.size; simp; omega);have L2:=L (show w.heap.size<w1.heap.size from L1.out);clear V1 V2 V3 cp hb2 Z1 Z2 Z3 L1;go_upto_region 4 with fail;clear x0 x1 x2 x3 x4 x5 t0 t1 t2 t3 t4 t5 zz;unfold iF at FB FC FL F2 F3 SZ;generalize ((((((w2).setCell ⟨w.heap.size,0,X⟩ (O U b.me)).setCell ⟨w.heap.size,1,X⟩ (J p1 q1 s1)).setCell ⟨w.heap.size,2,X⟩ (J p2 q2 s2)).setCell ⟨w.heap.size,3,X⟩ (J p3 q3 s3)).setCell ⟨w.heap.size,4,X⟩ (J p4 q4 s4)).setCell ⟨w.heap.size,5,X⟩ (J p5 q5 s5)=w3 at *;obtain⟨la,JJ,JK⟩:=FC.out.dV;have uO:=L JJ;have HL2:=L JK;have KE:=L (keys_eq JK);clear JJ JK;refine aa8 _ w3 w1.heap.size la w.heap.size (w.heap.size+1) b.me (J p1 q1 s1) p2 q2 s2 (J p3 q3 s3) (J p4 q4 s4) (J p5 q5 s5) y1 y2 yo yn yc y4 a.p _ _ _ _ _ _ _ _ _ _ _ _ _ _ _ _ _ _ _ _ _ _ _ _ FB.out F2.out uO.out ?_ ?_ SZ.out L2.out (HA.out.2.2.on FL.out) LA.out ?_
  ·rw [yM,KE.out,<- yM]; exact R2.out
  ·rw [HL2.out.len]; exact HF.out.dV
  intro w4 v13 v14 v15 v16 v17 v18 s1' s2' s3' t1 t2 t3 hbx hown hc hoff hbel;have X8:=L (FC.out.X6 (Vg:=(t1,t2,t3)) (al:=fC b.dV (fU (b.dV.map Ad.id) a.id) a) hoff ⟨_,hown,by
   have hg:=iO uO.out;have h2:=HL2.out.mono fun _ _ q=>q.off hoff hg (by decide);have hk:fV jI la (y1,y2)=fU (b.dV.map Ad.id) a.id:=by rw [iI,KE.out,EI.out]
   rw [<- hk];exact vR h2 _ ⟨HA.out.1,HA.out.2.1,Or.inr (dK hc SZ.out)⟩⟩)
  have G2:=L (show dI w4 (w.heap.size+1) _ _ from (hbel.block _ L3.out).trans F2.out);have G3:=L (show dI w4 (w.heap.size+1+1) _ _ from hoff.box F3.out (iO uO.out) (by decide));have G1:=L (show dI (w4.setCell ⟨w.heap.size,2,X⟩ (J t1 t2 t3)) w.heap.size #[O U b.me,J p1 q1 s1,J t1 t2 t3,J p3 q3 s3,J p4 q4 s4,J p5 q5 s5] 28 by simpa using eD (k:=2) hbx (J t1 t2 t3));have CP3:=L (X8.out.but (dM w4 w.heap.size 2 (J t1 t2 t3)) hbx);have G2':=L ((dM w4 w.heap.size 2 (J t1 t2 t3)).box G2.out (by omega));have G3':=L ((dM w4 w.heap.size 2 (J t1 t2 t3)).box G3.out (by omega));have GL:=L (show Below w.heap.size w (w4.setCell ⟨w.heap.size,2,X⟩ (J t1 t2 t3)) from (FL.out.trans (hbel.mono (Nat.le_of_lt L2.out))).setCell (p:=⟨w.heap.size,2,X⟩) (Nat.le_refl _) _);have GZ:=L (show w1.heap.size<=(w4.setCell ⟨w.heap.size,2,X⟩ (J t1 t2 t3)).heap.size by have:=SZ.out; have:=hbel.size; simp; omega);clear hbx hown hc hoff hbel X8 G2 G3 FB FC F2 F3 FL SZ uO HL2 KE;generalize w4.setCell ⟨w.heap.size,2,X⟩ (J t1 t2 t3)=w5 at *;have x3:=G1.out.cell 3;have d1:=G2'.out.cell 1;have d0:=G2'.out.cell 0;simp only [Z,ah,aj] at x3 d0 d1;go_wp2_with fail;refine (L9 w1.heap.size (p3,q3,s3) b.seen (y1,y2) w5 CP3.out.seen R1.out HF.out.seen GZ.out).mono ?_;rintro e3 w6 ⟨⟨⟨r1,r2,r3⟩,rfl,hown⟩,hbel,hoth⟩;have hoff:Off (dO (p3,q3,s3)).ownBlock w5 w6:=⟨hoth,hbel.size⟩;have X9:=L (CP3.out.aa7 (WT:=(r1,r2,r3)) (sl:=fC b.seen (fU b.seen a.id) a.id) hoff (by
   have hk:fV pR b.seen (pR (y1,y2))=fU b.seen a.id:=by rw [iI,EI.out]; simp
   rw [<- hk,EI.out];exact hown))
  have hg:=iO CP3.out.seen;have K1:=hoff.box G1.out hg (by decide);have K3:=hoff.box G3'.out hg (by decide);have KL:=GL.out.trans (hbel.mono (Nat.le_of_lt L2.out));have M1:=L (show dI (w6.setCell ⟨w.heap.size,3,X⟩ (J r1 r2 r3)) w.heap.size #[O U b.me,J p1 q1 s1,J t1 t2 t3,J r1 r2 r3,J p4 q4 s4,J p5 q5 s5] 28 by simpa using eD (k:=3) K1 (J r1 r2 r3));have M3:=L ((dM w6 w.heap.size 3 (J r1 r2 r3)).box K3 (by omega));have MC:=L (X9.out.but (dM w6 w.heap.size 3 (J r1 r2 r3)) K1);have ML:=L (show Below w.heap.size w (w6.setCell ⟨w.heap.size,3,X⟩ (J r1 r2 r3)) from KL.setCell (p:=⟨w.heap.size,3,X⟩) (Nat.le_refl _) _);clear x3 d0 d1;have x3:=K1.cell 3;have t3:=K1.fr 3;have zz:=K1.lt;simp only [Z,ah,aj] at x3;clear hown hbel hoth hoff hg K1 K3 KL X9 CP3 G1 G2' G3' GL GZ;go_upto_region 6 with fail;clear x3 t3 zz;generalize w6.setCell ⟨w.heap.size,3,X⟩ (J r1 r2 r3)=w7 at *;have U1:=M1.out;have U3:=M3.out;obtain⟨x0,x1,x2,x3,x4,x5⟩:=U1.gP;obtain⟨z0,z1,z2,z3,z4,z5⟩:=U3.gP;obtain⟨f0,f1,f2,f3,f4,f5⟩:=U3.pO;have zz:=U3.lt;have FB:=L (dZ U3 (O U b.me) (J p1 q1 s1) (J t1 t2 t3) (J r1 r2 r3) (J p4 q4 s4) (J p5 q5 s5));have FC:=L (MC.out.but (fu w7 (w.heap.size+1+1) (O U b.me) (J p1 q1 s1) (J t1 t2 t3) (J r1 r2 r3) (J p4 q4 s4) (J p5 q5 s5)) U3);have FL:=L (dN (b:=w.heap.size+1+1) ML.out (by omega) (O U b.me) (J p1 q1 s1) (J t1 t2 t3) (J r1 r2 r3) (J p4 q4 s4) (J p5 q5 s5));clear U1 U3 M1 M3 MC ML;go_wp2_with fail;obtain⟨v0,v1,v2,v3,v4,v5⟩:=FB.out.gP;refine bodyPost_ret (v:=.tuple #[aD #[O U b.me,J p1 q1 s1,J t1 t2 t3,J r1 r2 r3,J p4 q4 s4,J p5 q5 s5],aB true]) (by simp [results,Tryz.results35,go_sem,v0,v1,v2,v3,v4,v5]) rfl ?_;rw [LQ.out];exact⟨⟨(p1,q1,s1),(t1,t2,t3),(r1,r2,r3),(p4,q4,s4),(p5,q5,s5),rfl,FC.out.X7,fun _=>⟨_,FC.out.near⟩,fun _=>⟨_,_,FC.out⟩⟩,FL.out⟩
 ·have hin:a.id∈b.seen:=by rw [EI.out]; exact of_decide_eq_true HR.out
  have LQ:=L (sH hin);have FB:=L (dZ Y3 (O U b.me) (J no nn nc) (J ao an ac) (J so sn sc) (J eo en ec) (J oo gI oc));have FL:=L (dN (b:=w.heap.size+1+1) B1.out (by omega) (O U b.me) (J no nn nc) (J ao an ac) (J so sn sc) (J eo en ec) (J oo gI oc));clear hin Y1 Y2 Y3;go_wp2_with fail;obtain⟨v0,v1,v2,v3,v4,v5⟩:=FB.out.gP;refine bodyPost_ret (v:=.tuple #[aD #[O U b.me,J no nn nc,J ao an ac,J so sn sc,J eo en ec,J oo gI oc],aB false]) (by simp [results,Tryz.results35,go_sem,v0,v1,v2,v3,v4,v5]) rfl ?_;rw [LQ.out];exact⟨⟨(no,nn,nc),(ao,an,ac),(so,sn,sc),(eo,en,ec),(oo,gI,oc),rfl,HH.out.on FL.out,fun h=>h.on FL.out,fun h=>(h.resolve_right (by simp)).on FL.out⟩,FL.out⟩
end Av
namespace Rl
open Go.RowKit Pu Rw Pr Va
end Rl
end Go.Proofs.YtmklifheakemeaaGreat
