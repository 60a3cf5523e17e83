/-
  Match of package rel. Conditions as told.
-/
import Derived.Test.YtkcfgbddlpomgaaGreatLQ038
set_option maxRecDepth 100000
set_option maxHeartbeats 64000000
open _root_.Go renaming World->aF,Value->aI,Calls->aL,Addr->aQ
open Go.Ending renaming returned->aA
open Go.IntKind renaming i64->V
open Go.Lib renaming hid->O
open Go.Obj renaming cells->aG
open Go.Operand renaming tmp->aC
open Go.Proofs.Tryz renaming prog->aB,func35->aK,ntmps35->aM,func66->aO
open Go.RowKit.Below renaming refl->ay
open Go.Value renaming slice->J,int->U,pointer->Z,agg->aP,bool->aR
open _root_.List renaming getElem?_toArray->Y,getElem?_cons_zero->ah,getElem?_cons_succ->ak,getElem?_eq_getElem->aJ
open _root_.Nat renaming le_trans->aD,le_refl->aN
open _root_.Option renaming none->aj,some->au
open _root_.Or renaming inr->aH
namespace Go.Proofs.YtkcfgbddlpomgaaGreat
namespace Ca
open Go.RowKit Go.Sort Rw YtkcfgbddlpomgaaGreat.Nm Pr Bk Av Rl Sb Fl
theorem Mr (pv lv:aI) (p:List C5) (l:List An) (w:aF) (hp:fK w pv p) (hl:tX w lv l) (np:dQ p) (nl:NL l) :
  aL aB 18 #[pv,lv] w fun e w'=>e=aA (aR (mh p l))/\Below w.heap.size w w':=by
 obtain⟨a,ha,rfl⟩:=np;unfold mh;rw [oH];exact CF pv lv a l w hp hl ha nl
theorem Ms {wr w0:aF} {B:Nat} {v:aI} {lu:List Int} (x:Int) (o:mI wr B v lu) (hn:lu.length<=1000) (hB:B<=wr.heap.size) (hb:Below B w0 wr) :
  ∃ v' w',(Builtin.append_ #[25,25] 25 #[v,J (au ⟨wr.heap.size,0,aj⟩) 1 1]).run aB (wr.alloc (aG #[U V x] 3))=.ok v' w'/\mI w' B v' (lu++[x])/\Below B w0 w':=by
 have NB:=fO wr (aG #[U V x] 3);have o1:mI (wr.alloc (aG #[U V x] 3)) B v lu:=Bk.dx o NB;obtain⟨v',w',r',o',g'⟩:=aeO B o1 (PO wr x) hn (by simp) (aD hB NB.size);exact⟨v',w',r',o',(hb.trans (NB.mono hB)).grown g' (aD hB NB.size) fun j hj=>(o1.lt j hj).1⟩
theorem Df (w:aF) (B:Nat) (v:Sl) (l:List Int) (h:mI w B (dP v) l) (hl:l.length<=900) (hB:B<=w.heap.size) :
  aL aB 43 #[dP v] w fun e w'=>(∃ (v':Sl) (l':List Int),e=aA (dP v')/\mI w' B (dP v') l'/\l'.Pairwise (·<·)/\∀ x,x∈l'↔x∈l)/\Below B w w':=by
 obtain⟨p1,p2,p3⟩:=v;have C:=O (Bo w B _ l h hl);have OT:=O (fun g hg=>(h.lt g hg).1);have HL:=O hl;have HB:=O hB;clear h hl hB;go_enter Tryz.func43,Tryz.ntmps43;go_wp2_with fail;refine C.out.mono ?_;rintro e2 w2 ⟨rfl,l2,ho2,hp2,hs2,hg2⟩;have B2:=O ((ay B w).grown hg2 HB.out (fun j hj=>OT.out j hj));have C3:=O (FN w2 B (p1,p2,p3) l2 ho2 hs2 (by rw [hp2.length_eq]; exact HL.out));have PM:=O hp2;have OT2:=O (fun g hg=>(ho2.lt g hg).1);clear ho2 hp2 hs2 hg2 C OT;go_wp2_with fail;refine C3.out.mono ?_;rintro e3 w3 ⟨⟨⟨t1,t2,t3⟩,rfl,l3,ho3,hs3,hm3⟩,hg3⟩;have Q:=O (show (∃ (v':Sl) (l':List Int),aA (J t1 t2 t3)=aA (dP v')/\mI w3 B (dP v') l'/\l'.Pairwise (·<·)/\∀ x,x∈l'↔x∈l)/\Below B w w3 from ⟨⟨(t1,t2,t3),l3,rfl,ho3,hs3,fun x=>(hm3 x).trans PM.out.mem_iff⟩,B2.out.grown hg3 (aD HB.out (B2.out.size)) (fun j hj=>OT2.out j hj)⟩);clear ho3 hs3 hm3 hg3 C3 B2 PM OT2;go_wp2;go_ret;exact Q.out
theorem Mt (b:Br) (nv av sv ev ov:Sl) (lv:Sl) (l:List An) (w:aF) (h:iA w b nv av sv ev ov) (hc:sV b) (hl:tX w (dP lv) l) (hn:NL l) :
  aL aB 19 #[nT b.me nv av sv ev ov,dP lv] w fun e w'=>(∃ o:Sl,e=aA (dP o)/\mI w' w.heap.size (dP o) (rO b l))/\Below w.heap.size w w':=by
 obtain⟨no,nn,nc⟩:=nv;obtain⟨ao,an,ac⟩:=av;obtain⟨so,sn,sc⟩:=sv;obtain⟨eo,en,ec⟩:=ev;obtain⟨oo,z2,oc⟩:=ov;obtain⟨lo,ln,lc⟩:=lv;obtain⟨lb,he1,he2⟩:=h.own;have h0:=fO w (aG #[U V b.me,J no nn nc,J ao an ac,J so sn sc,J eo en ec,J oo z2 oc] 33);have X:=dK w #[U V b.me,J no nn nc,J ao an ac,J so sn sc,J eo en ec,J oo z2 oc] 33;have B1:=O h0;have x5:=X.cell 5;simp only [Y,ah,ak] at x5;have R1:=O (he1.on h0);have R2:=O (he2.mono fun _ _ q=>q.on h0);have LL:=O (hl.on h0);have NLL:=O hn;have HM:=O (show b.own.length<=900 from hc.few.own);have OK:=O (show ∀ e∈b.own,dQ e.p from hc.po);have TI:=O (fun (r:List Int) (h1:r.Pairwise (·<·)) (h2:∀ x,x∈r↔x∈oh b.own l)=>adD hc (l:=l) h1 h2);have hnl:lb.length=z2:=rZ he1;have HN:=O hnl;have hz:z2<=900:=by have:=he2.len; have:=HM.out; omega
 generalize rO b l=res at *;generalize b.own=mb at *;clear X h hc hl hn h0 he1 he2 hnl;go_enter Tryz.func19,Tryz.ntmps19;go_upto_region 1 with fail;generalize w.alloc (aG #[U V b.me,J no nn nc,J ao an ac,J so sn sc,J eo en ec,J oo z2 oc] 33)=w1 at *;go_wp2
 go_loopw [5,11] (fun v i wr=>∃ k:Nat,k<=z2/\i=U V k/\Below w1.heap.size w1 wr/\mI wr w1.heap.size v (oh (mb.take k) l)) (fun _ i _=>z2-(intOf i).toNat)
 case atStart=>exact⟨0,Nat.zero_le _,rfl,ay _ _,gy _ _⟩
 case round =>
  obtain⟨k,hk,rfl,hbe,hown⟩:=hrel;have BE:=O hbe;have OE:=O hown;clear hbe hown x5;by_cases hlt:k<z2
  ·obtain⟨y,hy⟩:∃ y,lb[k]?=au y:=⟨_,aJ (by rw [HN.out]; exact hlt)⟩;obtain⟨q,ix,px⟩:=elW R1.out rfl HN.out hy;obtain⟨p0,p1,p2⟩:=px wr BE.out;obtain⟨e,he⟩:∃ e,mb[k]?=au e:=⟨_,aJ (by rw [<- R2.out.len,HN.out]; exact hlt)⟩;obtain⟨y',hy',hin⟩:=R2.out.at k e he;rw [hy] at hy';obtain rfl:=Option.some.inj hy';obtain⟨y1,y2,⟨yo,yn,yc⟩⟩:=y;simp only at p0 p1 p2;have NB:=O (fO wr (aG #[U V y1,U V y2,J yo yn yc] 61));have BF:=O (BE.out.trans (NB.out.mono BE.out.size));have hx:=dK wr #[U V y1,U V y2,J yo yn yc] 61;have hw3:IntKind.i64.wrap ((k:Int)+1)=(k:Int)+1:=IntWalk.i64_in _ (by omega);have HF:=O (show y1=e.id.1 from congrArg Prod.fst hin.1);have HE:=O he;have OB:=O (Bk.dx OE.out NB.out);have MA:=O (Mr (J yo yn yc) (J lo ln lc) e.p l _ (hin.2.on BF.out) (LL.out.on BF.out) (OK.out e (List.mem_of_getElem? he)) NLL.out);have BX:=O hx;have v2:=hx.cell 2;simp only [Y,ah,ak] at v2;obtain⟨g,hg⟩:∃ g,mh e.p l=g:=⟨_,rfl⟩;rw [hg] at MA;have HG:=O hg;clear px hy he hin hx hg;go_wp2_with fail;refine MA.out.mono ?_;rintro e3 w3 ⟨rfl,hb⟩;have BG:=O (BF.out.trans (hb.mono BF.out.size));have OC:=O (Bk.dx OB.out hb);have u0:=(BX.out.on hb).cell 0;simp only [Y,ah] at u0;clear hb MA v2 BF OB NB p0 p1 p2 ix;cases g
   ·have E2:=O (TY (l:=l) HE.out HG.out);go_wp2
    go_roundw
    case rel=>exact⟨k+1,by omega,by go_num,BG.out,by rw [E2.out]; exact OC.out⟩
    case measure=>simp [intOf]; omega
   ·have E2:=O (Pj (l:=l) HE.out HG.out);have hl9:(oh (mb.take k) l).length<=900:=aD (Db _ _) (aD (List.length_take_le _ _) (by omega));obtain⟨v',w',r',o',bl⟩:=Ms y1 OC.out (by omega) BG.out.size BG.out;have O2:=O o';have B2:=O bl;clear hl9 o' bl BX;go_wp2_with (first | (at_builtin; refine wpList_append_run rfl _ _ 25 rfl rfl rfl r' ?_) | fail)
    go_roundw
    case rel=>exact⟨k+1,by omega,by go_num,B2.out,by rw [E2.out,<- HF.out]; exact O2.out⟩
    case measure=>simp [intOf]; omega
  ·obtain rfl:z2=k:=by omega
   have e:mb.take z2=mb:=List.take_of_length_le (by have:=HN.out; have:=R2.out.len; omega);rw [e] at OE;obtain⟨Ai,Aj,hv⟩:=(Row.dw OE.out).len;subst hv;have CR:=O (Df wr w1.heap.size (Ai,_,Aj) _ OE.out (aD (Db _ _) HM.out) BE.out.size);clear e;generalize (oh mb l).length=nn9 at *;go_wp2_with fail;refine CR.out.mono ?_;rintro e4 w4 ⟨⟨⟨r1,r2,r3⟩,lr,rfl,ho,hs,hm⟩,hb⟩;have Q:=O (show (∃ o:Sl,aA (J r1 r2 r3)=aA (dP o)/\mI w4 w.heap.size (dP o) res)/\Below w.heap.size w w4 from ⟨⟨(r1,r2,r3),rfl,by rw [<- TI.out lr hs hm]; exact dG ho B1.out.size⟩,B1.out.trans ((BE.out.trans hb).mono B1.out.size)⟩);clear ho hs hm hb CR TI;go_wp2;go_ret;exact Q.out
theorem Ab (v:Sl) (l:List An) (w:aF) (hv:Row EA w (dP v) l) (hl:l.length<=900) :
  aL aB 35 #[dP v] w fun e w'=>(∃ v':Sl,e=aA (dP v')/\Own EA w' w.heap.size (dP v') l)/\Below w.heap.size w w':=by
 obtain⟨vo,vn,vc⟩:=v;rcases hv with⟨rfl,hv⟩|⟨a,cap,hv,h1,h2,h3⟩
 ·obtain⟨rfl,rfl,rfl⟩:vo=aj/\vn=0/\vc=0:=by simpa using hv
  clear hv hl;have q:∀ w',(binOp .eql 39 (J aj 0 0) (J aj 0 0)).run aB w'=.ok (aR true) w':=fun w'=>TD aj 0 0 w';go_enter aK,aM;go_wp2;go_ret;exact⟨⟨(aj,0,0),rfl,gy _ _⟩,ay _ _⟩
 ·obtain⟨rfl,rfl,rfl⟩:vo=au a/\vn=l.length/\vc=cap:=by simpa using hv
  have hx:Row EA w (J (au a) l.length vc) l:=aH ⟨a,vc,rfl,h1,h2,h3⟩;have n0:=fO w (aG #[] 97);obtain⟨q0,w0,r0,o0,g0⟩:=iC okA w.heap.size (dK w #[] 97) (aN _) (hx.on n0) (by omega) 39;obtain⟨v1,v3,hv1⟩:=(Row.dw o0).len;obtain⟨n,hn⟩:∃ n,n=l.length:=⟨_,rfl⟩;have Q:=O (show (∃ v':Sl,aA q0=aA (dP v')/\Own EA w0 w.heap.size (dP v') l)/\Below w.heap.size w w0 from ⟨⟨(v1,l.length,v3),by rw [hv1],by subst hv1; exact o0⟩,n0.trans (g0.mono n0.size)⟩);rw [<- hn] at r0 ⊢;clear hv h1 h2 h3 hx o0 g0 n0 hv1 hn hl;have q:∀ w',(binOp .eql 39 (J (au a) n vc) (J aj 0 0)).run aB w'=.ok (aR false) w':=fun w'=>TD (au a) n vc w';have r0:(Builtin.append_ #[39,39] 39 #[J (au ⟨w.heap.size,0,aj⟩) 0 0,J (au a) n vc]).run aB (w.alloc (aG #[] 97))=.ok q0 w0:=r0;go_enter aK,aM;go_wp2_with (first | (at_builtin; refine wpList_append_run rfl _ _ 39 rfl rfl rfl r0 ?_) | fail);go_ret;exact Q.out
theorem J7 (w:aF):aL aB 66 #[J aj 0 0] w fun e w'=>e=aA (J aj 0 0)/\Below w.heap.size w w':=by
 have q:∀ w',(binOp .eql 41 (J aj 0 0) (J aj 0 0)).run aB w'=.ok (aR true) w':=fun w'=>Jk aj 0 0 w';go_enter aO,Tryz.ntmps66;go_wp2;go_ret;exact⟨rfl,ay _ _⟩
def Mv (B:Nat) (b1:Nat) (_k _tc _ts _ic _is_:Int) (po:Option aQ) (pn pc:Nat) (p:List An) (i:Nat) (v:aI) (x:aF):Prop :=
 match i with
 | 0=>v=Z (au ⟨b1,5,aj⟩)
 | 1=>v=J aj 0 0
 | 2=>v=J aj 0 0
 | 3=>v=Z (au ⟨b1,6,aj⟩)
 | 4=>v=J po pn pc
 | 5=>∃ s:Sl,v=dP s/\DF x B v p
 | 6=>v=Z (au ⟨b1,5,aj⟩)
 | _=>True
noncomputable def Zf:Code:=((Tryz.f34.body.bind (eD 1)).getD .skip)
theorem Un (B:Nat) (b1:Nat) (k tc ts ic Dh:Int) (po:Option aQ) (pn pc:Nat) (p:List An) (i:Nat) (v:aI) (x x':aF) (h:Mv B b1 k tc ts ic Dh po pn pc p i v x) (hb:Below x.heap.size x x'):Mv B b1 k tc ts ic Dh po pn pc p i v x':=by
 by_cases hi:i<7
 ·rcases (by omega:i=0\/i=1\/i=2\/i=3\/i=4\/i=5\/i=6) with rfl|rfl|rfl|rfl|rfl|rfl|rfl
  ·exact h
  ·exact h
  ·exact h
  ·exact h
  ·exact h
  ·obtain⟨s,h1,h2⟩:=h; exact⟨s,h1,Bk.dx h2 hb⟩
  ·exact h
 ·unfold Mv
  split <;> first | omega | trivial
theorem afV (Q:Exit->Act->aF->Prop) (W:aF) (b1:Nat) (k tc ts ic Dh:Int) (po:Option aQ) (pn pc:Nat) (p:List An) (u0 u2 u3 u4 u5 u6 u7 u8 u9 u10 u11:aI)
  (h1:dI W b1 #[U V k,U V tc,U V ts,U V ic,U V Dh,J aj 0 0,J po pn pc] 43) (r5:tX W (J po pn pc) p) (l5:p.length<=900)
  (hQ:∀ (x:aF) (v3 v4 v5 v6 v7 v8 v9 v10:aI) (q1:Option aQ) (q2 q3:Nat),dI x b1 #[U V k,U V tc,U V ts,U V ic,U V Dh,J aj 0 0,J q1 q2 q3] 43->DF x W.heap.size (J q1 q2 q3) p->(∀ B,B<=b1->Below B W x)->But b1 W x->Q .normal ⟨(u0::Z (au ⟨b1,0,aj⟩)::u2::v3::v4::v5::v6::v7::v8::v9::v10::u11::[]).toArray,[]⟩ x) :
  Code.wp aB Zf Q ⟨(u0::Z (au ⟨b1,0,aj⟩)::u2::u3::u4::u5::u6::u7::u8::u9::u10::u11::[]).toArray,[]⟩ W:=by
 have HQ:=O hQ;have H1:=O h1;have R5:=O r5;have L5:=O l5;clear hQ h1 r5 l5;have iM:=Un W.heap.size b1 k tc ts ic Dh po pn pc p;unfold Zf
 conv=>arg 2; whnf
 have nd:∀ j,(j<3\/10<=j)->∀ i,i<7->(fun i=>3+i) i≠j:=by
  intro j hj i hi h;simp only at h;omega
 refine Rg.fH 10 7 (fun i=>3+i) (fun _=>7) (Mv W.heap.size b1 k tc ts ic Dh po pn pc p) (by kernel_rfl) (by kernel_rfl) rfl (by decide) (fun i j _ _ h=>by have h2:3+i=3+j:=h; omega) (fun i hi=>by show 3+i<12; omega) ?_ (fun _=>Rg.iY 14 (by kernel_rfl)) ?_ ?_
 ·intro i o hi ho a x D hnd hc hD hb seen K hK;clear HQ;rcases (by omega:i=0\/i=1\/i=2\/i=3\/i=4\/i=5\/i=6) with rfl|rfl|rfl|rfl|rfl|rfl|rfl
  ·cases ho;have e1:a.eval (aC 1)=Z (au ⟨b1,0,aj⟩):=seen.kp 1 _ (nd 1 (by omega)) rfl;exact Rg.dn rfl rfl (Rg.dN a.eval _ 43 (aC 1) 3 rfl (by rw [e1]; simp [go_sem])) (hK _ _ rfl (ay _ _) fun _ _ _ _ _ _ _ h=>h)
  ·cases ho;have e3:a.eval (aC 3)=Z (au ⟨b1,5,aj⟩):=seen.at_ ⟨0,.data⟩ (by simp) rfl (aH (by decide));have y5:=(H1.out.on hb).cell 5;simp only [Y,ah,ak] at y5;exact Rg.dn rfl rfl (Rg.dW a.eval _ 41 (aC 3) rfl (by rw [e3]; simp [go_sem,y5])) (hK _ _ rfl (ay _ _) fun _ _ _ _ _ _ _ h=>h)
  ·cases ho;have e4:a.eval (aC 4)=J aj 0 0:=seen.at_ ⟨1,.data⟩ (by simp) rfl (aH (by decide));exact Rg.gI rfl rfl (Rw.iJ a.eval _ (aC 4) 41 66 rfl e4 rfl _ (fV aO rfl rfl _ _)) (J7 x) fun e w1 h=>by
    obtain⟨rfl,h3⟩:=h;exact⟨_,rfl,hK _ _ rfl (h3.mono hb.size) fun j u hj _ _ _ hne h=>iM j u _ _ h h3⟩
  ·cases ho;have e1:a.eval (aC 1)=Z (au ⟨b1,0,aj⟩):=seen.kp 1 _ (nd 1 (by omega)) rfl;exact Rg.dn rfl rfl (Rg.dN a.eval _ 43 (aC 1) 4 rfl (by rw [e1]; simp [go_sem])) (hK _ _ rfl (ay _ _) fun _ _ _ _ _ _ _ h=>h)
  ·cases ho;have e6:a.eval (aC 6)=Z (au ⟨b1,6,aj⟩):=seen.at_ ⟨3,.data⟩ (by simp) rfl (aH (by decide));have y6:=(H1.out.on hb).cell 6;simp only [Y,ah,ak] at y6;exact Rg.dn rfl rfl (Rg.dW a.eval _ 39 (aC 6) rfl (by rw [e6]; simp [go_sem,y6])) (hK _ _ rfl (ay _ _) fun _ _ _ _ _ _ _ h=>h)
  ·cases ho;have e7:a.eval (aC 7)=J po pn pc:=seen.at_ ⟨4,.data⟩ (by simp) rfl (aH (by decide));exact Rg.gI rfl rfl (Rw.iJ a.eval _ (aC 7) 39 35 rfl e7 rfl _ (fV aK rfl rfl _ _)) (Ab (po,pn,pc) p x (R5.out.on hb) L5.out) fun e w1 h=>by
    obtain⟨⟨s,rfl,h1⟩,h3⟩:=h;exact⟨_,rfl,hK _ _ ⟨s,rfl,dG h1 hb.size⟩ (h3.mono hb.size) fun j u hj _ _ _ hne h=>iM j u _ _ h h3⟩
  ·cases ho;have e1:a.eval (aC 1)=Z (au ⟨b1,0,aj⟩):=seen.kp 1 _ (nd 1 (by omega)) rfl;exact Rg.dn rfl rfl (Rg.dN a.eval _ 43 (aC 1) 3 rfl (by rw [e1]; simp [go_sem])) (hK _ _ rfl (ay _ _) fun _ _ _ _ _ _ _ h=>h)
 ·intro kk o h1 h2 ho;rcases (by omega:kk=8\/kk=9) with rfl|rfl
  ·cases ho;exact⟨⟨7,.phase⟩,by simp,rfl,rfl⟩
  ·cases ho;exact⟨⟨8,.data⟩,by simp,rfl,rfl⟩
 ·intro a w' df sz kp ⟨vs,hv⟩ hb;have sz':a.tmps.size=12:=sz;have g1:a.tmps[1]?=au (Z (au ⟨b1,0,aj⟩)):=(kp 1 (nd 1 (by omega))).trans rfl;have g5:a.tmps[5]?=au (J aj 0 0):=by
   have h:vs 2=J aj 0 0:=(hv 2 (by omega)).2 (by decide);rw [<- h];exact (hv 2 (by omega)).1
  have g9:a.tmps[9]?=au (Z (au ⟨b1,5,aj⟩)):=by
   have h:vs 6=Z (au ⟨b1,5,aj⟩):=(hv 6 (by omega)).2 (by decide);rw [<- h];exact (hv 6 (by omega)).1
  obtain⟨⟨q1,q2,q3⟩,hs,ho⟩:=(hv 5 (by omega)).2 (by decide);have g8:a.tmps[8]?=au (J q1 q2 q3):=((hv 5 (by omega)).1).trans (congrArg au hs);rw [hs] at ho;have hB:=H1.out.on hb;have hlt:=H1.out.lt;show Rg.fA _ _ _ 3 7 a w';simp only [Rg.fA];have c5x:=hB.cell 5;have f5x:=hB.fr 5;simp only [Y,ah,ak] at c5x;refine Rg.fI 41 (aC 9) (aC 5) rfl rfl rfl rfl (Rg.dH g9) (Rg.dH g5) (w':=(w').setCell ⟨b1,5,aj⟩ (J aj 0 0)) (by simp [go_sem,c5x,f5x]) ?_;have hB5:dI ((w').setCell ⟨b1,5,aj⟩ (J aj 0 0)) b1 #[U V k,U V tc,U V ts,U V ic,U V Dh,J aj 0 0,J po pn pc] 43:=by simpa using dO (k:=5) hB (J aj 0 0)
  refine Rg.dn rfl rfl (Rg.dN _ _ 43 (aC 1) 4 rfl (v:=Z (au ⟨b1,6,aj⟩)) (by rw [Rg.dH g1]; simp [go_sem])) ?_;have afW:(a.put (au 10) (Z (au ⟨b1,6,aj⟩))).tmps[10]?=au (Z (au ⟨b1,6,aj⟩)):=by simp [Act.put,sz']
  show Go.wpOp _ _ _ 9 _ (a.put (au 10) (Z (au ⟨b1,6,aj⟩))) _;have c6x:=hB5.cell 6;have f6x:=hB5.fr 6;simp only [Y,ah,ak] at c6x;refine Rg.fI 39 (aC 10) (aC 8) rfl rfl rfl rfl (Rg.dH afW) (Rg.dH ((Rg.get_put _ 10 _ 8 (by decide)).trans g8)) (w':=((w').setCell ⟨b1,5,aj⟩ (J aj 0 0)).setCell ⟨b1,6,aj⟩ (J q1 q2 q3)) (by simp [go_sem,c6x,f6x]) ?_;have hB6:dI (((w').setCell ⟨b1,5,aj⟩ (J aj 0 0)).setCell ⟨b1,6,aj⟩ (J q1 q2 q3)) b1 #[U V k,U V tc,U V ts,U V ic,U V Dh,J aj 0 0,J q1 q2 q3] 43:=by simpa using dO (k:=6) hB5 (J q1 q2 q3)
  have q8:∀ j,(j<3\/11<=j)->((a.put (au 10) (Z (au ⟨b1,6,aj⟩)))).tmps[j]?=(u0::Z (au ⟨b1,0,aj⟩)::u2::u3::u4::u5::u6::u7::u8::u9::u10::u11::[])[j]?:=fun j hj=>(Rg.get_put _ 10 _ j (by omega)).trans ((kp j (nd j (by omega))).trans Y);obtain⟨mid,hmid,hfr⟩:=Rg.fU (a:=(a.put (au 10) (Z (au ⟨b1,6,aj⟩)))) 3 8 df (by simp [Rg.size_put,sz']) (by simp) q8;show Q .normal ((a.put (au 10) (Z (au ⟨b1,6,aj⟩)))) _;rw [hfr]
  match mid,hmid with
  | [v3,v4,v5,v6,v7,v8,v9,v10],_ =>
   exact HQ.out _ _ _ _ _ _ _ _ _ q1 q2 q3 hB6 (dY (dY ho b1 5 (J aj 0 0) hlt) b1 6 (J q1 q2 q3) hlt) (fun B hBl=>(((hb.mono (Nat.le_of_lt (Nat.lt_of_le_of_lt hBl hlt))).setCell (p:=⟨b1,5,aj⟩) hBl (J aj 0 0)).setCell (p:=⟨b1,6,aj⟩) hBl (J q1 q2 q3))) (((But.of_below hb).trans (dR _ b1 5 _)).trans (dR _ b1 6 _))
theorem Xk (k tc ts ic Dh:Int) (pv:Sl) (p:List An) (w:aF) (hp:tX w (dP pv) p) (hl:p.length<=900) :
  aL aB 34 #[aP #[U V k,U V tc,U V ts,U V ic,U V Dh,J aj 0 0,dP pv]] w fun e w'=>(∃ s:Sl,e=aA (aP #[U V k,U V tc,U V ts,U V ic,U V Dh,J aj 0 0,dP s])/\DF w' w.heap.size (dP s) p)/\Below w.heap.size w w':=by
 obtain⟨po,pn,pc⟩:=pv;obtain⟨h0,h1,h2⟩:=gQ w #[U V k,U V tc,U V ts,U V ic,U V Dh,J aj 0 0,J po pn pc] #[U V 0,U V 0,U V 0,U V 0,U V 0,J aj 0 0,J aj 0 0] 43 43;have GB:=O h0;have X1:=O h1;have X2:=O h2;have HP:=O (hp.on h0);clear h0 h1 h2 hp;show aL aB 34 #[aP #[U V k,U V tc,U V ts,U V ic,U V Dh,J aj 0 0,J po pn pc]] w _;go_enter Tryz.func34,Tryz.ntmps34;go_upto_region 1 with fail;generalize (w.alloc (aG #[U V k,U V tc,U V ts,U V ic,U V Dh,J aj 0 0,J po pn pc] 43)).alloc (aG #[U V 0,U V 0,U V 0,U V 0,U V 0,J aj 0 0,J aj 0 0] 43)=W at *;refine afV _ W w.heap.size k tc ts ic Dh po pn pc p _ _ _ _ _ _ _ _ _ _ _ X1.out HP.out hl ?_;intro x v3 v4 v5 v6 v7 v8 v9 v10 q1 q2 q3 hbx ho hbl hbt;have Y1:=O hbx;have Y2:=O (hbt.box X2.out (by omega));have OO:=O (dG ho GB.out.size);have G2:=O (GB.out.trans (hbl w.heap.size (aN _)));clear hbx ho hbl hbt GB X1 X2 HP;obtain⟨x0,x1,x2,x3,x4,x5,x6⟩:=Y1.out.oq;obtain⟨r0,r1,r2,r3,r4,r5,r6⟩:=Y2.out.oq;obtain⟨t0,t1,t2,t3,t4,t5,t6⟩:=Y2.out.fs7;have zz:=Y2.out.lt;have FB:=O (Ce Y2.out (U V k) (U V tc) (U V ts) (U V ic) (U V Dh) (J aj 0 0) (J q1 q2 q3));have BL:=O (Ia (b:=w.heap.size+1) G2.out (by omega) (U V k) (U V tc) (U V ts) (U V ic) (U V Dh) (J aj 0 0) (J q1 q2 q3));have OX:=O ((TF x (w.heap.size+1) (U V k) (U V tc) (U V ts) (U V ic) (U V Dh) (J aj 0 0) (J q1 q2 q3)).own OO.out Y2.out (by decide));clear Y1 Y2 OO G2;go_wp2_with fail;obtain⟨v0,v1,v2,v3,v4,v5,v6⟩:=FB.out.oq;refine bodyPost_ret (v:=aP #[U V k,U V tc,U V ts,U V ic,U V Dh,J aj 0 0,J q1 q2 q3]) (by simp [results,Tryz.results34,go_sem,v0,v1,v2,v3,v4,v5,v6]) rfl ?_;exact⟨⟨(q1,q2,q3),rfl,OX.out⟩,BL.out⟩
def Ew (B:Nat) (_B0 b5:Nat) (_k0 _t1 _t2 x1 x2 n:Int) (po:Option aQ) (pn pc:Nat) (p:List An) (v0:aI) (_ly:List yX) (_L:List ((Int×eG)×List An)) (i:Nat) (v:aI) (x:aF):Prop :=
 match i with
 | 0=>v=v0
 | 1=>v=U V n
 | 2=>v=Z (au ⟨b5,3,aj⟩)
 | 3=>v=aP #[U V x1,U V x2]
 | 4=>v=Z (au ⟨b5,6,aj⟩)
 | 5=>v=J po pn pc
 | 6=>∃ s:Sl,v=dP s/\DF x B (dP s) p
 | 7=>∃ s:Sl,v=aP #[U V n,U V x1,U V x2,dP s]/\DF x B (dP s) p
 | 8=>∃ s:Sl,Gf x B v [(n,x1,x2,s)]/\DF x B (dP s) p
 | _=>True
noncomputable def Uo:Code:=((Tryz.f11.body.bind (eD 14)).getD .skip)
theorem Pq (B:Nat) (B0 b5:Nat) (k0 t1 t2 x1 x2 n:Int) (po:Option aQ) (pn pc:Nat) (p:List An) (v0:aI) (ly:List yX) (L:List ((Int×eG)×List An)) (i:Nat) (v:aI) (x x':aF) (h:Ew B B0 b5 k0 t1 t2 x1 x2 n po pn pc p v0 ly L i v x) (hb:Below x.heap.size x x'):Ew B B0 b5 k0 t1 t2 x1 x2 n po pn pc p v0 ly L i v x':=by
 by_cases hi:i<9
 ·rcases (by omega:i=0\/i=1\/i=2\/i=3\/i=4\/i=5\/i=6\/i=7\/i=8) with rfl|rfl|rfl|rfl|rfl|rfl|rfl|rfl|rfl
  ·exact h
  ·exact h
  ·exact h
  ·exact h
  ·exact h
  ·exact h
  ·obtain⟨s,h1,h2⟩:=h; exact⟨s,h1,Bk.dx h2 hb⟩
  ·obtain⟨s,h1,h2⟩:=h; exact⟨s,h1,Bk.dx h2 hb⟩
  ·obtain⟨s,h1,h2⟩:=h; exact⟨s,Bk.dx h1 hb,Bk.dx h2 hb⟩
 ·unfold Ew
  split <;> first | omega | trivial
theorem adT (Q:Exit->Act->aF->Prop) (W:aF) (B0 b5:Nat) (k0 t1 t2 x1 x2 n:Int) (po:Option aQ) (pn pc:Nat) (p:List An) (v0:aI) (ly:List yX) (L:List ((Int×eG)×List An)) (u0 u1 u2 u3 u4 u6 u7 u8 u9 u10 u11 u12 u14 u16 u17 u18 u19 u20 u21 u22 u23 u24 u25 u26 u27 u28 u29 u30 u31 u32 u33 u34 u35 u36 u37 u38 u39 u40 u41 u42 u43 u44 u45 u46 u47 u48 u49 u50 u51 u52 u53 u54 u55 u56 u57 u58 u59 u60 u61 u62 u63 u64 u65 u66 u67 u68 u69 u70 u71:aI)
  (h5:dI W b5 #[U V k0,U V t1,U V t2,U V x1,U V x2,J aj 0 0,J po pn pc] 43) (r5:tX W (J po pn pc) p) (l5:p.length<=900) (ov:Gf W B0 v0 ly) (al:eu (IU W B0) ly L) (hb0:B0<=W.heap.size) (ln:ly.length<=900)
  (hQ:∀ (x:aF) (w13:aI) (v59 v60 v61 v62 v63 v64 v65 v66 v67 v68:aI) (q:Sl),Gf x B0 w13 (ly++[(n,x1,x2,q)])->eu (IU x B0) (ly++[(n,x1,x2,q)]) (L++[((n,(x1,x2)),p)])->Below B0 W x->Q .normal ⟨(u0::u1::u2::u3::u4::Z (au ⟨b5,0,aj⟩)::u6::u7::u8::u9::u10::u11::u12::w13::u14::U V n::u16::u17::u18::u19::u20::u21::u22::u23::u24::u25::u26::u27::u28::u29::u30::u31::u32::u33::u34::u35::u36::u37::u38::u39::u40::u41::u42::u43::u44::u45::u46::u47::u48::u49::u50::u51::u52::u53::u54::u55::u56::u57::u58::v59::v60::v61::v62::v63::v64::v65::v66::v67::v68::u69::u70::u71::[]).toArray,[]⟩ x) :
  Code.wp aB Uo Q ⟨(u0::u1::u2::u3::u4::Z (au ⟨b5,0,aj⟩)::u6::u7::u8::u9::u10::u11::u12::v0::u14::U V n::u16::u17::u18::u19::u20::u21::u22::u23::u24::u25::u26::u27::u28::u29::u30::u31::u32::u33::u34::u35::u36::u37::u38::u39::u40::u41::u42::u43::u44::u45::u46::u47::u48::u49::u50::u51::u52::u53::u54::u55::u56::u57::u58::u59::u60::u61::u62::u63::u64::u65::u66::u67::u68::u69::u70::u71::[]).toArray,[]⟩ W:=by
 have HQ:=O hQ;have H5:=O h5;have R5:=O r5;have L5:=O l5;have OV:=O ov;have AL:=O al;have HB:=O hb0;have LN:=O ln;clear hQ h5 r5 l5 ov al hb0 ln;have iM:=Pq W.heap.size B0 b5 k0 t1 t2 x1 x2 n po pn pc p v0 ly L;unfold Uo
 conv=>arg 2; whnf
 have nd:∀ j,(∀ i,i<9->[59,60,61,62,63,64,65,66,67].getD i 0≠j)->∀ i,i<9->(fun i=>[59,60,61,62,63,64,65,66,67].getD i 0) i≠j:=fun j h=>h;refine Rg.fH 11 9 (fun i=>[59,60,61,62,63,64,65,66,67].getD i 0) (fun _=>9) (Ew W.heap.size B0 b5 k0 t1 t2 x1 x2 n po pn pc p v0 ly L) (by kernel_rfl) (by kernel_rfl) rfl (by decide) (fun i j hi hj h=>(by decide:∀ i,i<9->∀ j,j<9->[59,60,61,62,63,64,65,66,67].getD i 0=[59,60,61,62,63,64,65,66,67].getD j 0->i=j) i hi j hj h) (fun i hi=>(by decide:∀ i,i<9->[59,60,61,62,63,64,65,66,67].getD i 0<72) i hi) ?_ (fun _=>Rg.iY 14 (by kernel_rfl)) ?_ ?_
 ·intro i o hi ho a x D hnd hc hD hb seen K hK;clear HQ;rcases (by omega:i=0\/i=1\/i=2\/i=3\/i=4\/i=5\/i=6\/i=7\/i=8) with rfl|rfl|rfl|rfl|rfl|rfl|rfl|rfl|rfl
  ·cases ho;have e13:a.eval (aC 13)=v0:=seen.kp 13 _ (nd 13 (by decide)) rfl;exact Rg.dn rfl rfl (Rg.fQ a.eval _ (aC 13) rfl x) (hK _ _ e13 (ay _ _) fun _ _ _ _ _ _ _ h=>h)
  ·cases ho;have e15:a.eval (aC 15)=U V n:=seen.kp 15 _ (nd 15 (by decide)) rfl;exact Rg.dn rfl rfl (Rg.fQ a.eval _ (aC 15) rfl x) (hK _ _ e15 (ay _ _) fun _ _ _ _ _ _ _ h=>h)
  ·cases ho;have e5:a.eval (aC 5)=Z (au ⟨b5,0,aj⟩):=seen.kp 5 _ (nd 5 (by decide)) rfl;exact Rg.dn rfl rfl (Rg.dN a.eval _ 43 (aC 5) 2 rfl (by rw [e5]; simp [go_sem])) (hK _ _ rfl (ay _ _) fun _ _ _ _ _ _ _ h=>h)
  ·cases ho;have e61:a.eval (aC 61)=Z (au ⟨b5,3,aj⟩):=seen.at_ ⟨2,.data⟩ (by simp) rfl (aH (by decide));have y3:=(H5.out.on hb).cell 3;have y4:=(H5.out.on hb).cell 4;simp only [Y,ah,ak] at y3 y4;exact Rg.dn rfl rfl (Rg.dW a.eval _ 38 (aC 61) rfl (by rw [e61]; simp [go_sem,y3,y4])) (hK _ _ rfl (ay _ _) fun _ _ _ _ _ _ _ h=>h)
  ·cases ho;have e5:a.eval (aC 5)=Z (au ⟨b5,0,aj⟩):=seen.kp 5 _ (nd 5 (by decide)) rfl;exact Rg.dn rfl rfl (Rg.dN a.eval _ 43 (aC 5) 4 rfl (by rw [e5]; simp [go_sem])) (hK _ _ rfl (ay _ _) fun _ _ _ _ _ _ _ h=>h)
  ·cases ho;have e63:a.eval (aC 63)=Z (au ⟨b5,6,aj⟩):=seen.at_ ⟨4,.data⟩ (by simp) rfl (aH (by decide));have y6:=(H5.out.on hb).cell 6;simp only [Y,ah,ak] at y6;exact Rg.dn rfl rfl (Rg.dW a.eval _ 39 (aC 63) rfl (by rw [e63]; simp [go_sem,y6])) (hK _ _ rfl (ay _ _) fun _ _ _ _ _ _ _ h=>h)
  ·cases ho;have e64:a.eval (aC 64)=J po pn pc:=seen.at_ ⟨5,.data⟩ (by simp) rfl (aH (by decide));exact Rg.gI rfl rfl (Rw.iJ a.eval _ (aC 64) 39 35 rfl e64 rfl _ (fV aK rfl rfl _ _)) (Ab (po,pn,pc) p x (R5.out.on hb) L5.out) fun e w1 h=>by
    obtain⟨⟨s,rfl,h1⟩,h3⟩:=h;exact⟨_,rfl,hK _ _ ⟨s,rfl,dG h1 hb.size⟩ (h3.mono hb.size) fun j u hj _ _ _ hne h=>iM j u _ _ h h3⟩
  ·cases ho;have e60:a.eval (aC 60)=U V n:=seen.at_ ⟨1,.data⟩ (by simp) rfl (aH (by decide));have e62:a.eval (aC 62)=aP #[U V x1,U V x2]:=seen.at_ ⟨3,.data⟩ (by simp) rfl (aH (by decide));have E65:=seen.at_ ⟨6,.data⟩ (by simp) rfl (aH (by decide));obtain⟨s,q0,q1⟩:=E65;have q0:a.eval (aC 65)=dP s:=q0;exact Rg.dn rfl rfl (Rg.jN a.eval _ 65 #[(0,aC 60),(1,aC 62),(2,aC 65)] rfl (by simp only [List.map_toArray,List.map_cons,List.map_nil,e60,e62,q0]; rfl) (v:=aP #[U V n,U V x1,U V x2,dP s]) (by simp [go_sem])) (hK _ _ ⟨s,rfl,q1⟩ (ay _ _) fun _ _ _ _ _ _ _ h=>h)
  ·cases ho;have E66:=seen.at_ ⟨7,.data⟩ (by simp) rfl (aH (by decide));obtain⟨s,q0,q1⟩:=E66;have q0:a.eval (aC 66)=aP #[U V n,U V x1,U V x2,dP s]:=q0;have hl:=gZ okG x [(n,x1,x2,s)] 1 rfl (by simp) (wD (n,x1,x2,s)).toArray (by simp [flat,EG]);have nb:=fO x (aG (wD (n,x1,x2,s)).toArray 65);exact Rg.dn rfl rfl (Rg.iI a.eval _ 45 1 #[(0,aC 66)] rfl (ps:=#[(0,aaL (n,x1,x2,s))]) (by simp [q0]) (by simp [go_sem])) (hK (J (au ⟨x.heap.size,0,aj⟩) 1 1) (x.alloc (aG (wD (n,x1,x2,s)).toArray 65)) ⟨s,dG hl hb.size,Bk.dx q1 nb⟩ (nb.mono hb.size) fun j u _ _ _ _ _ h=>iM j u _ _ h nb)
 ·intro kk o h1 h2 ho;rcases (by omega:kk=10) with rfl
  ·cases ho;exact⟨⟨9,.data⟩,by simp,rfl,rfl⟩
 ·intro a w' df sz kp ⟨vs,hv⟩ hb;have sz':a.tmps.size=72:=sz;have g59:a.tmps[59]?=au (v0):=by
   have h:vs 0=v0:=(hv 0 (by omega)).2 (by decide);rw [<- h];exact (hv 0 (by omega)).1
  have g67:a.tmps[67]?=au (vs 8):=(hv 8 (by omega)).1;have G67:=(hv 8 (by omega)).2 (by decide);obtain⟨⟨q1,q2,q3⟩,o67,ho⟩:=G67;obtain⟨v',x',r',o',a',bl⟩:=Xg (n,x1,x2,(q1,q2,q3)) ((n,(x1,x2)),p) (Bk.dx OV.out hb) (Row.dw o67) (AL.out.mono fun _ _ q=>q.on hb) ⟨rfl,rfl,dG ho HB.out⟩ (by have:=LN.out; omega) (aD HB.out hb.size) (hb.mono HB.out);show Rg.fA _ _ _ 2 9 a w';simp only [Rg.fA];refine Rg.dn rfl rfl (Rg.fJ _ _ (aC 59) (aC 67) 45 rfl (Rg.dH g59) (Rg.dH g67) r') ?_;show Go.wpOp _ _ _ 10 _ (a.put (au 68) v') _;refine Rg.dn rfl rfl (Rg.kR _ _ (aC 68) rfl _) ?_;rw [show (a.put (au 68) v').eval (aC 68)=v' from Rg.dH (by simp [Act.put,sz'])];show Q .normal ((a.put (au 68) v').put (au 13) v') x';have ka:∀ j,j≠68->j≠13->((a.put (au 68) v').put (au 13) v').tmps[j]?=a.tmps[j]?:=fun j h1 h2=>by rw [Rg.get_put _ _ _ _ (by omega),Rg.get_put _ _ _ _ (by omega)]
  have kt:((a.put (au 68) v').put (au 13) v').tmps[13]?=au (v'):=by simp [Act.put,sz']
  have q8:∀ j,(j<59\/69<=j)->((a.put (au 68) v').put (au 13) v').tmps[j]?=(u0::u1::u2::u3::u4::Z (au ⟨b5,0,aj⟩)::u6::u7::u8::u9::u10::u11::u12::v'::u14::U V n::u16::u17::u18::u19::u20::u21::u22::u23::u24::u25::u26::u27::u28::u29::u30::u31::u32::u33::u34::u35::u36::u37::u38::u39::u40::u41::u42::u43::u44::u45::u46::u47::u48::u49::u50::u51::u52::u53::u54::u55::u56::u57::u58::u59::u60::u61::u62::u63::u64::u65::u66::u67::u68::u69::u70::u71::[])[j]?:=fun j hj=>by
   by_cases hj2:j=13
   ·subst hj2;exact kt
   ·have hs:(u0::u1::u2::u3::u4::Z (au ⟨b5,0,aj⟩)::u6::u7::u8::u9::u10::u11::u12::v'::u14::U V n::u16::u17::u18::u19::u20::u21::u22::u23::u24::u25::u26::u27::u28::u29::u30::u31::u32::u33::u34::u35::u36::u37::u38::u39::u40::u41::u42::u43::u44::u45::u46::u47::u48::u49::u50::u51::u52::u53::u54::u55::u56::u57::u58::u59::u60::u61::u62::u63::u64::u65::u66::u67::u68::u69::u70::u71::[]:List aI)=(u0::u1::u2::u3::u4::Z (au ⟨b5,0,aj⟩)::u6::u7::u8::u9::u10::u11::u12::v0::u14::U V n::u16::u17::u18::u19::u20::u21::u22::u23::u24::u25::u26::u27::u28::u29::u30::u31::u32::u33::u34::u35::u36::u37::u38::u39::u40::u41::u42::u43::u44::u45::u46::u47::u48::u49::u50::u51::u52::u53::u54::u55::u56::u57::u58::u59::u60::u61::u62::u63::u64::u65::u66::u67::u68::u69::u70::u71::[]).set 13 (v'):=rfl;rw [hs,List.getElem?_set_ne (Ne.symm hj2)];exact (ka j (by omega) hj2).trans ((kp j (nd j fun i hi h=>by have:=(by decide:∀ i,i<9->59<=[59,60,61,62,63,64,65,66,67].getD i 0/\[59,60,61,62,63,64,65,66,67].getD i 0<69) i hi; omega)).trans Y)
  obtain⟨mid,hmid,hfr⟩:=Rg.fU (a:=(a.put (au 68) v').put (au 13) v') 59 10 (by simp [Act.put,df]) (by simp [Act.put,sz']) (by simp) q8;rw [hfr]
  match mid,hmid with
  | [v59,v60,v61,v62,v63,v64,v65,v66,v67,v68],_ =>
   exact HQ.out x' _ _ _ _ _ _ _ _ _ _ _ (q1,q2,q3) o' a' bl
end Ca
namespace Rg
open Go.RowKit Rw Av
end Rg
end Go.Proofs.YtkcfgbddlpomgaaGreat
