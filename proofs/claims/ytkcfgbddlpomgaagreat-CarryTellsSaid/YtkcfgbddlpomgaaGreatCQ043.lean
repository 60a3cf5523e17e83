/-
  Clients of package c. Conditions as told.
-/
import Derived.Test.YtkcfgbddlpomgaaGreatCQ042
set_option maxRecDepth 100000
set_option maxHeartbeats 64000000
open Go.IntKind renaming i64->ah
open Go.Lib renaming hid->J
open Go.Operand renaming tmp->ay
open Go.RowKit.Below renaming refl->ak
open Go.Value renaming slice->V,int->Z,pointer->aj,agg->aD
open _root_.List renaming getElem?_toArray->O,getElem?_cons_zero->U,getElem?_cons_succ->Y,getElem?_eq_getElem->aA
open _root_.Nat renaming le_trans->aB
open _root_.Option renaming some->au,none->aC
namespace Go.Proofs.YtkcfgbddlpomgaaGreat.Ca
open Go.RowKit Go.Sort Rw YtkcfgbddlpomgaaGreat.Nm Pr Bk Av Rl Sb Fl
theorem WM (b:Br) (nv av sv ev ov:Sl) (lv:Sl) (l:List An) (w:World) (h:gZ w b nv av sv ev ov) (hc:xO b) (hl:mF w (dK lv) l) (hn:NL l) :
  Calls Tryz.prog 19 #[nG b.me nv av sv ev ov,dK lv] w fun e w'=>(∃ o:Sl,e=.returned (dK o)/\mq w' w.heap.size (dK o) (uY b l))/\Below w.heap.size w w':=by
 obtain⟨no,nn,nc⟩:=nv;obtain⟨ao,an,ac⟩:=av;obtain⟨so,sn,sc⟩:=sv;obtain⟨eo,en,ec⟩:=ev;obtain⟨oo,z2,oc⟩:=ov;obtain⟨lo,ln,lc⟩:=lv;obtain⟨lb,he1,he2⟩:=h.own;have h0:=fT w (.cells #[Z ah b.me,V no nn nc,V ao an ac,V so sn sc,V eo en ec,V oo z2 oc] 33);have X:=dI w #[Z ah b.me,V no nn nc,V ao an ac,V so sn sc,V eo en ec,V oo z2 oc] 33;have B1:=J h0;have x5:=X.cell 5;simp only [O,U,Y] at x5;have R1:=J (he1.on h0);have R2:=J (he2.mono fun _ _ q=>q.on h0);have LL:=J (hl.on h0);have NLL:=J hn;have HM:=J (show b.own.length<=900 from hc.few.own);have OK:=J (show ∀ e∈b.own,dM e.p from hc.po);have TI:=J (fun (r:List Int) (h1:r.Pairwise (·<·)) (h2:∀ x,x∈r↔x∈og b.own l)=>ac4 hc (l:=l) h1 h2);have hnl:lb.length=z2:=rY he1;have HN:=J hnl;have hz:z2<=900:=by have:=he2.len; have:=HM.out; omega
 generalize uY b l=res at *;generalize b.own=mb at *;clear X h hc hl hn h0 he1 he2 hnl;go_enter Tryz.func19,Tryz.ntmps19;go_upto_region 1 with fail;generalize w.alloc (.cells #[Z ah b.me,V no nn nc,V ao an ac,V so sn sc,V eo en ec,V oo z2 oc] 33)=w1 at *;go_wp2
 go_loopw [5,11] (fun v i wr=>∃ k:Nat,k<=z2/\i=Z ah k/\Below w1.heap.size w1 wr/\mq wr w1.heap.size v (og (mb.take k) l)) (fun _ i _=>z2-(intOf i).toNat)
 case atStart=>exact⟨0,Nat.zero_le _,rfl,ak _ _,fF _ _⟩
 case round =>
  obtain⟨k,hk,rfl,hbe,hown⟩:=hrel;have BE:=J hbe;have OE:=J hown;clear hbe hown x5;by_cases hlt:k<z2
  ·obtain⟨y,hy⟩:∃ y,lb[k]?=au y:=⟨_,aA (by rw [HN.out]; exact hlt)⟩;obtain⟨q,ix,px⟩:=elW R1.out rfl HN.out hy;obtain⟨p0,p1,p2⟩:=px wr BE.out;obtain⟨e,he⟩:∃ e,mb[k]?=au e:=⟨_,aA (by rw [<- R2.out.len,HN.out]; exact hlt)⟩;obtain⟨y',hy',hin⟩:=R2.out.at k e he;rw [hy] at hy';obtain rfl:=Option.some.inj hy';obtain⟨y1,y2,⟨yo,yn,yc⟩⟩:=y;simp only at p0 p1 p2;have NB:=J (fT wr (.cells #[Z ah y1,Z ah y2,V yo yn yc] 61));have BF:=J (BE.out.trans (NB.out.mono BE.out.size));have hx:=dI wr #[Z ah y1,Z ah y2,V yo yn yc] 61;have hw3:IntKind.i64.wrap ((k:Int)+1)=(k:Int)+1:=IntWalk.i64_in _ (by omega);have HF:=J (show y1=e.id.1 from congrArg Prod.fst hin.1);have HE:=J he;have OB:=J (Bk.dh OE.out NB.out);have MA:=J (Mg (V yo yn yc) (V lo ln lc) e.p l _ (hin.2.on BF.out) (LL.out.on BF.out) (OK.out e (List.mem_of_getElem? he)) NLL.out);have BX:=J hx;have v2:=hx.cell 2;simp only [O,U,Y] at v2;obtain⟨g,hg⟩:∃ g,rz e.p l=g:=⟨_,rfl⟩;rw [hg] at MA;have HG:=J hg;clear px hy he hin hx hg;go_wp2_with fail;refine MA.out.mono ?_;rintro e3 w3 ⟨rfl,hb⟩;have BG:=J (BF.out.trans (hb.mono BF.out.size));have OC:=J (Bk.dh OB.out hb);have u0:=(BX.out.on hb).cell 0;simp only [O,U] at u0;clear hb MA v2 BF OB NB p0 p1 p2 ix;cases g
   ·have E2:=J (Ue (l:=l) HE.out HG.out);go_wp2
    go_roundw
    case rel=>exact⟨k+1,by omega,by go_num,BG.out,by rw [E2.out]; exact OC.out⟩
    case measure=>simp [intOf]; omega
   ·have E2:=J (Pb (l:=l) HE.out HG.out);have hl9:(og (mb.take k) l).length<=900:=aB (Dr _ _) (aB (List.length_take_le _ _) (by omega));obtain⟨v',w',r',o',bl⟩:=Mh y1 OC.out (by omega) BG.out.size BG.out;have O2:=J o';have B2:=J bl;clear hl9 o' bl BX;go_wp2_with (first | (at_builtin; refine wpList_append_run rfl _ _ 25 rfl rfl rfl r' ?_) | fail)
    go_roundw
    case rel=>exact⟨k+1,by omega,by go_num,B2.out,by rw [E2.out,<- HF.out]; exact O2.out⟩
    case measure=>simp [intOf]; omega
  ·obtain rfl:z2=k:=by omega
   have e:mb.take z2=mb:=List.take_of_length_le (by have:=HN.out; have:=R2.out.len; omega);rw [e] at OE;obtain⟨Ao,Ap,hv⟩:=(Row.dn OE.out).len;subst hv;have CR:=J (Dp wr w1.heap.size (Ao,_,Ap) _ OE.out (aB (Dr _ _) HM.out) BE.out.size);clear e;generalize (og mb l).length=nn9 at *;go_wp2_with fail;refine CR.out.mono ?_;rintro e4 w4 ⟨⟨⟨r1,r2,r3⟩,lr,rfl,ho,hs,hm⟩,hb⟩;have Q:=J (show (∃ o:Sl,Ending.returned (V r1 r2 r3)=.returned (dK o)/\mq w4 w.heap.size (dK o) res)/\Below w.heap.size w w4 from ⟨⟨(r1,r2,r3),rfl,by rw [<- TI.out lr hs hm]; exact dx ho B1.out.size⟩,B1.out.trans ((BE.out.trans hb).mono B1.out.size)⟩);clear ho hs hm hb CR TI;go_wp2;go_ret;exact Q.out
def Ey (B:Nat) (_B0 b5:Nat) (_k0 _t1 _t2 x1 x2 n:Int) (po:Option Addr) (pn pc:Nat) (p:List An) (v0:Value) (_ly:List yj) (_L:List ((Int×eF)×List An)) (i:Nat) (v:Value) (x:World):Prop :=
 match i with
 | 0=>v=v0
 | 1=>v=Z ah n
 | 2=>v=aj (au ⟨b5,3,aC⟩)
 | 3=>v=aD #[Z ah x1,Z ah x2]
 | 4=>v=aj (au ⟨b5,6,aC⟩)
 | 5=>v=V po pn pc
 | 6=>∃ s:Sl,v=dK s/\xJ x B (dK s) p
 | 7=>∃ s:Sl,v=aD #[Z ah n,Z ah x1,Z ah x2,dK s]/\xJ x B (dK s) p
 | 8=>∃ s:Sl,zl x B v [(n,x1,x2,s)]/\xJ x B (dK s) p
 | _=>True
noncomputable def Ui:Code:=((Tryz.f11.body.bind (eu 14)).getD .skip)
theorem Ph (B:Nat) (B0 b5:Nat) (k0 t1 t2 x1 x2 n:Int) (po:Option Addr) (pn pc:Nat) (p:List An) (v0:Value) (ly:List yj) (L:List ((Int×eF)×List An)) (i:Nat) (v:Value) (x x':World) (h:Ey B B0 b5 k0 t1 t2 x1 x2 n po pn pc p v0 ly L i v x) (hb:Below x.heap.size x x'):Ey B B0 b5 k0 t1 t2 x1 x2 n po pn pc p v0 ly L i v x':=by
 by_cases hi:i<9
 ·rcases (by omega:i=0\/i=1\/i=2\/i=3\/i=4\/i=5\/i=6\/i=7\/i=8) with rfl|rfl|rfl|rfl|rfl|rfl|rfl|rfl|rfl
  ·exact h
  ·exact h
  ·exact h
  ·exact h
  ·exact h
  ·exact h
  ·obtain⟨s,h1,h2⟩:=h; exact⟨s,h1,Bk.dh h2 hb⟩
  ·obtain⟨s,h1,h2⟩:=h; exact⟨s,h1,Bk.dh h2 hb⟩
  ·obtain⟨s,h1,h2⟩:=h; exact⟨s,Bk.dh h1 hb,Bk.dh h2 hb⟩
 ·unfold Ey
  split <;> first | omega | trivial
theorem ac5 (Q:Exit->Act->World->Prop) (W:World) (B0 b5:Nat) (k0 t1 t2 x1 x2 n:Int) (po:Option Addr) (pn pc:Nat) (p:List An) (v0:Value) (ly:List yj) (L:List ((Int×eF)×List An)) (u0 u1 u2 u3 u4 u6 u7 u8 u9 u10 u11 u12 u14 u16 u17 u18 u19 u20 u21 u22 u23 u24 u25 u26 u27 u28 u29 u30 u31 u32 u33 u34 u35 u36 u37 u38 u39 u40 u41 u42 u43 u44 u45 u46 u47 u48 u49 u50 u51 u52 u53 u54 u55 u56 u57 u58 u59 u60 u61 u62 u63 u64 u65 u66 u67 u68 u69 u70 u71:Value)
  (h5:dG W b5 #[Z ah k0,Z ah t1,Z ah t2,Z ah x1,Z ah x2,V aC 0 0,V po pn pc] 43) (r5:mF W (V po pn pc) p) (l5:p.length<=900) (ov:zl W B0 v0 ly) (al:dX (IJ W B0) ly L) (hb0:B0<=W.heap.size) (ln:ly.length<=900)
  (hQ:∀ (x:World) (w13:Value) (v59 v60 v61 v62 v63 v64 v65 v66 v67 v68:Value) (q:Sl),zl x B0 w13 (ly++[(n,x1,x2,q)])->dX (IJ x B0) (ly++[(n,x1,x2,q)]) (L++[((n,(x1,x2)),p)])->Below B0 W x->Q .normal ⟨(u0::u1::u2::u3::u4::aj (au ⟨b5,0,aC⟩)::u6::u7::u8::u9::u10::u11::u12::w13::u14::Z ah n::u16::u17::u18::u19::u20::u21::u22::u23::u24::u25::u26::u27::u28::u29::u30::u31::u32::u33::u34::u35::u36::u37::u38::u39::u40::u41::u42::u43::u44::u45::u46::u47::u48::u49::u50::u51::u52::u53::u54::u55::u56::u57::u58::v59::v60::v61::v62::v63::v64::v65::v66::v67::v68::u69::u70::u71::[]).toArray,[]⟩ x) :
  Code.wp Tryz.prog Ui Q ⟨(u0::u1::u2::u3::u4::aj (au ⟨b5,0,aC⟩)::u6::u7::u8::u9::u10::u11::u12::v0::u14::Z ah n::u16::u17::u18::u19::u20::u21::u22::u23::u24::u25::u26::u27::u28::u29::u30::u31::u32::u33::u34::u35::u36::u37::u38::u39::u40::u41::u42::u43::u44::u45::u46::u47::u48::u49::u50::u51::u52::u53::u54::u55::u56::u57::u58::u59::u60::u61::u62::u63::u64::u65::u66::u67::u68::u69::u70::u71::[]).toArray,[]⟩ W:=by
 have HQ:=J hQ;have H5:=J h5;have R5:=J r5;have L5:=J l5;have OV:=J ov;have AL:=J al;have HB:=J hb0;have LN:=J ln;clear hQ h5 r5 l5 ov al hb0 ln;have iJ:=Ph W.heap.size B0 b5 k0 t1 t2 x1 x2 n po pn pc p v0 ly L;unfold Ui
 conv=>arg 2; whnf
 have nd:∀ j,(∀ i,i<9->[59,60,61,62,63,64,65,66,67].getD i 0≠j)->∀ i,i<9->(fun i=>[59,60,61,62,63,64,65,66,67].getD i 0) i≠j:=fun j h=>h;refine Rg.fH 11 9 (fun i=>[59,60,61,62,63,64,65,66,67].getD i 0) (fun _=>9) (Ey W.heap.size B0 b5 k0 t1 t2 x1 x2 n po pn pc p v0 ly L) (by kernel_rfl) (by kernel_rfl) rfl (by decide) (fun i j hi hj h=>(by decide:∀ i,i<9->∀ j,j<9->[59,60,61,62,63,64,65,66,67].getD i 0=[59,60,61,62,63,64,65,66,67].getD j 0->i=j) i hi j hj h) (fun i hi=>(by decide:∀ i,i<9->[59,60,61,62,63,64,65,66,67].getD i 0<72) i hi) ?_ (fun _=>Rg.iW 14 (by kernel_rfl)) ?_ ?_
 ·intro i o hi ho a x D hnd hc hD hb seen K hK;clear HQ;rcases (by omega:i=0\/i=1\/i=2\/i=3\/i=4\/i=5\/i=6\/i=7\/i=8) with rfl|rfl|rfl|rfl|rfl|rfl|rfl|rfl|rfl
  ·cases ho;have e13:a.eval (ay 13)=v0:=seen.kp 13 _ (nd 13 (by decide)) rfl;exact Rg.cZ rfl rfl (Rg.fJ a.eval _ (ay 13) rfl x) (hK _ _ e13 (ak _ _) fun _ _ _ _ _ _ _ h=>h)
  ·cases ho;have e15:a.eval (ay 15)=Z ah n:=seen.kp 15 _ (nd 15 (by decide)) rfl;exact Rg.cZ rfl rfl (Rg.fJ a.eval _ (ay 15) rfl x) (hK _ _ e15 (ak _ _) fun _ _ _ _ _ _ _ h=>h)
  ·cases ho;have e5:a.eval (ay 5)=aj (au ⟨b5,0,aC⟩):=seen.kp 5 _ (nd 5 (by decide)) rfl;exact Rg.cZ rfl rfl (Rg.dJ a.eval _ 43 (ay 5) 2 rfl (by rw [e5]; simp [go_sem])) (hK _ _ rfl (ak _ _) fun _ _ _ _ _ _ _ h=>h)
  ·cases ho;have e61:a.eval (ay 61)=aj (au ⟨b5,3,aC⟩):=seen.at_ ⟨2,.data⟩ (by simp) rfl (Or.inr (by decide));have y3:=(H5.out.on hb).cell 3;have y4:=(H5.out.on hb).cell 4;simp only [O,U,Y] at y3 y4;exact Rg.cZ rfl rfl (Rg.dR a.eval _ 38 (ay 61) rfl (by rw [e61]; simp [go_sem,y3,y4])) (hK _ _ rfl (ak _ _) fun _ _ _ _ _ _ _ h=>h)
  ·cases ho;have e5:a.eval (ay 5)=aj (au ⟨b5,0,aC⟩):=seen.kp 5 _ (nd 5 (by decide)) rfl;exact Rg.cZ rfl rfl (Rg.dJ a.eval _ 43 (ay 5) 4 rfl (by rw [e5]; simp [go_sem])) (hK _ _ rfl (ak _ _) fun _ _ _ _ _ _ _ h=>h)
  ·cases ho;have e63:a.eval (ay 63)=aj (au ⟨b5,6,aC⟩):=seen.at_ ⟨4,.data⟩ (by simp) rfl (Or.inr (by decide));have y6:=(H5.out.on hb).cell 6;simp only [O,U,Y] at y6;exact Rg.cZ rfl rfl (Rg.dR a.eval _ 39 (ay 63) rfl (by rw [e63]; simp [go_sem,y6])) (hK _ _ rfl (ak _ _) fun _ _ _ _ _ _ _ h=>h)
  ·cases ho;have e64:a.eval (ay 64)=V po pn pc:=seen.at_ ⟨5,.data⟩ (by simp) rfl (Or.inr (by decide));exact Rg.gq rfl rfl (Rw.gY a.eval _ (ay 64) 39 35 rfl e64 rfl _ (fK Tryz.func35 rfl rfl _ _)) (Ah (po,pn,pc) p x (R5.out.on hb) L5.out) fun e w1 h=>by
    obtain⟨⟨s,rfl,h1⟩,h3⟩:=h;exact⟨_,rfl,hK _ _ ⟨s,rfl,dx h1 hb.size⟩ (h3.mono hb.size) fun j u hj _ _ _ hne h=>iJ j u _ _ h h3⟩
  ·cases ho;have e60:a.eval (ay 60)=Z ah n:=seen.at_ ⟨1,.data⟩ (by simp) rfl (Or.inr (by decide));have e62:a.eval (ay 62)=aD #[Z ah x1,Z ah x2]:=seen.at_ ⟨3,.data⟩ (by simp) rfl (Or.inr (by decide));have E65:=seen.at_ ⟨6,.data⟩ (by simp) rfl (Or.inr (by decide));obtain⟨s,q0,q1⟩:=E65;have q0:a.eval (ay 65)=dK s:=q0;exact Rg.cZ rfl rfl (Rg.iM a.eval _ 65 #[(0,ay 60),(1,ay 62),(2,ay 65)] rfl (by simp only [List.map_toArray,List.map_cons,List.map_nil,e60,e62,q0]; rfl) (v:=aD #[Z ah n,Z ah x1,Z ah x2,dK s]) (by simp [go_sem])) (hK _ _ ⟨s,rfl,q1⟩ (ak _ _) fun _ _ _ _ _ _ _ h=>h)
  ·cases ho;have E66:=seen.at_ ⟨7,.data⟩ (by simp) rfl (Or.inr (by decide));obtain⟨s,q0,q1⟩:=E66;have q0:a.eval (ay 66)=aD #[Z ah n,Z ah x1,Z ah x2,dK s]:=q0;have hl:=gH okG x [(n,x1,x2,s)] 1 rfl (by simp) (wM (n,x1,x2,s)).toArray (by simp [flat,EG]);have nb:=fT x (.cells (wM (n,x1,x2,s)).toArray 65);exact Rg.cZ rfl rfl (Rg.iG a.eval _ 45 1 #[(0,ay 66)] rfl (ps:=#[(0,aat (n,x1,x2,s))]) (by simp [q0]) (by simp [go_sem])) (hK (V (au ⟨x.heap.size,0,aC⟩) 1 1) (x.alloc (.cells (wM (n,x1,x2,s)).toArray 65)) ⟨s,dx hl hb.size,Bk.dh q1 nb⟩ (nb.mono hb.size) fun j u _ _ _ _ _ h=>iJ j u _ _ h nb)
 ·intro kk o h1 h2 ho;rcases (by omega:kk=10) with rfl
  ·cases ho;exact⟨⟨9,.data⟩,by simp,rfl,rfl⟩
 ·intro a w' df sz kp ⟨vs,hv⟩ hb;have sz':a.tmps.size=72:=sz;have g59:a.tmps[59]?=au (v0):=by
   have h:vs 0=v0:=(hv 0 (by omega)).2 (by decide);rw [<- h];exact (hv 0 (by omega)).1
  have g67:a.tmps[67]?=au (vs 8):=(hv 8 (by omega)).1;have G67:=(hv 8 (by omega)).2 (by decide);obtain⟨⟨q1,q2,q3⟩,o67,ho⟩:=G67;obtain⟨v',x',r',o',a',bl⟩:=WK (n,x1,x2,(q1,q2,q3)) ((n,(x1,x2)),p) (Bk.dh OV.out hb) (Row.dn o67) (AL.out.mono fun _ _ q=>q.on hb) ⟨rfl,rfl,dx ho HB.out⟩ (by have:=LN.out; omega) (aB HB.out hb.size) (hb.mono HB.out);show Rg.fu _ _ _ 2 9 a w';simp only [Rg.fu];refine Rg.cZ rfl rfl (Rg.fM _ _ (ay 59) (ay 67) 45 rfl (Rg.dD g59) (Rg.dD g67) r') ?_;show Go.wpOp _ _ _ 10 _ (a.put (au 68) v') _;refine Rg.cZ rfl rfl (Rg.kM _ _ (ay 68) rfl _) ?_;rw [show (a.put (au 68) v').eval (ay 68)=v' from Rg.dD (by simp [Act.put,sz'])];show Q .normal ((a.put (au 68) v').put (au 13) v') x';have ka:∀ j,j≠68->j≠13->((a.put (au 68) v').put (au 13) v').tmps[j]?=a.tmps[j]?:=fun j h1 h2=>by rw [Rg.get_put _ _ _ _ (by omega),Rg.get_put _ _ _ _ (by omega)]
  have kt:((a.put (au 68) v').put (au 13) v').tmps[13]?=au (v'):=by simp [Act.put,sz']
  have qF:∀ j,(j<59\/69<=j)->((a.put (au 68) v').put (au 13) v').tmps[j]?=(u0::u1::u2::u3::u4::aj (au ⟨b5,0,aC⟩)::u6::u7::u8::u9::u10::u11::u12::v'::u14::Z ah n::u16::u17::u18::u19::u20::u21::u22::u23::u24::u25::u26::u27::u28::u29::u30::u31::u32::u33::u34::u35::u36::u37::u38::u39::u40::u41::u42::u43::u44::u45::u46::u47::u48::u49::u50::u51::u52::u53::u54::u55::u56::u57::u58::u59::u60::u61::u62::u63::u64::u65::u66::u67::u68::u69::u70::u71::[])[j]?:=fun j hj=>by
   by_cases hj2:j=13
   ·subst hj2;exact kt
   ·have hs:(u0::u1::u2::u3::u4::aj (au ⟨b5,0,aC⟩)::u6::u7::u8::u9::u10::u11::u12::v'::u14::Z ah n::u16::u17::u18::u19::u20::u21::u22::u23::u24::u25::u26::u27::u28::u29::u30::u31::u32::u33::u34::u35::u36::u37::u38::u39::u40::u41::u42::u43::u44::u45::u46::u47::u48::u49::u50::u51::u52::u53::u54::u55::u56::u57::u58::u59::u60::u61::u62::u63::u64::u65::u66::u67::u68::u69::u70::u71::[]:List Value)=(u0::u1::u2::u3::u4::aj (au ⟨b5,0,aC⟩)::u6::u7::u8::u9::u10::u11::u12::v0::u14::Z ah n::u16::u17::u18::u19::u20::u21::u22::u23::u24::u25::u26::u27::u28::u29::u30::u31::u32::u33::u34::u35::u36::u37::u38::u39::u40::u41::u42::u43::u44::u45::u46::u47::u48::u49::u50::u51::u52::u53::u54::u55::u56::u57::u58::u59::u60::u61::u62::u63::u64::u65::u66::u67::u68::u69::u70::u71::[]).set 13 (v'):=rfl;rw [hs,List.getElem?_set_ne (Ne.symm hj2)];exact (ka j (by omega) hj2).trans ((kp j (nd j fun i hi h=>by have:=(by decide:∀ i,i<9->59<=[59,60,61,62,63,64,65,66,67].getD i 0/\[59,60,61,62,63,64,65,66,67].getD i 0<69) i hi; omega)).trans O)
  obtain⟨mid,hmid,hfr⟩:=Rg.fQ (a:=(a.put (au 68) v').put (au 13) v') 59 10 (by simp [Act.put,df]) (by simp [Act.put,sz']) (by simp) qF;rw [hfr]
  match mid,hmid with
  | [v59,v60,v61,v62,v63,v64,v65,v66,v67,v68],_ =>
   exact HQ.out x' _ _ _ _ _ _ _ _ _ _ _ (q1,q2,q3) o' a' bl
end Go.Proofs.YtkcfgbddlpomgaaGreat.Ca
