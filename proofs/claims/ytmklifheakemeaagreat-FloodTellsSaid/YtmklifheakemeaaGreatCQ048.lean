/-
  FloodTells' region t. Conditions as told.
-/
import Derived.Test.YtmklifheakemeaaGreatCQ047
set_option maxRecDepth 100000
set_option maxHeartbeats 64000000
open _root_.Go renaming Addr->ah,Value->aj,World->au
open Go.IntKind renaming i64->Z
open Go.Lib renaming hid->U
open Go.Operand renaming tmp->X
open Go.RowKit.Below renaming refl->O
open Go.Value renaming slice->D,pointer->J,int->Y,agg->ak
open _root_.Option renaming none->L,some->V
namespace Go.Proofs.YtmklifheakemeaaGreat.Fl
open Go.RowKit Go.Sort Rw YtmklifheakemeaaGreat.Nm Pr Bk Av Rl Sb
def ajM (_B:Nat) (_bB _bT _bP _bb:Nat) (b:Br) (s1:Option ah) (s2 s3:Nat) (s4:Option ah) (s5 s6:Nat) (s7:Option ah) (s8 s9:Nat) (s10:Option ah) (s11 s12:Nat) (s13:Option ah) (s14 s15:Nat) (f t1 t2:Int) (h1:Option ah) (h2 h3:Nat) (g1:Option ah) (g2 g3:Nat) (has vals:List Int) (i:Nat) (v:aj) (x:au):Prop :=
 match i with
 | 0=>v=mo b.me (s1,s2,s3) (s4,s5,s6) (s7,s8,s9) (s10,s11,s12) (s13,s14,s15)
 | 1=>v=Y Z f
 | 2=>v=ak #[Y Z t1,Y Z t2]
 | 3=>v=ak #[D h1 h2 h3,D g1 g2 g3]
 | 4=>∃ sl:Sl,v=dY sl/\fK x v ((jF has vals 7).map r5)
 | 5=>∃ nv av sv ev ov s:Sl,v=.tuple #[mo (gy b f (t1,t2) ((jF has vals 7).map r5)).1.me nv av sv ev ov,dY s]/\tH x (gy b f (t1,t2) ((jF has vals 7).map r5)).1 nv av sv ev ov/\iW x s (gy b f (t1,t2) ((jF has vals 7).map r5)).2
 | 6=>∃ nv av sv ev ov s:Sl,v=.tuple #[mo (gy b f (t1,t2) ((jF has vals 7).map r5)).1.me nv av sv ev ov,dY s]/\tH x (gy b f (t1,t2) ((jF has vals 7).map r5)).1 nv av sv ev ov/\iW x s (gy b f (t1,t2) ((jF has vals 7).map r5)).2
 | 7=>∃ nv av sv ev ov:Sl,v=mo (gy b f (t1,t2) ((jF has vals 7).map r5)).1.me nv av sv ev ov/\tH x (gy b f (t1,t2) ((jF has vals 7).map r5)).1 nv av sv ev ov
 | 8=>∃ s:Sl,v=dY s/\iW x s (gy b f (t1,t2) ((jF has vals 7).map r5)).2
 | 9=>True
 | 10=>∃ s:Sl,v=dY s/\iW x s (gy b f (t1,t2) ((jF has vals 7).map r5)).2
 | _=>True
noncomputable def adE:Code:=((Tryz.f4.body.bind (eO 11)).getD .skip)
theorem amc (Q:Exit->Act->au->Prop) (W:au) (bB bT bP bb:Nat) (b:Br) (s1:Option ah) (s2 s3:Nat) (s4:Option ah) (s5 s6:Nat) (s7:Option ah) (s8 s9:Nat) (s10:Option ah) (s11 s12:Nat) (s13:Option ah) (s14 s15:Nat) (f t1 t2:Int) (h1:Option ah) (h2 h3:Nat) (g1:Option ah) (g2 g3:Nat) (has vals:List Int) (u0 u1 u2 u3 u4 u5 u6 u7 u8 u9 u11 u12 u16 u17 u19 u20 u21 u22 u23 u24 u25 u26 u27 u28 u29 u30 u31 u32 u33 u34 u35 u36 u37 u38 u39 u40 u41 u42 u43 u44 u45 u46 u47 u48 u49 u50 u51 u52 u53 u54 u55 u56 u57 u58 u59 u60 u61 u62 u63 u64 u65 u66 u67 u68 u69 u70 u71 u72 u73 u74 u75 u76 u77 u78 u79 u80 u81 u82 u83 u84 u85 u86 u87 u88 u89:aj)
  (mX:dJ W bb #[Y Z 0,D L 0 0,D L 0 0,D L 0 0,D L 0 0,D L 0 0] 28) (hx:dJ W bB #[Y Z b.me,D s1 s2 s3,D s4 s5 s6,D s7 s8 s9,D s10 s11 s12,D s13 s14 s15] 28) (bn:tH W b (s1,s2,s3) (s4,s5,s6) (s7,s8,s9) (s10,s11,s12) (s13,s14,s15)) (ao:wo b f ((jF has vals 7).map r5)) (xt:dJ W bT #[Y Z t1,Y Z t2] 31) (xp:dJ W bP #[D h1 h2 h3,D g1 g2 g3] 49) (ih:In.jX W (D h1 h2 h3) has) (iv:In.jX W (D g1 g2 g3) vals) (lh:has.length<=maxLen) (lv:vals.length<=maxLen)
  (hQ:∀ (x:au) (v57 v58 v59 v60 v61 v62 v63 v64 v65:aj) (m1:Option ah) (m2 m3:Nat) (m4:Option ah) (m5 m6:Nat) (m7:Option ah) (m8 m9:Nat) (m10:Option ah) (m11 m12:Nat) (m13:Option ah) (m14 m15:Nat) (o1:Option ah) (o2 o3:Nat),dJ x bb #[Y Z (gy b f (t1,t2) ((jF has vals 7).map r5)).1.me,D m1 m2 m3,D m4 m5 m6,D m7 m8 m9,D m10 m11 m12,D m13 m14 m15] 28->tH x (gy b f (t1,t2) ((jF has vals 7).map r5)).1 (m1,m2,m3) (m4,m5,m6) (m7,m8,m9) (m10,m11,m12) (m13,m14,m15)->iW x (o1,o2,o3) (gy b f (t1,t2) ((jF has vals 7).map r5)).2->Rg.Sto bb W x->Q .normal ⟨(u0::u1::u2::u3::u4::u5::u6::u7::u8::u9::J (V ⟨bP,0,L⟩)::u11::u12::J (V ⟨bB,0,L⟩)::Y Z f::J (V ⟨bT,0,L⟩)::u16::u17::J (V ⟨bb,0,L⟩)::u19::dY (o1,o2,o3)::u21::u22::u23::u24::u25::u26::u27::u28::u29::u30::u31::u32::u33::u34::u35::u36::u37::u38::u39::u40::u41::u42::u43::u44::u45::u46::u47::u48::u49::u50::u51::u52::u53::u54::u55::u56::v57::v58::v59::v60::v61::v62::v63::v64::v65::u66::u67::u68::u69::u70::u71::u72::u73::u74::u75::u76::u77::u78::u79::u80::u81::u82::u83::u84::u85::u86::u87::u88::u89::[]).toArray,[]⟩ x) :
  Code.wp Tryz.prog adE Q ⟨(u0::u1::u2::u3::u4::u5::u6::u7::u8::u9::J (V ⟨bP,0,L⟩)::u11::u12::J (V ⟨bB,0,L⟩)::Y Z f::J (V ⟨bT,0,L⟩)::u16::u17::J (V ⟨bb,0,L⟩)::u19::u20::u21::u22::u23::u24::u25::u26::u27::u28::u29::u30::u31::u32::u33::u34::u35::u36::u37::u38::u39::u40::u41::u42::u43::u44::u45::u46::u47::u48::u49::u50::u51::u52::u53::u54::u55::u56::u57::u58::u59::u60::u61::u62::u63::u64::u65::u66::u67::u68::u69::u70::u71::u72::u73::u74::u75::u76::u77::u78::u79::u80::u81::u82::u83::u84::u85::u86::u87::u88::u89::[]).toArray,[]⟩ W:=by
 have HQ:=U hQ;have HB:=U mX;have HX:=U hx;have BN:=U bn;have AO:=U ao;have HT:=U xt;have HP:=U xp;have IH:=U ih;have IV:=U iv;have LH:=U lh;have LV:=U lv;clear hQ mX hx bn ao xt xp ih iv lh lv;unfold adE
 conv=>arg 2; whnf
 have agW:∀ i,i<11->[58,59,60,61,62,63,57,64,65,64,20].getD i 0≠10:=by decide
 have agX:∀ i,i<11->[58,59,60,61,62,63,57,64,65,64,20].getD i 0≠13:=by decide
 have agY:∀ i,i<11->[58,59,60,61,62,63,57,64,65,64,20].getD i 0≠14:=by decide
 have agZ:∀ i,i<11->[58,59,60,61,62,63,57,64,65,64,20].getD i 0≠15:=by decide
 have amd:∀ i,i<11->[58,59,60,61,62,63,57,64,65,64,20].getD i 0≠18:=by decide
 refine Rg.Fv 11 9 7 (fun i=>[58,59,60,61,62,63,57,64,65,64,20].getD i 0) (fun i=>if i=4 then 5 else if i=5 then 6 else 11) (ajM W.heap.size bB bT bP bb b s1 s2 s3 s4 s5 s6 s7 s8 s9 s10 s11 s12 s13 s14 s15 f t1 t2 h1 h2 h3 g1 g2 g3 has vals) (fun i=>i == 8 || i == 10) 28 bb #[Y Z 0,D L 0 0,D L 0 0,D L 0 0,D L 0 0,D L 0 0] (fun v=>match v with | ak c=>c | _=>#[]) (by kernel_rfl) (by kernel_rfl) rfl (by decide) (by decide) (by decide) (by decide) HB.out (fun i j hi hj h1 h2 h=>(by decide:∀ i,i<11->∀ j,j<11->i≠9->j≠9->[58,59,60,61,62,63,57,64,65,64,20].getD i 0=[58,59,60,61,62,63,57,64,65,64,20].getD j 0->i=j) i hi j hj h1 h2 h) (fun i hi _=>(by decide:∀ i,i<11->[58,59,60,61,62,63,57,64,65,64,20].getD i 0<90) i hi) ?_ ?_ (by decide) ?_ ?_ (fun j h1 h2=>(by decide:∀ j,j<11->j≠9->11<=(fun i=>if i=4 then 5 else if i=5 then 6 else 11) j\/((fun i=>if i=4 then 5 else if i=5 then 6 else 11) j<11/\(fun i=>if i=4 then 5 else if i=5 then 6 else 11) j≠9/\(fun i=>i == 8 || i == 10) ((fun i=>if i=4 then 5 else if i=5 then 6 else 11) j)=false)) j h1 h2) ?_
 ·intro i v x x' hi h hb;rcases (by omega:i=0\/i=1\/i=2\/i=3\/i=4\/i=5\/i=6\/i=7\/i=8\/i=9\/i=10) with rfl|rfl|rfl|rfl|rfl|rfl|rfl|rfl|rfl|rfl|rfl
  ·exact h
  ·exact h
  ·exact h
  ·exact h
  ·obtain⟨s,h1,h2⟩:=h; exact⟨s,h1,h2.on hb⟩
  ·obtain⟨a1,a2,a3,a4,a5,a6,h1,h2,h3⟩:=h; exact⟨a1,a2,a3,a4,a5,a6,h1,h2.on hb,h3.on hb⟩
  ·obtain⟨a1,a2,a3,a4,a5,a6,h1,h2,h3⟩:=h; exact⟨a1,a2,a3,a4,a5,a6,h1,h2.on hb,h3.on hb⟩
  ·obtain⟨a1,a2,a3,a4,a5,h1,h2⟩:=h; exact⟨a1,a2,a3,a4,a5,h1,h2.on hb⟩
  ·obtain⟨s,h1,h2⟩:=h; exact⟨s,h1,h2.on hb⟩
  ·exact h
  ·obtain⟨s,h1,h2⟩:=h; exact⟨s,h1,h2.on hb⟩
 ·intro o ho i hi Az hfi;cases ho;have h8:i≠8:=fun e=>by rw [e] at hfi; simp at hfi
  have h10:i≠10:=fun e=>by rw [e] at hfi; simp at hfi
  rcases (by omega:i=0\/i=1\/i=2\/i=3\/i=4\/i=5\/i=6\/i=7) with rfl|rfl|rfl|rfl|rfl|rfl|rfl|rfl
  ·exact⟨⟨0,.phase⟩,by simp,rfl,rfl⟩
  ·exact⟨⟨1,.phase⟩,by simp,rfl,rfl⟩
  ·exact⟨⟨2,.phase⟩,by simp,rfl,rfl⟩
  ·exact⟨⟨3,.phase⟩,by simp,rfl,rfl⟩
  ·exact⟨⟨4,.phase⟩,by simp,rfl,rfl⟩
  ·exact⟨⟨5,.chain⟩,by simp,rfl,rfl⟩
  ·exact⟨⟨6,.phase⟩,by simp,rfl,rfl⟩
  ·exact⟨⟨7,.data⟩,by simp,rfl,rfl⟩
 ·intro i o hi Az ho a x hpre seen K hK;clear HQ;rcases (by omega:i=0\/i=1\/i=2\/i=3\/i=4\/i=5\/i=6\/i=7\/i=8\/i=10) with rfl|rfl|rfl|rfl|rfl|rfl|rfl|rfl|rfl|rfl
  ·cases ho;obtain⟨hb,hbx⟩:=hpre rfl;have e13:a.eval (X 13)=J (V ⟨bB,0,L⟩):=seen.kp 13 _ agX rfl;exact Rg.dD rfl rfl (Rg.dR a.eval _ 28 (X 13) rfl (by rw [e13]; exact tY (HX.out.on hb))) (hK _ x rfl (O _ _))
  ·cases ho;obtain⟨hb,hbx⟩:=hpre rfl;have e14:a.eval (X 14)=Y Z f:=seen.kp 14 _ agY rfl;exact Rg.dD rfl rfl (Rg.fV a.eval _ (X 14) rfl x) (hK _ x e14 (O _ _))
  ·cases ho;obtain⟨hb,hbx⟩:=hpre rfl;have e15:a.eval (X 15)=J (V ⟨bT,0,L⟩):=seen.kp 15 _ agZ rfl;obtain⟨y0,y1⟩:=(HT.out.on hb).cs2;exact Rg.dD rfl rfl (Rg.dR a.eval _ 31 (X 15) rfl (by rw [e15]; simp [go_sem,y0,y1])) (hK _ x rfl (O _ _))
  ·cases ho;obtain⟨hb,hbx⟩:=hpre rfl;have e10:a.eval (X 10)=J (V ⟨bP,0,L⟩):=seen.kp 10 _ agW rfl;obtain⟨y0,y1⟩:=(HP.out.on hb).cs2;exact Rg.dD rfl rfl (Rg.dR a.eval _ 49 (X 10) rfl (by rw [e10]; simp [go_sem,y0,y1])) (hK _ x rfl (O _ _))
  ·cases ho;obtain⟨hb,hbx⟩:=hpre rfl;have e61:a.eval (X 61)=ak #[D h1 h2 h3,D g1 g2 g3]:=seen.at_ ⟨3,.data⟩ (by simp) rfl (by decide) (Or.inr (by decide));exact Rg.gL rfl rfl (Rw.iB a.eval _ (X 61) 49 16 rfl e61 rfl _ (gD Tryz.func16 rfl rfl _ _)) (Bv (D h1 h2 h3) (D g1 g2 g3) has vals x (IH.out.on hb) (IV.out.on hb) LH.out LV.out) fun e w1 h=>by
    obtain⟨v,rfl,q1,q2⟩:=h;have q3:=Row.dH q1;obtain⟨a1,a2,hvv⟩:=q3.len;exact⟨_,rfl,hK _ _ ⟨(a1,_,a2),hvv,q3⟩ q2⟩
  ·cases ho;obtain⟨hb,hbx⟩:=hpre rfl;have e58:a.eval (X 58)=mo b.me (s1,s2,s3) (s4,s5,s6) (s7,s8,s9) (s10,s11,s12) (s13,s14,s15):=seen.at_ ⟨0,.data⟩ (by simp) rfl (by decide) (Or.inr (by decide));have e59:a.eval (X 59)=Y Z f:=seen.at_ ⟨1,.data⟩ (by simp) rfl (by decide) (Or.inr (by decide));have e60:a.eval (X 60)=ak #[Y Z t1,Y Z t2]:=seen.at_ ⟨2,.data⟩ (by simp) rfl (by decide) (Or.inr (by decide));have E62:=seen.at_ ⟨4,.data⟩ (by simp) rfl (by decide) (Or.inl rfl);obtain⟨⟨l1,l2,l3⟩,q0,q1⟩:=E62;have q0:a.eval (X 62)=D l1 l2 l3:=q0;have q2:fK x (D l1 l2 l3) ((jF has vals 7).map r5):=by rw [<- q0]; exact q1
   exact Rg.gL rfl rfl (Gx a.eval _ (X 58) (X 59) (X 60) (X 62) 28 3 31 32 17 rfl e58 e59 e60 q0 rfl _ (gD Tryz.func17 rfl rfl _ _)) (Cz b (s1,s2,s3) (s4,s5,s6) (s7,s8,s9) (s10,s11,s12) (s13,s14,s15) f (t1,t2) (l1,l2,l3) ((jF has vals 7).map r5) x (BN.out.on hb).br q2 AO.out.few.near AO.out.ls AO.out.la AO.out.lo AO.out.pe AO.out.po AO.out.pp) fun e w1 h=>by
    obtain⟨⟨a2,a3,a4,a6,rfl,h2,h3⟩,h5⟩:=h;exact⟨_,rfl,hK _ _ ⟨(s1,s2,s3),a2,a3,a4,(s13,s14,s15),a6,by rw [agV],⟨h2,by rw [(zm b f (t1,t2) ((jF has vals 7).map r5)).2.1]; exact (BN.out.on hb).no.on h5⟩,h3⟩ h5⟩
  ·cases ho;obtain⟨hb,hbx⟩:=hpre rfl;have E63:=seen.at_ ⟨5,.data⟩ (by simp) rfl (by decide) (Or.inl rfl);exact Rg.dD rfl rfl (Rg.fV a.eval _ (X 63) rfl x) (hK _ x E63 (O _ _))
  ·cases ho;obtain⟨hb,hbx⟩:=hpre rfl;have E57:=seen.at_ ⟨6,.data⟩ (by simp) rfl (by decide) (Or.inr (by decide));obtain⟨a1,a2,a3,a4,a5,a6,h1,h2,_⟩:=E57;exact Rg.dD rfl rfl (sJ a.eval _ (X 57) 0 rfl (c:=#[mo (gy b f (t1,t2) ((jF has vals 7).map r5)).1.me a1 a2 a3 a4 a5,dY a6]) h1 rfl x) (hK _ x ⟨a1,a2,a3,a4,a5,rfl,h2⟩ (O _ _))
  ·cases ho;have E57:=seen.at_ ⟨6,.data⟩ (by simp) rfl (by decide) (Or.inr (by decide));obtain⟨a1,a2,a3,a4,a5,a6,h1,_,h3⟩:=E57;exact Rg.dD rfl rfl (sJ a.eval _ (X 57) 1 rfl (c:=#[mo (gy b f (t1,t2) ((jF has vals 7).map r5)).1.me a1 a2 a3 a4 a5,dY a6]) h1 rfl x) (hK _ x ⟨a6,rfl,h3⟩ (O _ _))
  ·cases ho;have E65:=seen.at_ ⟨8,.data⟩ (by simp) rfl (by decide) (Or.inr (by decide));exact Rg.dD rfl rfl (Rg.jJ a.eval _ (X 65) rfl x) (hK _ x E65 (O _ _))
 ·intro o ho a x v hb hbx hC Nj hbase K hK;clear HQ;cases ho;have eB:a.eval (X 18)=J (V ⟨bb,0,L⟩):=hbase 18 _ rfl amd;obtain⟨⟨m1,m2,m3⟩,⟨m4,m5,m6⟩,⟨m7,m8,m9⟩,⟨m10,m11,m12⟩,⟨m13,m14,m15⟩,hv1,hv2⟩:=Nj;subst hv1;have wK:=Go.Proofs.YtmklifheakemeaaGreat.Av.eU x bb (Y Z (gy b f (t1,t2) ((jF has vals 7).map r5)).1.me) (D m1 m2 m3) (D m4 m5 m6) (D m7 m8 m9) (D m10 m11 m12) (D m13 m14 m15);refine Rg.fT 28 (X 18) (X 64) rfl rfl rfl rfl eB hC (w':=gN x bb (Y Z (gy b f (t1,t2) ((jF has vals 7).map r5)).1.me) (D m1 m2 m3) (D m4 m5 m6) (D m7 m8 m9) (D m10 m11 m12) (D m13 m14 m15)) (oC hbx _ _ _ _ _ _ _ _ _ _ _ _ _ _ _ _) (hK _ wK (fun B w hB h=>dG h hB _ _ _ _ _ _) (dK hbx _ _ _ _ _ _) ?_);exact fun j u hj hjS hl h=>by
   rcases (by omega:j=0\/j=1\/j=2\/j=3\/j=4\/j=5\/j=6\/j=7\/j=8\/j=10) with rfl|rfl|rfl|rfl|rfl|rfl|rfl|rfl|rfl|rfl
   ·have h2:u=mo b.me (s1,s2,s3) (s4,s5,s6) (s7,s8,s9) (s10,s11,s12) (s13,s14,s15):=h; exact h2
   ·have h2:u=Y Z f:=h; exact h2
   ·have h2:u=ak #[Y Z t1,Y Z t2]:=h; exact h2
   ·have h2:u=ak #[D h1 h2 h3,D g1 g2 g3]:=h; exact h2
   ·exact absurd hl (by decide)
   ·exact absurd hl (by decide)
   ·obtain⟨a1,a2,a3,a4,a5,a6,h1,h2,h3⟩:=h; exact⟨a1,a2,a3,a4,a5,a6,h1,h2.keep (s1:=(L,0,0)) (s2:=(L,0,0)) (s3:=(L,0,0)) (s4:=(L,0,0)) (s5:=(L,0,0)) (me:=0) hbx wK,gu (s1:=(L,0,0)) (s2:=(L,0,0)) (s3:=(L,0,0)) (s4:=(L,0,0)) (s5:=(L,0,0)) (me:=0) h3 hbx wK.1⟩
   ·obtain⟨a1,a2,a3,a4,a5,h1,h2⟩:=h; exact⟨a1,a2,a3,a4,a5,h1,h2.keep (s1:=(L,0,0)) (s2:=(L,0,0)) (s3:=(L,0,0)) (s4:=(L,0,0)) (s5:=(L,0,0)) (me:=0) hbx wK⟩
   ·obtain⟨s,h1,h2⟩:=h; exact⟨s,h1,gu (s1:=(L,0,0)) (s2:=(L,0,0)) (s3:=(L,0,0)) (s4:=(L,0,0)) (s5:=(L,0,0)) (me:=0) h2 hbx wK.1⟩
   ·obtain⟨s,h1,h2⟩:=h; exact⟨s,h1,gu (s1:=(L,0,0)) (s2:=(L,0,0)) (s3:=(L,0,0)) (s4:=(L,0,0)) (s5:=(L,0,0)) (me:=0) h2 hbx wK.1⟩
 ·intro a x v df sz kp gC hbx Nj ag0 ⟨vs,hv⟩;obtain⟨⟨m1,m2,m3⟩,⟨m4,m5,m6⟩,⟨m7,m8,m9⟩,⟨m10,m11,m12⟩,⟨m13,m14,m15⟩,hv1,hv2⟩:=Nj;subst hv1;obtain⟨⟨o1,o2,o3⟩,ho1,ho2⟩:=(hv 10 (by decide) (by decide)).2 (by decide);have g20:a.tmps[20]?=V (dY (o1,o2,o3)):=by
   rw [<- ho1];exact (hv 10 (by decide) (by decide)).1
  obtain⟨w20,ajN⟩:∃ v,a.tmps[20]?=V v:=⟨_,Array.getElem?_eq_getElem (by rw [sz]; simp)⟩;have qI:∀ j,(j<57\/66<=j)->a.tmps[j]?=(u0::u1::u2::u3::u4::u5::u6::u7::u8::u9::J (V ⟨bP,0,L⟩)::u11::u12::J (V ⟨bB,0,L⟩)::Y Z f::J (V ⟨bT,0,L⟩)::u16::u17::J (V ⟨bb,0,L⟩)::u19::w20::u21::u22::u23::u24::u25::u26::u27::u28::u29::u30::u31::u32::u33::u34::u35::u36::u37::u38::u39::u40::u41::u42::u43::u44::u45::u46::u47::u48::u49::u50::u51::u52::u53::u54::u55::u56::u57::u58::u59::u60::u61::u62::u63::u64::u65::u66::u67::u68::u69::u70::u71::u72::u73::u74::u75::u76::u77::u78::u79::u80::u81::u82::u83::u84::u85::u86::u87::u88::u89::[])[j]?:=fun j hj=>by
   by_cases ajO:j=20
   ·subst ajO; exact ajN
   have hs:(u0::u1::u2::u3::u4::u5::u6::u7::u8::u9::J (V ⟨bP,0,L⟩)::u11::u12::J (V ⟨bB,0,L⟩)::Y Z f::J (V ⟨bT,0,L⟩)::u16::u17::J (V ⟨bb,0,L⟩)::u19::w20::u21::u22::u23::u24::u25::u26::u27::u28::u29::u30::u31::u32::u33::u34::u35::u36::u37::u38::u39::u40::u41::u42::u43::u44::u45::u46::u47::u48::u49::u50::u51::u52::u53::u54::u55::u56::u57::u58::u59::u60::u61::u62::u63::u64::u65::u66::u67::u68::u69::u70::u71::u72::u73::u74::u75::u76::u77::u78::u79::u80::u81::u82::u83::u84::u85::u86::u87::u88::u89::[]:List aj)=((u0::u1::u2::u3::u4::u5::u6::u7::u8::u9::J (V ⟨bP,0,L⟩)::u11::u12::J (V ⟨bB,0,L⟩)::Y Z f::J (V ⟨bT,0,L⟩)::u16::u17::J (V ⟨bb,0,L⟩)::u19::u20::u21::u22::u23::u24::u25::u26::u27::u28::u29::u30::u31::u32::u33::u34::u35::u36::u37::u38::u39::u40::u41::u42::u43::u44::u45::u46::u47::u48::u49::u50::u51::u52::u53::u54::u55::u56::u57::u58::u59::u60::u61::u62::u63::u64::u65::u66::u67::u68::u69::u70::u71::u72::u73::u74::u75::u76::u77::u78::u79::u80::u81::u82::u83::u84::u85::u86::u87::u88::u89::[]:List aj)).set 20 w20:=rfl;rw [hs,List.getElem?_set_ne (Ne.symm ajO)];exact (kp j (fun i hi h=>by have:=(by decide:∀ i,i<11->[58,59,60,61,62,63,57,64,65,64,20].getD i 0=20\/(57<=[58,59,60,61,62,63,57,64,65,64,20].getD i 0/\[58,59,60,61,62,63,57,64,65,64,20].getD i 0<66)) i hi; omega)).trans List.getElem?_toArray
  obtain⟨mid,hmid,rfl⟩:=Rg.gJ 57 9 df (by rw [sz]; rfl) (by simp) qI
  match mid,hmid with
  | [v57,v58,v59,v60,v61,v62,v63,v64,v65],_ =>
   obtain rfl:w20=dY (o1,o2,o3):=Option.some.inj (ajN.symm.trans g20);exact HQ.out x _ _ _ _ _ _ _ _ _ m1 m2 m3 m4 m5 m6 m7 m8 m9 m10 m11 m12 m13 m14 m15 o1 o2 o3 hbx hv2 ho2 ag0
end Go.Proofs.YtmklifheakemeaaGreat.Fl
