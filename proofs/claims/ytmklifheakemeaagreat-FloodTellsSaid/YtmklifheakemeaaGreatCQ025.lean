/-
  New of package adver. Conditions as told.
-/
import Derived.Test.YtmklifheakemeaaGreatCQ021
import Derived.Test.YtmklifheakemeaaGreatCQ023
set_option maxRecDepth 100000
set_option maxHeartbeats 64000000
open _root_.Go renaming World->aB,Value->aG
open Go.IntKind renaming i64->ah
open Go.Lib renaming hid->aj
open Go.Operand renaming tmp->aD
open Go.Proofs.YtmklifheakemeaaGreat.Wi renaming within->aA
open Go.Region renaming binds->aH
open Go.RowKit.Below renaming refl->ay
open Go.Value renaming slice->O,int->Z,pointer->ak,agg->aP
open _root_.List renaming getElem?_toArray->aF,mem_cons->aI,getElem?_cons_zero->aJ,mem_cons_of_mem->aK,pairwise_cons->aL
open _root_.Nat renaming le_trans->aC,lt_of_lt_of_le->aN,le_of_lt->aO,le_refl->aQ
open _root_.Option renaming none->U,some->au
open Option.some renaming inj->J
open _root_.Or renaming inr->aM
namespace Go.Proofs.YtmklifheakemeaaGreat
namespace Av
open Go.RowKit Rw YtmklifheakemeaaGreat.Nm Pr Bk Go.Sort
abbrev abN (me:Int) (near:List Int):Br:=⟨me,near,[],[],[],[]⟩
theorem VD (me:Int) (v:Sl) (l:List Int) (w:aB) (hv:qF w (dY v) l) (hl:l.length<=900) :
  Calls Tryz.prog 8 #[Z ah me,dY v] w fun e w'=>(∃ (l':List Int) (nv:Sl),e=.returned (mo me nv (U,0,0) (U,0,0) (U,0,0) (U,0,0))/\iN w' (abN me l') nv (U,0,0) (U,0,0) (U,0,0) (U,0,0)/\(∃ B,yH w' B (dY nv) l')/\l'.Pairwise (·<·)/\∀ x,x∈l'↔x∈l)/\Below w.heap.size w w':=by
 have n0:=fF w (.cells #[Z ah 0,O U 0 0,O U 0 0,O U 0 0,O U 0 0,O U 0 0] 28);have X:=aj (dO w #[Z ah 0,O U 0 0,O U 0 0,O U 0 0,O U 0 0,O U 0 0] 28);have C:=aj (Bd v l _ (hv.on n0) hl);have B0:=aj n0;have HL:=aj hl;obtain⟨vo,vn,vc⟩:=v;clear hv hl n0;go_enter Tryz.func8,Tryz.ntmps8;go_wp2_with fail;generalize w.alloc (.cells #[Z ah 0,O U 0 0,O U 0 0,O U 0 0,O U 0 0,O U 0 0] 28)=W at *;refine C.out.mono ?_;rintro e1 w1 ⟨⟨⟨p1,p2,p3⟩,rfl,ho⟩,hb⟩;have B1:=aj (B0.out.trans (hb.mono B0.out.size));have X1:=aj (X.out.on hb);have hlt:w.heap.size<W.heap.size:=X.out.lt;have C2:=aj (RG w1 W.heap.size _ l ho HL.out);have OT:=aj (fun g hg=>(ho.lt g hg).1);have HW:=aj hlt;clear hb ho C X;go_wp2_with fail;refine C2.out.mono ?_;rintro e2 w2 ⟨rfl,l2,ho2,hp2,hs2,hg2⟩;have B2:=aj (B1.out.grown hg2 B1.out.size (fun j hj=>aC (aO HW.out) (OT.out j hj)));have X2:=aj (show dJ w2 w.heap.size _ _ from (hg2.block _ X1.out.lt (fun e=>by have:=OT.out _ e.symm; have:=HW.out; omega)).trans X1.out);have C3:=aj (U4 w2 W.heap.size (p1,p2,p3) l2 ho2 hs2 (by rw [hp2.length_eq]; exact HL.out));have PM:=aj hp2;have OT2:=aj (fun g hg=>(ho2.lt g hg).1);clear ho2 hp2 hs2 hg2 C2 OT X1;go_wp2_with fail;refine C3.out.mono ?_;rintro e3 w3 ⟨⟨⟨t1,t2,t3⟩,rfl,l3,ho3,hs3,hm3⟩,hg3⟩;have B3:=aj (B2.out.grown hg3 B2.out.size (fun j hj=>aC (aO HW.out) (OT2.out j hj)));have Y:=show dJ w3 w.heap.size _ _ from (hg3.block _ X2.out.lt (fun e=>by have:=OT2.out _ e.symm; have:=HW.out; omega)).trans X2.out;obtain⟨y0,y1,y2,y3,y4,y5⟩:=Y.eX;obtain⟨f0,f1,f2,f3,f4,f5⟩:=Y.kI;have zz:=Y.lt;have FB:=aj (dK Y (Z ah me) (O t1 t2 t3) (O U 0 0) (O U 0 0) (O U 0 0) (O U 0 0));have FL:=aj (dG (b:=w.heap.size) B3.out (aQ _) (Z ah me) (O t1 t2 t3) (O U 0 0) (O U 0 0) (O U 0 0) (O U 0 0));have FO:=aj (fI ho3 w.heap.size HW.out (Z ah me) (O t1 t2 t3) (O U 0 0) (O U 0 0) (O U 0 0) (O U 0 0));have Q:=aj (show l3.Pairwise (·<·)/\∀ x,x∈l3↔x∈l from ⟨hs3,fun x=>(hm3 x).trans PM.out.mem_iff⟩);clear ho3 hs3 hm3 hg3 Y X2 C3 B2 B1 B0;go_wp2_with fail;obtain⟨v0,v1,v2,v3,v4,v5⟩:=FB.out.eX;refine bodyPost_ret (v:=aP #[Z ah me,O t1 t2 t3,O U 0 0,O U 0 0,O U 0 0,O U 0 0]) (by simp [results,Tryz.results8,go_sem,v0,v1,v2,v3,v4,v5]) rfl ?_;exact⟨⟨l3,(t1,t2,t3),rfl,⟨Row.dH FO.out,⟨[],jC _,.nil⟩,jC _,⟨[],jC _,.nil⟩,⟨[],jC _,.nil⟩⟩,⟨_,FO.out⟩,Q.out.1,Q.out.2⟩,FL.out⟩
structure tH (W:aB) (b:Br) (nv av sv ev ov:Sl):Prop where
 br:iN W b nv av sv ev ov
 no:oD W nv b.near
theorem tH.on {W W':aB} {b:Br} {nv av sv ev ov:Sl} (h:tH W b nv av sv ev ov) (hb:Below W.heap.size W W'):tH W' b nv av sv ev ov:=⟨h.br.on hb,h.no.on hb⟩
theorem tH.keep {W W':aB} {k:Nat} {me:Int} {s1 s2 s3 s4 s5:Sl} {b:Br} {nv av sv ev ov:Sl} (h:tH W b nv av sv ev ov) (hb:dJ W k (jo me s1 s2 s3 s4 s5) 28) (hk:But k W W'):tH W' b nv av sv ev ov:=by
 obtain⟨B,hn⟩:=h.no;have hn2:yH W' B (dY nv) b.near:=hk.own hn hb (by decide);exact⟨fJ h.br hb hk.1 (Row.dH hn2),B,hn2⟩
theorem VE (W:aB) (me:Int) {near:List Int} {nv:Sl} (h:qF W (dY nv) near):iN W ⟨me,near,[],[],[],[]⟩ nv (U,0,0) (U,0,0) (U,0,0) (U,0,0):=⟨h,⟨[],jC _,.nil⟩,jC _,⟨[],jC _,.nil⟩,⟨[],jC _,.nil⟩⟩
theorem Fu:∀ {l m:List Int},l.Pairwise (·<·)->m.Pairwise (·<·)->(∀ x,x∈l↔x∈m)->l=m
 | [],[],_,_,_=>rfl
 | [],y::m,_,_,h=>by have:=(h y).2 (by simp); simp at this
 | x::l,[],_,_,h=>by have:=(h x).1 (by simp); simp at this
 | x::l,y::m,hl,hm,h=>by
  have hl':=aL.1 hl;have hm':=aL.1 hm;have h1:x=y:=by
   rcases aI.1 ((h x).1 (by simp)) with e|e
   ·exact e
   ·rcases aI.1 ((h y).2 (by simp)) with e2|e2
    ·exact e2.symm
    ·have a1:=hm'.1 x e;have a2:=hl'.1 y e2;omega
  subst h1;rw [Fu hl'.2 hm'.2 fun z=>⟨fun hz=>?_,fun hz=>?_⟩]
  ·rcases aI.1 ((h z).1 (aK _ hz)) with e|e
   ·have:=hl'.1 z hz;omega
   ·exact e
  ·rcases aI.1 ((h z).2 (aK _ hz)) with e|e
   ·have:=hm'.1 z hz;omega
   ·exact e
theorem yZ {W W':aB} {b:Nat} (h:W.grownBy W' (au b)):But b W W':=⟨fun k hk hne=>h.block k hk (by simpa using hne),h.size⟩
theorem sJ {P:Program} (ρ:Operand->aG) (o:Oper) (y:Operand) (k:Nat) (ho:o.op=.extract y k) {c:Array aG} {v:aG} (hx:ρ y=.tuple c) (hv:c[k]?=au v) (w:aB):(execOp ρ o).run P w=.ok (.value v) w:=by
 simp [execOp,ho,hx,hv,go_sem]
end Av
namespace At
open Go.RowKit Go.Sort Va In
end At
namespace Rl
open Go.RowKit Pu Rw Pr
end Rl
namespace Av
open Go.RowKit Go.Sort Rw YtmklifheakemeaaGreat.Nm Pr Bk
def aiC (B:Nat) (bq _ _:Nat) (z0 _ _ _ _ t1 t2 i1 i2:Int) (h1:Option Addr) (h2 h3:Nat) (g1:Option Addr) (g2 g3:Nat) (has vals:List Int) (i:Nat) (v:aG) (x:aB):Prop :=
 match i with
 | 0=>v=ak (au ⟨bq,0,U⟩)
 | 1=>v=Z ah z0
 | 2=>v=Z ah (aA z0 1 7)
 | 3=>v=aP #[Z ah t1,Z ah t2]
 | 4=>v=aP #[Z ah i1,Z ah i2]
 | 5=>v=ak (au ⟨bq,5,U⟩)
 | 6=>v=aP #[O h1 h2 h3,O g1 g2 g3]
 | 7=>∃ s:Sl,v=dY s/\iq x B (dY s) ((jF has vals 7).map r5)
 | 8=>∃ s:Sl,v=aP #[Z ah (aA z0 1 7),Z ah t1,Z ah t2,Z ah i1,Z ah i2,dY s,O U 0 0]/\iq x B (dY s) ((jF has vals 7).map r5)
 | 9=>True
 | 10=>True
 | _=>True
noncomputable def abO:Code:=((Tryz.f11.body.bind (eO 14)).getD .skip)
theorem alk (Q:Exit->Act->aB->Prop) (W:aB) (bq b7 b8:Nat) (z0 z1 z2 z3 z4 t1 t2 i1 i2:Int) (h1:Option Addr) (h2 h3:Nat) (g1:Option Addr) (g2 g3:Nat) (has vals:List Int) (u0 u1 u2 u3 u4 u5 u9 u10 u11 u12 u13 u14 u15 u16 u17 u18 u19 u20 u21 u22 u23 u24 u25 u26 u27 u28 u29 u30 u31 u32 u33 u34 u35 u36 u37 u38 u39 u40 u41 u42 u43 u44 u45 u46 u47 u48 u49 u50 u51 u52 u53 u54 u55 u56 u57 u58 u59 u60 u61 u62 u63 u64 u65 u66 u67 u68 u69 u70 u71 u72 u73 u74 u75 u76 u77 u78 u79 u80 u81 u82 u83 u84 u85 u86 u87 u88 u89 u90 u91 u92 u93 u94 u95 u96 u97 u98 u99 u100 u101 u102 u103 u104 u105 u106 u107 u108 u109 u110 u111 u112 u113 u114 u115 u116 u117 u118 u119 u120 u121 u122 u123:aG)
  (q:dJ W bq #[Z ah z0,Z ah z1,Z ah z2,Z ah z3,Z ah z4,O h1 h2 h3,O g1 g2 g3] 86) (d0:-9223372036854775808<=z0/\z0<=9223372036854775807) (x7:dJ W b7 #[Z ah t1,Z ah t2] 31) (x8:dJ W b8 #[Z ah i1,Z ah i2] 31) (ih:In.jX W (O h1 h2 h3) has) (iv:In.jX W (O g1 g2 g3) vals) (lh:has.length<=maxLen) (lv:vals.length<=maxLen)
  (hQ:∀ (x:aB) (bb:Nat) (v57 v58 v59 v60 v61 v62 v63 v64 v65:aG) (m1:Option Addr) (m2 m3:Nat),W.heap.size<=bb->dJ x bb #[Z ah (aA z0 1 7),Z ah t1,Z ah t2,Z ah i1,Z ah i2,O m1 m2 m3,O U 0 0] 41->iq x W.heap.size (O m1 m2 m3) ((jF has vals 7).map r5)->Below W.heap.size W x->Q .normal ⟨(u0::u1::u2::u3::u4::u5::ak (au ⟨bq,0,U⟩)::ak (au ⟨b7,0,U⟩)::ak (au ⟨b8,0,U⟩)::u9::ak (au ⟨bb,0,U⟩)::u11::u12::u13::u14::u15::u16::u17::u18::u19::u20::u21::u22::u23::u24::u25::u26::u27::u28::u29::u30::u31::u32::u33::u34::u35::u36::u37::u38::u39::u40::u41::u42::u43::u44::u45::u46::u47::u48::u49::u50::u51::u52::u53::u54::u55::u56::v57::v58::v59::v60::v61::v62::v63::v64::v65::u66::u67::u68::u69::u70::u71::u72::u73::u74::u75::u76::u77::u78::u79::u80::u81::u82::u83::u84::u85::u86::u87::u88::u89::u90::u91::u92::u93::u94::u95::u96::u97::u98::u99::u100::u101::u102::u103::u104::u105::u106::u107::u108::u109::u110::u111::u112::u113::u114::u115::u116::u117::u118::u119::u120::u121::u122::u123::[]).toArray,[]⟩ x) :
  Code.wp Tryz.prog abO Q ⟨(u0::u1::u2::u3::u4::u5::ak (au ⟨bq,0,U⟩)::ak (au ⟨b7,0,U⟩)::ak (au ⟨b8,0,U⟩)::u9::u10::u11::u12::u13::u14::u15::u16::u17::u18::u19::u20::u21::u22::u23::u24::u25::u26::u27::u28::u29::u30::u31::u32::u33::u34::u35::u36::u37::u38::u39::u40::u41::u42::u43::u44::u45::u46::u47::u48::u49::u50::u51::u52::u53::u54::u55::u56::u57::u58::u59::u60::u61::u62::u63::u64::u65::u66::u67::u68::u69::u70::u71::u72::u73::u74::u75::u76::u77::u78::u79::u80::u81::u82::u83::u84::u85::u86::u87::u88::u89::u90::u91::u92::u93::u94::u95::u96::u97::u98::u99::u100::u101::u102::u103::u104::u105::u106::u107::u108::u109::u110::u111::u112::u113::u114::u115::u116::u117::u118::u119::u120::u121::u122::u123::[]).toArray,[]⟩ W:=by
 have HQ:=aj hQ;have HQ6:=aj q;have D0:=aj d0;have H7:=aj x7;have H8:=aj x8;have IH:=aj ih;have IV:=aj iv;have LH:=aj lh;have LV:=aj lv;clear hQ q d0 x7 x8 ih iv lh lv;unfold abO
 conv=>arg 2; whnf
 have nb6:∀ i,i<11->[57,58,59,60,61,62,63,64,65,10,10].getD i 0≠6:=by decide
 have nb7:∀ i,i<11->[57,58,59,60,61,62,63,64,65,10,10].getD i 0≠7:=by decide
 have nb8:∀ i,i<11->[57,58,59,60,61,62,63,64,65,10,10].getD i 0≠8:=by decide
 refine Rg.Fe 11 9 10 8 (fun i=>[57,58,59,60,61,62,63,64,65,10,10].getD i 0) (fun i=>if i=7 then 8 else 11) (aiC W.heap.size bq b7 b8 z0 z1 z2 z3 z4 t1 t2 i1 i2 h1 h2 h3 g1 g2 g3 has vals) 41 #[Z ah 0,Z ah 0,Z ah 0,Z ah 0,Z ah 0,O U 0 0,O U 0 0] (fun v=>match v with | aP c=>c | _=>#[]) (by kernel_rfl) (by kernel_rfl) rfl (by decide) (by decide) (by decide) (by decide) (by decide) (by decide) (by decide) (fun i j hi hj h1 h2 h=>(by decide:∀ i,i<11->∀ j,j<11->i≠10->j≠10->[57,58,59,60,61,62,63,64,65,10,10].getD i 0=[57,58,59,60,61,62,63,64,65,10,10].getD j 0->i=j) i hi j hj h1 h2 h) (fun i hi=>(by decide:∀ i,i<11->[57,58,59,60,61,62,63,64,65,10,10].getD i 0<124) i hi) ?_ ?_ ?_ ?_ ?_ ?_
 ·intro i v x x' hi h hb;rcases (by omega:i=0\/i=1\/i=2\/i=3\/i=4\/i=5\/i=6\/i=7\/i=8\/i=9\/i=10) with rfl|rfl|rfl|rfl|rfl|rfl|rfl|rfl|rfl|rfl|rfl
  ·exact h
  ·exact h
  ·exact h
  ·exact h
  ·exact h
  ·exact h
  ·exact h
  ·obtain⟨s,h1,h2⟩:=h; exact⟨s,h1,Bk.dI h2 hb⟩
  ·obtain⟨s,h1,h2⟩:=h; exact⟨s,h1,Bk.dI h2 hb⟩
  ·exact h
  ·exact h
 ·intro o ho;cases ho;exact⟨⟨⟨9,.data⟩,by simp,rfl,rfl⟩,⟨⟨8,.data⟩,by simp,rfl,rfl⟩⟩
 ·intro i o hi hiA Az ho a x hb seen K hK;clear HQ;rcases (by omega:i=0\/i=1\/i=2\/i=3\/i=4\/i=5\/i=6\/i=7\/i=8) with rfl|rfl|rfl|rfl|rfl|rfl|rfl|rfl|rfl
  ·cases ho;have e6:a.eval (aD 6)=ak (au ⟨bq,0,U⟩):=seen.kp 6 _ nb6 rfl;exact Rg.dD rfl rfl (Rg.dW a.eval _ 86 (aD 6) 0 rfl (by rw [e6]; simp [go_sem])) (hK _ x rfl (ay _ _))
  ·cases ho;have e57:a.eval (aD 57)=ak (au ⟨bq,0,U⟩):=seen.at_ ⟨0,.data⟩ (by simp) rfl (by decide) (by decide) (aM (by decide));have y0:=(HQ6.out.on hb).cell 0;simp only [aF,aJ] at y0;exact Rg.dD rfl rfl (Rg.dR a.eval _ 3 (aD 57) rfl (by rw [e57]; simp [go_sem,y0])) (hK _ x rfl (ay _ _))
  ·cases ho;have e58:a.eval (aD 58)=Z ah z0:=seen.at_ ⟨1,.data⟩ (by simp) rfl (by decide) (by decide) (aM (by decide));exact Rg.gL rfl rfl (Rg.AZ a.eval _ (aD 58) (.const (Z ah 1)) (.const (Z ah 7)) 3 13 rfl e58 rfl rfl rfl _ (gD Tryz.func13 rfl rfl _ _)) (Wi.je z0 1 7 x (by omega) (by omega) (by omega) D0.out.1 D0.out.2) fun e w1 h=>by
    obtain⟨rfl,rfl⟩:=h;exact⟨_,rfl,hK _ _ rfl (ay _ _)⟩
  ·cases ho;have e7:a.eval (aD 7)=ak (au ⟨b7,0,U⟩):=seen.kp 7 _ nb7 rfl;obtain⟨y0,y1⟩:=(H7.out.on hb).cs2;exact Rg.dD rfl rfl (Rg.dR a.eval _ 31 (aD 7) rfl (by rw [e7]; simp [go_sem,y0,y1])) (hK _ x rfl (ay _ _))
  ·cases ho;have e8:a.eval (aD 8)=ak (au ⟨b8,0,U⟩):=seen.kp 8 _ nb8 rfl;obtain⟨y0,y1⟩:=(H8.out.on hb).cs2;exact Rg.dD rfl rfl (Rg.dR a.eval _ 31 (aD 8) rfl (by rw [e8]; simp [go_sem,y0,y1])) (hK _ x rfl (ay _ _))
  ·cases ho;have e6:a.eval (aD 6)=ak (au ⟨bq,0,U⟩):=seen.kp 6 _ nb6 rfl;exact Rg.dD rfl rfl (Rg.dW a.eval _ 86 (aD 6) 5 rfl (by rw [e6]; simp [go_sem])) (hK _ x rfl (ay _ _))
  ·cases ho;have e62:a.eval (aD 62)=ak (au ⟨bq,5,U⟩):=seen.at_ ⟨5,.data⟩ (by simp) rfl (by decide) (by decide) (aM (by decide));have y5:=(HQ6.out.on hb).cell 5;have y6:=(HQ6.out.on hb).cell 6;simp only [aF,aJ,List.getElem?_cons_succ] at y5 y6;exact Rg.dD rfl rfl (Rg.dR a.eval _ 49 (aD 62) rfl (by rw [e62]; simp [go_sem,y5,y6])) (hK _ x rfl (ay _ _))
  ·cases ho;have e63:a.eval (aD 63)=aP #[O h1 h2 h3,O g1 g2 g3]:=seen.at_ ⟨6,.data⟩ (by simp) rfl (by decide) (by decide) (aM (by decide));exact Rg.gL rfl rfl (Rw.iB a.eval _ (aD 63) 49 16 rfl e63 rfl _ (gD Tryz.func16 rfl rfl _ _)) (Bv (O h1 h2 h3) (O g1 g2 g3) has vals x (IH.out.on hb) (IV.out.on hb) LH.out LV.out) fun e w1 h=>by
    obtain⟨v,rfl,q1,q2⟩:=h;obtain⟨a1,a2,hvv⟩:=(Row.dH q1).len;have q3:=dM q1 hb.size;rw [hvv] at q3;exact⟨_,rfl,hK _ _ ⟨(a1,_,a2),hvv,q3⟩ q2⟩
  ·cases ho;have e59:a.eval (aD 59)=Z ah (aA z0 1 7):=seen.at_ ⟨2,.data⟩ (by simp) rfl (by decide) (by decide) (aM (by decide));have e60:a.eval (aD 60)=aP #[Z ah t1,Z ah t2]:=seen.at_ ⟨3,.data⟩ (by simp) rfl (by decide) (by decide) (aM (by decide));have e61:a.eval (aD 61)=aP #[Z ah i1,Z ah i2]:=seen.at_ ⟨4,.data⟩ (by simp) rfl (by decide) (by decide) (aM (by decide));have E64:=seen.at_ ⟨7,.data⟩ (by simp) rfl (by decide) (by decide) (Or.inl rfl);obtain⟨s,q0,q1⟩:=E64;have q0:a.eval (aD 64)=dY s:=q0;exact Rg.dD rfl rfl (Rg.jZ a.eval _ 41 #[(0,aD 59),(1,aD 60),(2,aD 61),(3,aD 64)] rfl (ps:=#[(0,Z ah (aA z0 1 7)),(1,aP #[Z ah t1,Z ah t2]),(2,aP #[Z ah i1,Z ah i2]),(3,dY s)]) (by simp only [List.map_toArray,List.map_cons,List.map_nil,e59,e60,e61,q0]) (by simp [go_sem])) (hK _ x ⟨s,rfl,q1⟩ (ay _ _))
 ·intro o ho a x K hK;cases ho;exact Rg.dD rfl rfl (Rg.Jh a.eval _ 41 rfl (by simp [go_sem])) hK
 ·intro o ho a x bb v D hc hD hb hA hC Nj hbb mX K hK;clear HQ;cases ho;obtain⟨⟨m1,m2,m3⟩,hv1,hv2⟩:=Nj;subst hv1;obtain⟨x0,x1,x2,x3,x4,x5,x6⟩:=mX.nJ;obtain⟨f0,f1,f2,f3,f4,f5,f6⟩:=mX.fs7;have hst:(Instr.storeAt 41 (ak (au ⟨bb,0,U⟩)) (aP #[Z ah (aA z0 1 7),Z ah t1,Z ah t2,Z ah i1,Z ah i2,O m1 m2 m3,O U 0 0])).run Tryz.prog x=.ok () (((((((x.setCell ⟨bb,0,U⟩ (Z ah (aA z0 1 7))).setCell ⟨bb,1,U⟩ (Z ah t1)).setCell ⟨bb,2,U⟩ (Z ah t2)).setCell ⟨bb,3,U⟩ (Z ah i1)).setCell ⟨bb,4,U⟩ (Z ah i2)).setCell ⟨bb,5,U⟩ (O m1 m2 m3)).setCell ⟨bb,6,U⟩ (O U 0 0)):=by simp [go_sem,x0,x1,x2,x3,x4,x5,x6,f0,f1,f2,f3,f4,f5,f6]
  have af9:=dZ (k:=6) (dZ (k:=5) (dZ (k:=4) (dZ (k:=3) (dZ (k:=2) (dZ (k:=1) (dZ (k:=0) mX (Z ah (aA z0 1 7))) (Z ah t1)) (Z ah t2)) (Z ah i1)) (Z ah i2)) (O m1 m2 m3)) (O U 0 0);have wK:But bb x (((((((x.setCell ⟨bb,0,U⟩ (Z ah (aA z0 1 7))).setCell ⟨bb,1,U⟩ (Z ah t1)).setCell ⟨bb,2,U⟩ (Z ah t2)).setCell ⟨bb,3,U⟩ (Z ah i1)).setCell ⟨bb,4,U⟩ (Z ah i2)).setCell ⟨bb,5,U⟩ (O m1 m2 m3)).setCell ⟨bb,6,U⟩ (O U 0 0)):=(((((((dQ _ bb _ _).trans (dQ _ bb _ _)).trans (dQ _ bb _ _)).trans (dQ _ bb _ _)).trans (dQ _ bb _ _)).trans (dQ _ bb _ _)).trans (dQ _ bb _ _));refine Rg.fT 41 (aD 10) (aD 65) rfl rfl rfl rfl hA hC hst (hK _ (((((((hb.setCell (p:=⟨bb,0,U⟩) hbb _).setCell (p:=⟨bb,1,U⟩) hbb _).setCell (p:=⟨bb,2,U⟩) hbb _).setCell (p:=⟨bb,3,U⟩) hbb _).setCell (p:=⟨bb,4,U⟩) hbb _).setCell (p:=⟨bb,5,U⟩) hbb _).setCell (p:=⟨bb,6,U⟩) hbb _) (by simpa using af9) ?_);exact fun j u hj hjA hjS hdj hnl hls h=>by
   rcases (by omega:j=0\/j=1\/j=2\/j=3\/j=4\/j=5\/j=6\/j=7\/j=8) with rfl|rfl|rfl|rfl|rfl|rfl|rfl|rfl|rfl
   ·have h2:u=ak (au ⟨bq,0,U⟩):=h; exact h2
   ·have h2:u=Z ah z0:=h; exact h2
   ·have h2:u=Z ah (aA z0 1 7):=h; exact h2
   ·have h2:u=aP #[Z ah t1,Z ah t2]:=h; exact h2
   ·have h2:u=aP #[Z ah i1,Z ah i2]:=h; exact h2
   ·have h2:u=ak (au ⟨bq,5,U⟩):=h; exact h2
   ·have h2:u=aP #[O h1 h2 h3,O g1 g2 g3]:=h; exact h2
   ·exact absurd (hD ⟨8,.data⟩ (by simp) rfl) hnl
   ·obtain⟨s,h1,h2⟩:=h; exact⟨s,h1,wK.own h2 mX (by decide)⟩
 ·intro a x bb v df sz kp gA gC hbb mX Nj hbel ⟨vs,hv⟩;obtain⟨⟨m1,m2,m3⟩,hv1,hv2⟩:=Nj;subst hv1;have g10:a.tmps[10]?=au (ak (au ⟨bb,0,U⟩)):=gA;have qI:∀ j,(j<10\/66<=j)->a.tmps[j]?=(u0::u1::u2::u3::u4::u5::ak (au ⟨bq,0,U⟩)::ak (au ⟨b7,0,U⟩)::ak (au ⟨b8,0,U⟩)::u9::u10::u11::u12::u13::u14::u15::u16::u17::u18::u19::u20::u21::u22::u23::u24::u25::u26::u27::u28::u29::u30::u31::u32::u33::u34::u35::u36::u37::u38::u39::u40::u41::u42::u43::u44::u45::u46::u47::u48::u49::u50::u51::u52::u53::u54::u55::u56::u57::u58::u59::u60::u61::u62::u63::u64::u65::u66::u67::u68::u69::u70::u71::u72::u73::u74::u75::u76::u77::u78::u79::u80::u81::u82::u83::u84::u85::u86::u87::u88::u89::u90::u91::u92::u93::u94::u95::u96::u97::u98::u99::u100::u101::u102::u103::u104::u105::u106::u107::u108::u109::u110::u111::u112::u113::u114::u115::u116::u117::u118::u119::u120::u121::u122::u123::[])[j]?:=fun j hj=>(kp j (fun i hi h=>by have:=(by decide:∀ i,i<11->10<=[57,58,59,60,61,62,63,64,65,10,10].getD i 0/\[57,58,59,60,61,62,63,64,65,10,10].getD i 0<66) i hi; omega)).trans aF;obtain⟨mid,hmid,rfl⟩:=Rg.gJ 10 56 df sz (by simp) qI
  match mid,hmid with
  | v10::v11::v12::v13::v14::v15::v16::v17::v18::v19::v20::v21::v22::v23::v24::v25::v26::v27::v28::v29::v30::v31::v32::v33::v34::v35::v36::v37::v38::v39::v40::v41::v42::v43::v44::v45::v46::v47::v48::v49::v50::v51::v52::v53::v54::v55::v56::v57::v58::v59::v60::v61::v62::v63::v64::v65::[],_ =>
   obtain rfl:v10=ak (au ⟨bb,0,U⟩):=J g10;obtain rfl:v11=u11:=J (kp 11 (fun i hi h=>(by decide:∀ i,i<11->[57,58,59,60,61,62,63,64,65,10,10].getD i 0≠11) i hi h));obtain rfl:v12=u12:=J (kp 12 (fun i hi h=>(by decide:∀ i,i<11->[57,58,59,60,61,62,63,64,65,10,10].getD i 0≠12) i hi h));obtain rfl:v13=u13:=J (kp 13 (fun i hi h=>(by decide:∀ i,i<11->[57,58,59,60,61,62,63,64,65,10,10].getD i 0≠13) i hi h));obtain rfl:v14=u14:=J (kp 14 (fun i hi h=>(by decide:∀ i,i<11->[57,58,59,60,61,62,63,64,65,10,10].getD i 0≠14) i hi h));obtain rfl:v15=u15:=J (kp 15 (fun i hi h=>(by decide:∀ i,i<11->[57,58,59,60,61,62,63,64,65,10,10].getD i 0≠15) i hi h));obtain rfl:v16=u16:=J (kp 16 (fun i hi h=>(by decide:∀ i,i<11->[57,58,59,60,61,62,63,64,65,10,10].getD i 0≠16) i hi h));obtain rfl:v17=u17:=J (kp 17 (fun i hi h=>(by decide:∀ i,i<11->[57,58,59,60,61,62,63,64,65,10,10].getD i 0≠17) i hi h));obtain rfl:v18=u18:=J (kp 18 (fun i hi h=>(by decide:∀ i,i<11->[57,58,59,60,61,62,63,64,65,10,10].getD i 0≠18) i hi h));obtain rfl:v19=u19:=J (kp 19 (fun i hi h=>(by decide:∀ i,i<11->[57,58,59,60,61,62,63,64,65,10,10].getD i 0≠19) i hi h));obtain rfl:v20=u20:=J (kp 20 (fun i hi h=>(by decide:∀ i,i<11->[57,58,59,60,61,62,63,64,65,10,10].getD i 0≠20) i hi h));obtain rfl:v21=u21:=J (kp 21 (fun i hi h=>(by decide:∀ i,i<11->[57,58,59,60,61,62,63,64,65,10,10].getD i 0≠21) i hi h));obtain rfl:v22=u22:=J (kp 22 (fun i hi h=>(by decide:∀ i,i<11->[57,58,59,60,61,62,63,64,65,10,10].getD i 0≠22) i hi h));obtain rfl:v23=u23:=J (kp 23 (fun i hi h=>(by decide:∀ i,i<11->[57,58,59,60,61,62,63,64,65,10,10].getD i 0≠23) i hi h));obtain rfl:v24=u24:=J (kp 24 (fun i hi h=>(by decide:∀ i,i<11->[57,58,59,60,61,62,63,64,65,10,10].getD i 0≠24) i hi h));obtain rfl:v25=u25:=J (kp 25 (fun i hi h=>(by decide:∀ i,i<11->[57,58,59,60,61,62,63,64,65,10,10].getD i 0≠25) i hi h));obtain rfl:v26=u26:=J (kp 26 (fun i hi h=>(by decide:∀ i,i<11->[57,58,59,60,61,62,63,64,65,10,10].getD i 0≠26) i hi h));obtain rfl:v27=u27:=J (kp 27 (fun i hi h=>(by decide:∀ i,i<11->[57,58,59,60,61,62,63,64,65,10,10].getD i 0≠27) i hi h));obtain rfl:v28=u28:=J (kp 28 (fun i hi h=>(by decide:∀ i,i<11->[57,58,59,60,61,62,63,64,65,10,10].getD i 0≠28) i hi h));obtain rfl:v29=u29:=J (kp 29 (fun i hi h=>(by decide:∀ i,i<11->[57,58,59,60,61,62,63,64,65,10,10].getD i 0≠29) i hi h));obtain rfl:v30=u30:=J (kp 30 (fun i hi h=>(by decide:∀ i,i<11->[57,58,59,60,61,62,63,64,65,10,10].getD i 0≠30) i hi h));obtain rfl:v31=u31:=J (kp 31 (fun i hi h=>(by decide:∀ i,i<11->[57,58,59,60,61,62,63,64,65,10,10].getD i 0≠31) i hi h));obtain rfl:v32=u32:=J (kp 32 (fun i hi h=>(by decide:∀ i,i<11->[57,58,59,60,61,62,63,64,65,10,10].getD i 0≠32) i hi h));obtain rfl:v33=u33:=J (kp 33 (fun i hi h=>(by decide:∀ i,i<11->[57,58,59,60,61,62,63,64,65,10,10].getD i 0≠33) i hi h));obtain rfl:v34=u34:=J (kp 34 (fun i hi h=>(by decide:∀ i,i<11->[57,58,59,60,61,62,63,64,65,10,10].getD i 0≠34) i hi h));obtain rfl:v35=u35:=J (kp 35 (fun i hi h=>(by decide:∀ i,i<11->[57,58,59,60,61,62,63,64,65,10,10].getD i 0≠35) i hi h));obtain rfl:v36=u36:=J (kp 36 (fun i hi h=>(by decide:∀ i,i<11->[57,58,59,60,61,62,63,64,65,10,10].getD i 0≠36) i hi h));obtain rfl:v37=u37:=J (kp 37 (fun i hi h=>(by decide:∀ i,i<11->[57,58,59,60,61,62,63,64,65,10,10].getD i 0≠37) i hi h));obtain rfl:v38=u38:=J (kp 38 (fun i hi h=>(by decide:∀ i,i<11->[57,58,59,60,61,62,63,64,65,10,10].getD i 0≠38) i hi h));obtain rfl:v39=u39:=J (kp 39 (fun i hi h=>(by decide:∀ i,i<11->[57,58,59,60,61,62,63,64,65,10,10].getD i 0≠39) i hi h));obtain rfl:v40=u40:=J (kp 40 (fun i hi h=>(by decide:∀ i,i<11->[57,58,59,60,61,62,63,64,65,10,10].getD i 0≠40) i hi h));obtain rfl:v41=u41:=J (kp 41 (fun i hi h=>(by decide:∀ i,i<11->[57,58,59,60,61,62,63,64,65,10,10].getD i 0≠41) i hi h));obtain rfl:v42=u42:=J (kp 42 (fun i hi h=>(by decide:∀ i,i<11->[57,58,59,60,61,62,63,64,65,10,10].getD i 0≠42) i hi h));obtain rfl:v43=u43:=J (kp 43 (fun i hi h=>(by decide:∀ i,i<11->[57,58,59,60,61,62,63,64,65,10,10].getD i 0≠43) i hi h));obtain rfl:v44=u44:=J (kp 44 (fun i hi h=>(by decide:∀ i,i<11->[57,58,59,60,61,62,63,64,65,10,10].getD i 0≠44) i hi h));obtain rfl:v45=u45:=J (kp 45 (fun i hi h=>(by decide:∀ i,i<11->[57,58,59,60,61,62,63,64,65,10,10].getD i 0≠45) i hi h));obtain rfl:v46=u46:=J (kp 46 (fun i hi h=>(by decide:∀ i,i<11->[57,58,59,60,61,62,63,64,65,10,10].getD i 0≠46) i hi h));obtain rfl:v47=u47:=J (kp 47 (fun i hi h=>(by decide:∀ i,i<11->[57,58,59,60,61,62,63,64,65,10,10].getD i 0≠47) i hi h));obtain rfl:v48=u48:=J (kp 48 (fun i hi h=>(by decide:∀ i,i<11->[57,58,59,60,61,62,63,64,65,10,10].getD i 0≠48) i hi h));obtain rfl:v49=u49:=J (kp 49 (fun i hi h=>(by decide:∀ i,i<11->[57,58,59,60,61,62,63,64,65,10,10].getD i 0≠49) i hi h));obtain rfl:v50=u50:=J (kp 50 (fun i hi h=>(by decide:∀ i,i<11->[57,58,59,60,61,62,63,64,65,10,10].getD i 0≠50) i hi h));obtain rfl:v51=u51:=J (kp 51 (fun i hi h=>(by decide:∀ i,i<11->[57,58,59,60,61,62,63,64,65,10,10].getD i 0≠51) i hi h));obtain rfl:v52=u52:=J (kp 52 (fun i hi h=>(by decide:∀ i,i<11->[57,58,59,60,61,62,63,64,65,10,10].getD i 0≠52) i hi h));obtain rfl:v53=u53:=J (kp 53 (fun i hi h=>(by decide:∀ i,i<11->[57,58,59,60,61,62,63,64,65,10,10].getD i 0≠53) i hi h));obtain rfl:v54=u54:=J (kp 54 (fun i hi h=>(by decide:∀ i,i<11->[57,58,59,60,61,62,63,64,65,10,10].getD i 0≠54) i hi h));obtain rfl:v55=u55:=J (kp 55 (fun i hi h=>(by decide:∀ i,i<11->[57,58,59,60,61,62,63,64,65,10,10].getD i 0≠55) i hi h));obtain rfl:v56=u56:=J (kp 56 (fun i hi h=>(by decide:∀ i,i<11->[57,58,59,60,61,62,63,64,65,10,10].getD i 0≠56) i hi h));exact HQ.out x bb _ _ _ _ _ _ _ _ _ m1 m2 m3 hbb mX hv2 hbel
end Av
namespace Rg
open Go.RowKit Rw Av
structure abP (i N S:Nat) (d last:Nat->Nat) (V:Nat->aG->aB->Prop) (base:Act) (o:Oper) (a:Act) (x:aB):Prop where
 kp:∀ j u,(∀ i,i<N->d i≠j)->base.tmps[j]?=au u->a.eval (aD j)=u
 at_:∀ e∈o.after,aH .any e=true->e.on≠S->(last e.on=i\/N<=last e.on)->V e.on (a.eval (aD (d e.on))) x
def Sto (b:Nat) (W x:aB):Prop:=But b W x/\∀ B,B<=b->Below B W x
theorem Sto.grow {b:Nat} {W x x':aB} (h:Sto b W x) (hl:b<W.heap.size) (hb:Below x.heap.size x x'):Sto b W x' :=
 ⟨⟨fun k hk hne=>(hb.block k (aN hk h.1.2)).trans (h.1.1 k hk hne),aC h.1.2 hb.size⟩,fun B hB=>(h.2 B hB).trans (hb.mono (aC (aC hB (aO hl)) h.1.2))⟩
structure InY (l:List Oper) (N S C:Nat) (d last:Nat->Nat) (V:Nat->aG->aB->Prop) (t:TypeId) (bb:Nat) (old:Array aG) (Tn:aG->Array aG) (base:Act) (W:aB) (L:Array Bool) (a:Act) (x:aB):Prop where
 cl:∀ i o,done L i->l[i]?=au o->∀ e∈o.after,aH .any e=true->done L e.on
 no:∀ i,N<=i->¬ done L i
 df:a.defers=base.defers
 sz:a.tmps.size=base.tmps.size
 kp:∀ j,(∀ i,i<N->d i≠j)->a.tmps[j]?=base.tmps[j]?
 sto:Sto bb W x
 val:∃ vs:Nat->aG,∀ i,i<N->i≠S->done L i->a.tmps[d i]?=au (vs i)/\(¬ done L (last i)->V i (vs i) x)
 box:¬ done L S->Below W.heap.size W x/\dJ x bb old t
 fin:done L S->∃ v,a.tmps[d C]?=au v/\dJ x bb (Tn v) t/\V C v x
theorem Fv {P:Program} {Q:Exit->Act->aB->Prop} {id:Nat} {base:Act} {W:aB} {l:List Oper} (N S C:Nat) (d last:Nat->Nat) (V:Nat->aG->aB->Prop) (fl:Nat->Bool) (t:TypeId) (bb:Nat) (old:Array aG) (Tn:aG->Array aG)
  (hm:P.follows .mixedOrders=true) (hf:Mh l.toArray=true) (hN:l.length=N) (hS:S<N) (hC:C<N) (hCS:C≠S) (hlC:N<=last C) (mX:dJ W bb old t)
  (hinj:∀ i j,i<N->j<N->i≠S->j≠S->d i=d j->i=j) (hs:∀ i,i<N->i≠S->d i<base.tmps.size)
  (hV:∀ i v x x',i<N->V i v x->Below x.heap.size x x'->V i v x')
  (hfl:∀ o,l[S]?=au o->∀ i,i<N->i≠S->fl i=false->∃ e∈o.after,aH .any e=true/\e.on=i) (aiE:fl C=false)
  (hop:∀ i o,i<N->i≠S->l[i]?=au o->∀ a x,(fl i=false->Below W.heap.size W x/\dJ x bb old t)->abP i N S d last V base o a x->∀ K:Act->aB->Prop,(∀ v x',V i v x'->Below x.heap.size x x'->K (a.put (au (d i)) v) x')->wpOp P l.toArray Q i K a x)
  (hoS:∀ o,l[S]?=au o->∀ a x v,Below W.heap.size W x->dJ x bb old t->a.eval (aD (d C))=v->V C v x->(∀ j u,base.tmps[j]?=au u->(∀ i,i<N->d i≠j)->a.eval (aD j)=u)->∀ K:Act->aB->Prop,(∀ x',But bb x x'->(∀ B w,B<=bb->Below B w x->Below B w x')->dJ x' bb (Tn v) t->(∀ j u,j<N->j≠S->N<=last j->V j u x->V j u x')->K a x')->wpOp P l.toArray Q S K a x)
  (hlast:∀ j,j<N->j≠S->N<=last j\/(last j<N/\last j≠S/\fl (last j)=false))
  (hend:∀ a x v,a.defers=base.defers->a.tmps.size=base.tmps.size->(∀ j,(∀ i,i<N->d i≠j)->a.tmps[j]?=base.tmps[j]?)->a.tmps[d C]?=au v->dJ x bb (Tn v) t->V C v x->Sto bb W x->(∃ vs:Nat->aG,∀ i,i<N->i≠S->a.tmps[d i]?=au (vs i)/\(N<=last i->V i (vs i) x))->Q .normal a x):(Code.region id l.toArray true).wp P Q base W:=by
 have hbl:bb<W.heap.size:=mX.lt;refine o9 (fun L a x=>InY l N S C d last V t bb old Tn base W L a x) hm hf ?_ ?_ ?_
 ·exact⟨fun i o h=>absurd h (gH _ _),fun i _=>gH _ _,rfl,rfl,fun _ _=>rfl,⟨⟨fun _ _ _=>rfl,aQ _⟩,fun B hB=>(ay _ _).drew⟩,⟨fun _=>.bool true,fun i _ _ h=>absurd h (gH _ _)⟩,fun _=>⟨(ay _ _).drew,mX⟩,fun h=>absurd h (gH _ _)⟩
 ·intro L a x i o hsz I ho hnd mO;have hi:i<l.length:=(List.getElem?_eq_some_iff.1 ho).1;have ZT:i<N:=by omega
  have Aa:i<L.size:=by omega
  obtain⟨vs,hvs⟩:=I.val;obtain⟨oS,JR⟩:∃ oS,l[S]?=au oS:=⟨_,List.getElem?_eq_getElem (by omega)⟩;have hon:∀ e∈o.after,aH .any e=true->e.on<i:=fun e he hb=>by
   have h7:=List.all_eq_true.1 hf i (List.mem_range.2 (by simpa using hi));have ho':(l.toArray)[i]?=au o:=by simpa using ho
   rw [ho'] at h7;have h8:=Array.all_eq_true'.1 h7 e he;rw [hb] at h8;simpa using h8
  have dd:∀ {k},k≠i->done (L.setIfInBounds i true) k->done L k:=fun {k} h h5=>((ig Aa k).1 h5).resolve_left h;have du:∀ {k},done L k->done (L.setIfInBounds i true) k:=fun {k} h=>(ig Aa k).2 (aM h);have cl':∀ k q,done (L.setIfInBounds i true) k->l[k]?=au q->∀ e∈q.after,aH .any e=true->done (L.setIfInBounds i true) e.on:=fun k q hk hq e he hb=>by
   by_cases e2:k=i
   ·subst e2;rw [hq] at ho;cases ho;exact du (mO e he hb)
   ·exact du (I.cl k q (dd e2 hk) hq e he hb)
  have no':∀ k,N<=k->¬ done (L.setIfInBounds i true) k:=fun k hk h=>I.no k hk (dd (by omega) h);have early:∀ k,k<N->k≠S->fl k=false->¬ done L k->¬ done L S:=fun k hk D5 hfk hnk hdS=>by
   obtain⟨e,h1,h2,h3⟩:=hfl oS JR k hk D5 hfk;exact hnk (h3 ▸ I.cl S oS hdS JR e h1 h2)
  by_cases Az:i=S
  ·subst Az;have dC:done L C:=by
    obtain⟨e,h1,h2,h3⟩:=hfl o ho C hC hCS aiE;exact h3 ▸ mO e h1 h2
   obtain⟨v1,v2⟩:=hvs C hC hCS dC;have vC:=v2 (I.no _ hlC);obtain⟨b1,b2⟩:=I.box hnd;refine hoS o ho a x (vs C) b1 b2 (dL v1) vC (fun j u hu hj=>dL (by rw [I.kp j hj]; exact hu)) _ (fun x' q1 q2 q3 q4=>⟨cl',no',I.df,I.sz,I.kp,⟨⟨fun k hk hne=>(q1.1 k (aN hk b1.size) hne).trans (I.sto.1.1 k hk hne),aC b1.size q1.2⟩,fun B hB=>q2 B W hB (I.sto.2 B hB)⟩,⟨vs,fun k hk D5 hdn=>?_⟩,fun hn=>absurd ((ig Aa _).2 (Or.inl rfl)) hn,fun _=>⟨vs C,v1,q3,?_⟩⟩)
   ·obtain⟨w1,w2⟩:=hvs k hk D5 (dd D5 hdn);refine⟨w1,fun hnl=>?_⟩;rcases hlast k hk D5 with h5|⟨h5,h6,h7⟩
    ·exact q4 k _ hk D5 h5 (w2 (I.no _ h5))
    ·exfalso;obtain⟨e,g1,g2,g3⟩:=hfl o ho (last k) h5 h6 h7;exact hnl (du (g3 ▸ mO e g1 g2))
   ·exact q4 C _ hC hCS hlC vC
  ·have seen:abP i N S d last V base o a x:=⟨fun j u hj hu=>dL (by rw [I.kp j hj]; exact hu),fun e he hb hS' hl=>by
    obtain⟨h1,h2⟩:=hvs e.on (by have:=hon e he hb; omega) hS' (mO e he hb);rw [dL h1];refine h2 ?_;rcases hl with hl|hl
    ·rw [hl]; exact hnd
    ·exact I.no _ hl⟩
   refine hop i o ZT Az ho a x (fun hfi=>I.box (early i ZT Az hfi hnd)) seen _ (fun v x' hpv hb=>?_);have self:(a.put (au (d i)) v).tmps[d i]?=au v:=by
    have h5:d i<a.tmps.size:=by rw [I.sz]; exact hs i ZT Az
    simp [Act.put,h5]
   have keep:∀ k,k<N->k≠S->k≠i->(a.put (au (d i)) v).tmps[d k]?=a.tmps[d k]?:=fun k hk D5 hki=>get_put _ _ _ _ (fun e=>hki (hinj _ _ hk ZT D5 Az e));refine⟨cl',no',I.df,by rw [size_put]; exact I.sz,fun j hj=>?_,I.sto.grow hbl hb,⟨fun k=>if k=i then v else vs k,fun k hk D5 hdn=>?_⟩,fun h2=>?_,fun h1=>?_⟩
   ·rw [get_put _ _ _ _ (fun e=>hj i ZT e.symm)];exact I.kp j hj
   ·by_cases e:k=i
    ·subst e;simp only [if_true];exact⟨self,fun _=>hpv⟩
    ·simp only [if_neg e];obtain⟨h3,h4⟩:=hvs k hk D5 (dd e hdn);exact⟨by rw [keep k hk D5 e]; exact h3,fun h6=>hV k _ _ _ hk (h4 (fun h=>h6 (du h))) hb⟩
   ·obtain⟨b1,b2⟩:=I.box (fun h=>h2 (du h));exact⟨b1.trans (hb.mono b1.size),b2.on hb⟩
   ·have h2:=dd (Ne.symm Az) h1;obtain⟨u,h6,h8,h9⟩:=I.fin h2;obtain⟨ec,k4,k5,k6⟩:=hfl oS JR C hC hCS aiE;have dC:=I.cl S oS h2 JR ec k4 k5;rw [k6] at dC;have eC:C≠i:=fun e=>hnd (e ▸ dC);exact⟨u,by rw [keep C hC hCS eC]; exact h6,h8.on hb,hV C _ _ _ hC h9 hb⟩
 ·intro L a x I hd;have dS:=hd S (by omega);obtain⟨v,h2,h4,h5⟩:=I.fin dS;obtain⟨vs,hvs⟩:=I.val;exact hend a x v I.df I.sz I.kp h2 h4 h5 I.sto ⟨vs,fun i hi Az=>by
   obtain⟨k1,k2⟩:=hvs i hi Az (hd i (by omega));exact⟨k1,fun hl=>k2 (I.no _ hl)⟩⟩
end Rg
end Go.Proofs.YtmklifheakemeaaGreat
