/-
  Name of package tupl. Conditions as told.
-/
import Derived.Test.YtncogjpmboglhaaGreatF014
import Derived.IntWalk
import Derived.Test.YtncogjpmboglhaaGreatF012
import Derived.Test.YtncogjpmboglhaaGreatF007
import Derived.Test.YtncogjpmboglhaaGreatF006
import Derived.Test.YtncogjpmboglhaaGreatF008
import Derived.Test.YtncogjpmboglhaaGreatF001
set_option maxRecDepth 100000
set_option maxHeartbeats 64000000
namespace Go.Proofs.YtncogjpmboglhaaGreat.Pr
open Go.RowKit Go.Sort Pu Rw Va
end Go.Proofs.YtncogjpmboglhaaGreat.Pr
namespace Go.Proofs.YtncogjpmboglhaaGreat.Avp
open Go.RowKit Go.Sort Rw YtncogjpmboglhaaGreat.Nm At Pr Wr Va
end Go.Proofs.YtncogjpmboglhaaGreat.Avp
namespace Go.Proofs.YtncogjpmboglhaaGreat.Av
open Go.RowKit Go.Sort Rw YtncogjpmboglhaaGreat.Nm Pr Bk
def cp1V (B:Nat) (b1:Nat) (_me:Int) (_z2 _z4 _z5:Value) (o1:Option Addr) (n1 c1:Nat) (nl:List Int) (o3:Option Addr) (n3 c3:Nat) (sl:List XID) (i:Nat) (v:Value) (x:World):Prop :=
 match i with
 | 0=>v=.pointer (some ⟨b1,1,none⟩)
 | 1=>v=.slice o1 n1 c1
 | 2=>∃ s:Sl,v=slv s∧OwnI x B v nl
 | 3=>v=.pointer (some ⟨b1,3,none⟩)
 | 4=>v=.slice o3 n3 c3
 | 5=>∃ s:Sl,v=slv s∧OwnJ x B v sl
 | 6=>v=.pointer (some ⟨b1,1,none⟩)
 | _=>True
noncomputable def cp1C:Code:=((Tryz.f76.body.bind (findRegion 1)).getD .skip)
theorem cp1V_on (B:Nat) (b1:Nat) (me:Int) (z2 z4 z5:Value) (o1:Option Addr) (n1 c1:Nat) (nl:List Int) (o3:Option Addr) (n3 c3:Nat) (sl:List XID) (i:Nat) (v:Value) (x x':World) (h:cp1V B b1 me z2 z4 z5 o1 n1 c1 nl o3 n3 c3 sl i v x) (hb:Below x.heap.size x x'):cp1V B b1 me z2 z4 z5 o1 n1 c1 nl o3 n3 c3 sl i v x':=by
 by_cases hi:i<7
 ·rcases (by omega:i=0∨i=1∨i=2∨i=3∨i=4∨i=5∨i=6) with rfl|rfl|rfl|rfl|rfl|rfl|rfl
  ·exact h
  ·exact h
  ·obtain⟨s,h1,h2⟩:=h; exact⟨s,h1,Bk.own_on h2 hb⟩
  ·exact h
  ·exact h
  ·obtain⟨s,h1,h2⟩:=h; exact⟨s,h1,Bk.own_on h2 hb⟩
  ·exact h
 ·unfold cp1V
  split <;> first | omega | trivial
theorem cp1 (Q:Exit→Act→World→Prop) (W:World) (b1:Nat) (me:Int) (z2 z4 z5:Value) (o1:Option Addr) (n1 c1:Nat) (nl:List Int) (o3:Option Addr) (n3 c3:Nat) (sl:List XID) (u0 u2 u3 u4 u5 u6 u7 u8 u9 u10 u11 u12 u13 u14 u15 u16 u17 u18 u19 u20 u21 u22 u23 u24 u25 u26 u27 u28 u29 u30 u31 u32 u33 u34 u35 u36 u37 u38 u39 u40 u41 u42 u43 u44 u45 u46 u47 u48 u49 u50 u51 u52 u53 u54 u55 u56 u57 u58 u59 u60 u61 u62 u63 u64 u65 u66 u67 u68 u69 u70 u71 u72 u73 u74 u75 u76 u77 u78 u79 u80 u81:Value)
  (h1:Box W b1 #[.int .i64 me,.slice o1 n1 c1,z2,.slice o3 n3 c3,z4,z5] 31) (r1:RowI W (.slice o1 n1 c1) nl) (r3:RowJ W (.slice o3 n3 c3) sl) (l1:nl.length≤900) (l3:sl.length≤900)
  (hQ:∀ (x:World) (v6 v7 v8 v9 v10 v11 v12 v13:Value) (p1:Option Addr) (q1 s1:Nat) (p3:Option Addr) (q3 s3:Nat),Box x b1 #[.int .i64 me,.slice p1 q1 s1,z2,.slice p3 q3 s3,z4,z5] 31→OwnI x W.heap.size (.slice p1 q1 s1) nl→OwnJ x W.heap.size (.slice p3 q3 s3) sl→(∀ B,B≤b1→Below B W x)→(∀ k,k<W.heap.size→k≠b1→x.heap[k]?=W.heap[k]?)→Q .normal ⟨(u0::.pointer (some ⟨b1,0,none⟩)::u2::u3::u4::u5::v6::v7::v8::v9::v10::v11::v12::v13::u14::u15::u16::u17::u18::u19::u20::u21::u22::u23::u24::u25::u26::u27::u28::u29::u30::u31::u32::u33::u34::u35::u36::u37::u38::u39::u40::u41::u42::u43::u44::u45::u46::u47::u48::u49::u50::u51::u52::u53::u54::u55::u56::u57::u58::u59::u60::u61::u62::u63::u64::u65::u66::u67::u68::u69::u70::u71::u72::u73::u74::u75::u76::u77::u78::u79::u80::u81::[]).toArray,[]⟩ x) :
  Code.wp Tryz.prog cp1C Q ⟨(u0::.pointer (some ⟨b1,0,none⟩)::u2::u3::u4::u5::u6::u7::u8::u9::u10::u11::u12::u13::u14::u15::u16::u17::u18::u19::u20::u21::u22::u23::u24::u25::u26::u27::u28::u29::u30::u31::u32::u33::u34::u35::u36::u37::u38::u39::u40::u41::u42::u43::u44::u45::u46::u47::u48::u49::u50::u51::u52::u53::u54::u55::u56::u57::u58::u59::u60::u61::u62::u63::u64::u65::u66::u67::u68::u69::u70::u71::u72::u73::u74::u75::u76::u77::u78::u79::u80::u81::[]).toArray,[]⟩ W:=by
 have HQ:=Lib.hid hQ
 have H1:=Lib.hid h1
 have R1:=Lib.hid r1
 have R3:=Lib.hid r3
 have L1:=Lib.hid l1
 have L3:=Lib.hid l3
 clear hQ h1 r1 r3 l1 l3
 have stab:=cp1V_on W.heap.size b1 me z2 z4 z5 o1 n1 c1 nl o3 n3 c3 sl
 unfold cp1C
 conv=>arg 2; whnf
 have nd:∀ j,(j<6∨13≤j)→∀ i,i<7→(fun i=>6+i) i≠j:=by
  intro j hj i hi h
  simp only at h
  omega
 refine Rg.region_live 10 7 (fun i=>6+i) (fun _=>7) (cp1V W.heap.size b1 me z2 z4 z5 o1 n1 c1 nl o3 n3 c3 sl) (by kernel_rfl) (by kernel_rfl) rfl (by decide) (fun i j _ _ h=>by have h2:6+i=6+j:=h; omega) (fun i hi=>by show 6+i<82; omega) ?_ (fun _=>Rg.hall_of 14 (by kernel_rfl)) ?_ ?_
 ·intro i o hi ho a x D hnd hc hD hb seen K hK
  clear HQ
  rcases (by omega:i=0∨i=1∨i=2∨i=3∨i=4∨i=5∨i=6) with rfl|rfl|rfl|rfl|rfl|rfl|rfl
  ·obtain rfl:=Option.some.inj ho
   have e1:a.eval (.tmp 1)=.pointer (some ⟨b1,0,none⟩):=seen.kp 1 _ (nd 1 (by omega)) rfl
   exact Rg.op_value rfl rfl (Rg.ex_field a.eval _ 31 (.tmp 1) 1 rfl (by rw [e1]; simp [go_sem])) (hK _ _ rfl (Below.refl _ _) fun _ _ _ _ _ _ _ h=>h)
  ·obtain rfl:=Option.some.inj ho
   have e6:a.eval (.tmp 6)=.pointer (some ⟨b1,1,none⟩):=seen.at_ ⟨0,.data⟩ (by simp) rfl (Or.inr (by decide))
   have y1:=(H1.out.on hb).cell 1
   simp only [List.getElem?_toArray,List.getElem?_cons_zero,List.getElem?_cons_succ] at y1
   exact Rg.op_value rfl rfl (Rg.ex_load a.eval _ 25 (.tmp 6) rfl (by rw [e6]; simp [go_sem,y1])) (hK _ _ rfl (Below.refl _ _) fun _ _ _ _ _ _ _ h=>h)
  ·obtain rfl:=Option.some.inj ho
   have e7:a.eval (.tmp 7)=.slice o1 n1 c1:=seen.at_ ⟨1,.data⟩ (by simp) rfl (Or.inr (by decide))
   exact Rg.op_call rfl rfl (Rw.ex_call1 a.eval _ (.tmp 7) 25 65 rfl e7 rfl _ (call_fn Tryz.func65 rfl rfl _ _)) (cloneI_any (o1,n1,c1) nl x (R1.out.on hb) L1.out) fun e w1 h=>by
    obtain⟨⟨s,rfl,h1⟩,h3⟩:=h
    exact⟨_,rfl,hK _ _ ⟨s,rfl,own_fewer h1 hb.size⟩ (h3.mono hb.size) fun j u hj _ _ _ hne h=>stab j u _ _ h h3⟩
  ·obtain rfl:=Option.some.inj ho
   have e1:a.eval (.tmp 1)=.pointer (some ⟨b1,0,none⟩):=seen.kp 1 _ (nd 1 (by omega)) rfl
   exact Rg.op_value rfl rfl (Rg.ex_field a.eval _ 31 (.tmp 1) 3 rfl (by rw [e1]; simp [go_sem])) (hK _ _ rfl (Below.refl _ _) fun _ _ _ _ _ _ _ h=>h)
  ·obtain rfl:=Option.some.inj ho
   have e9:a.eval (.tmp 9)=.pointer (some ⟨b1,3,none⟩):=seen.at_ ⟨3,.data⟩ (by simp) rfl (Or.inr (by decide))
   have y3:=(H1.out.on hb).cell 3
   simp only [List.getElem?_toArray,List.getElem?_cons_zero,List.getElem?_cons_succ] at y3
   exact Rg.op_value rfl rfl (Rg.ex_load a.eval _ 27 (.tmp 9) rfl (by rw [e9]; simp [go_sem,y3])) (hK _ _ rfl (Below.refl _ _) fun _ _ _ _ _ _ _ h=>h)
  ·obtain rfl:=Option.some.inj ho
   have e10:a.eval (.tmp 10)=.slice o3 n3 c3:=seen.at_ ⟨4,.data⟩ (by simp) rfl (Or.inr (by decide))
   exact Rg.op_call rfl rfl (Rw.ex_call1 a.eval _ (.tmp 10) 27 122 rfl e10 rfl _ (call_fn Tryz.func122 rfl rfl _ _)) (cloneJ_any (o3,n3,c3) sl x (R3.out.on hb) L3.out) fun e w1 h=>by
    obtain⟨⟨s,rfl,h1⟩,h3⟩:=h
    exact⟨_,rfl,hK _ _ ⟨s,rfl,own_fewer h1 hb.size⟩ (h3.mono hb.size) fun j u hj _ _ _ hne h=>stab j u _ _ h h3⟩
  ·obtain rfl:=Option.some.inj ho
   have e1:a.eval (.tmp 1)=.pointer (some ⟨b1,0,none⟩):=seen.kp 1 _ (nd 1 (by omega)) rfl
   exact Rg.op_value rfl rfl (Rg.ex_field a.eval _ 31 (.tmp 1) 1 rfl (by rw [e1]; simp [go_sem])) (hK _ _ rfl (Below.refl _ _) fun _ _ _ _ _ _ _ h=>h)
 ·intro kk o h1 h2 ho
  rcases (by omega:kk=8∨kk=9) with rfl|rfl
  ·obtain rfl:=Option.some.inj ho
   exact⟨⟨7,.phase⟩,by simp,rfl,rfl⟩
  ·obtain rfl:=Option.some.inj ho
   exact⟨⟨8,.data⟩,by simp,rfl,rfl⟩
 ·intro a w' df sz kp ⟨vs,hv⟩ hb
  have sz':a.tmps.size=82:=sz
  have g1:a.tmps[1]?=some (.pointer (some ⟨b1,0,none⟩)):=(kp 1 (nd 1 (by omega))).trans rfl
  have g12:a.tmps[12]?=some (.pointer (some ⟨b1,1,none⟩)):=by
   have h:vs 6=.pointer (some ⟨b1,1,none⟩):=(hv 6 (by omega)).2 (by decide)
   rw [← h]
   exact (hv 6 (by omega)).1
  obtain⟨⟨p1,q1,s1⟩,hs1,ho1⟩:=(hv 2 (by omega)).2 (by decide)
  have g8:a.tmps[8]?=some (.slice p1 q1 s1):=((hv 2 (by omega)).1).trans (congrArg some hs1)
  rw [hs1] at ho1
  obtain⟨⟨p3,q3,s3⟩,hs3,ho3⟩:=(hv 5 (by omega)).2 (by decide)
  have g11:a.tmps[11]?=some (.slice p3 q3 s3):=((hv 5 (by omega)).1).trans (congrArg some hs3)
  rw [hs3] at ho3
  have hB:=H1.out.on hb
  have hlt:=H1.out.lt
  show Rg.SeqFrom _ _ _ 3 7 a w'
  simp only [Rg.SeqFrom]
  have c1x:=hB.cell 1
  have f1x:=hB.fr 1
  simp only [List.getElem?_toArray,List.getElem?_cons_zero,List.getElem?_cons_succ] at c1x
  refine Rg.op_store 25 (.tmp 12) (.tmp 8) rfl rfl rfl rfl (Rg.eval_some g12) (Rg.eval_some g8) (w':=(w').setCell ⟨b1,1,none⟩ (.slice p1 q1 s1)) (by simp [go_sem,c1x,f1x]) ?_
  have hB1:Box ((w').setCell ⟨b1,1,none⟩ (.slice p1 q1 s1)) b1 #[.int .i64 me,.slice p1 q1 s1,z2,.slice o3 n3 c3,z4,z5] 31:=by simpa using box_set (k:=1) hB (.slice p1 q1 s1)
  refine Rg.op_value rfl rfl (Rg.ex_field _ _ 31 (.tmp 1) 3 rfl (v:=.pointer (some ⟨b1,3,none⟩)) (by rw [Rg.eval_some g1]; simp [go_sem])) ?_
  have hp13:((a).put (some 13) (.pointer (some ⟨b1,3,none⟩))).tmps[13]?=some (.pointer (some ⟨b1,3,none⟩)):=by simp [Act.put,sz']
  show Go.wpOp _ _ _ 9 _ ((a).put (some 13) (.pointer (some ⟨b1,3,none⟩))) _
  have c3x:=hB1.cell 3
  have f3x:=hB1.fr 3
  simp only [List.getElem?_toArray,List.getElem?_cons_zero,List.getElem?_cons_succ] at c3x
  refine Rg.op_store 27 (.tmp 13) (.tmp 11) rfl rfl rfl rfl (Rg.eval_some hp13) (Rg.eval_some ((Rg.get_put _ 13 _ 11 (by decide)).trans g11)) (w':=((w').setCell ⟨b1,1,none⟩ (.slice p1 q1 s1)).setCell ⟨b1,3,none⟩ (.slice p3 q3 s3)) (by simp [go_sem,c3x,f3x]) ?_
  have hB3:Box (((w').setCell ⟨b1,1,none⟩ (.slice p1 q1 s1)).setCell ⟨b1,3,none⟩ (.slice p3 q3 s3)) b1 #[.int .i64 me,.slice p1 q1 s1,z2,.slice p3 q3 s3,z4,z5] 31:=by simpa using box_set (k:=3) hB1 (.slice p3 q3 s3)
  have kp2:∀ j,(j<6∨14≤j)→((a).put (some 13) (.pointer (some ⟨b1,3,none⟩))).tmps[j]?=(u0::.pointer (some ⟨b1,0,none⟩)::u2::u3::u4::u5::u6::u7::u8::u9::u10::u11::u12::u13::u14::u15::u16::u17::u18::u19::u20::u21::u22::u23::u24::u25::u26::u27::u28::u29::u30::u31::u32::u33::u34::u35::u36::u37::u38::u39::u40::u41::u42::u43::u44::u45::u46::u47::u48::u49::u50::u51::u52::u53::u54::u55::u56::u57::u58::u59::u60::u61::u62::u63::u64::u65::u66::u67::u68::u69::u70::u71::u72::u73::u74::u75::u76::u77::u78::u79::u80::u81::[])[j]?:=fun j hj=>(Rg.get_put _ 13 _ j (by omega)).trans ((kp j (nd j (by omega))).trans List.getElem?_toArray)
  obtain⟨mid,hmid,hfr⟩:=Rg.frame_mid (a:=(a).put (some 13) (.pointer (some ⟨b1,3,none⟩))) 6 8 df (by simp [Rg.size_put,sz']) (by simp) kp2
  show Q .normal ((a).put (some 13) (.pointer (some ⟨b1,3,none⟩))) _
  rw [hfr]
  match mid,hmid with
  | [v6,v7,v8,v9,v10,v11,v12,v13],_ =>
   exact HQ.out _ _ _ _ _ _ _ _ _ p1 q1 s1 p3 q3 s3 hB3 (own_cell (own_cell ho1 b1 1 (.slice p1 q1 s1) hlt) b1 3 (.slice p3 q3 s3) hlt) (own_cell (own_cell ho3 b1 1 (.slice p1 q1 s1) hlt) b1 3 (.slice p3 q3 s3) hlt) (fun B hBl=>(((hb.mono (Nat.le_of_lt (Nat.lt_of_le_of_lt hBl hlt))).setCell (p:=⟨b1,1,none⟩) hBl (.slice p1 q1 s1)).setCell (p:=⟨b1,3,none⟩) hBl (.slice p3 q3 s3))) (fun k hk hne=>((RowKit.Below.heap_setCell ((w').setCell ⟨b1,1,none⟩ (.slice p1 q1 s1)) ⟨b1,3,none⟩ (.slice p3 q3 s3) k hne).trans ((RowKit.Below.heap_setCell (w') ⟨b1,1,none⟩ (.slice p1 q1 s1) k hne).trans (hb.block k hk))))
def cp2V (B:Nat) (b1:Nat) (_me:Int) (_z1 _z3:Value) (o2:Option Addr) (n2 c2:Nat) (al:List XAd) (o4:Option Addr) (n4 c4:Nat) (el:List XEn) (o5:Option Addr) (n5 c5:Nat) (ol:List XOw) (i:Nat) (v:Value) (x:World):Prop :=
 match i with
 | 0=>v=.pointer (some ⟨b1,2,none⟩)
 | 1=>v=.slice o2 n2 c2
 | 2=>∃ s:Sl,v=slv s∧OwnD x B v al
 | 3=>v=.pointer (some ⟨b1,4,none⟩)
 | 4=>v=.slice o4 n4 c4
 | 5=>∃ s:Sl,v=slv s∧OwnN x B v el
 | 6=>v=.pointer (some ⟨b1,5,none⟩)
 | 7=>v=.slice o5 n5 c5
 | 8=>∃ s:Sl,v=slv s∧OwnW x B v ol
 | 9=>v=.pointer (some ⟨b1,2,none⟩)
 | _=>True
noncomputable def cp2C:Code:=((Tryz.f76.body.bind (findRegion 2)).getD .skip)
theorem cp2V_on (B:Nat) (b1:Nat) (me:Int) (z1 z3:Value) (o2:Option Addr) (n2 c2:Nat) (al:List XAd) (o4:Option Addr) (n4 c4:Nat) (el:List XEn) (o5:Option Addr) (n5 c5:Nat) (ol:List XOw) (i:Nat) (v:Value) (x x':World) (h:cp2V B b1 me z1 z3 o2 n2 c2 al o4 n4 c4 el o5 n5 c5 ol i v x) (hb:Below x.heap.size x x'):cp2V B b1 me z1 z3 o2 n2 c2 al o4 n4 c4 el o5 n5 c5 ol i v x':=by
 by_cases hi:i<10
 ·rcases (by omega:i=0∨i=1∨i=2∨i=3∨i=4∨i=5∨i=6∨i=7∨i=8∨i=9) with rfl|rfl|rfl|rfl|rfl|rfl|rfl|rfl|rfl|rfl
  ·exact h
  ·exact h
  ·obtain⟨s,h1,h2⟩:=h; exact⟨s,h1,Bk.own_on h2 hb⟩
  ·exact h
  ·exact h
  ·obtain⟨s,h1,h2⟩:=h; exact⟨s,h1,Bk.own_on h2 hb⟩
  ·exact h
  ·exact h
  ·obtain⟨s,h1,h2⟩:=h; exact⟨s,h1,Bk.own_on h2 hb⟩
  ·exact h
 ·unfold cp2V
  split <;> first | omega | trivial
theorem cp2 (Q:Exit→Act→World→Prop) (W:World) (b1:Nat) (me:Int) (z1 z3:Value) (o2:Option Addr) (n2 c2:Nat) (al:List XAd) (o4:Option Addr) (n4 c4:Nat) (el:List XEn) (o5:Option Addr) (n5 c5:Nat) (ol:List XOw) (u0 u2 u3 u4 u5 u6 u7 u8 u9 u10 u11 u12 u13 u14 u15 u16 u17 u18 u19 u20 u21 u22 u23 u24 u25 u26 u27 u28 u29 u30 u31 u32 u33 u34 u35 u36 u37 u38 u39 u40 u41 u42 u43 u44 u45 u46 u47 u48 u49 u50 u51 u52 u53 u54 u55 u56 u57 u58 u59 u60 u61 u62 u63 u64 u65 u66 u67 u68 u69 u70 u71 u72 u73 u74 u75 u76 u77 u78 u79 u80 u81:Value)
  (h1:Box W b1 #[.int .i64 me,z1,.slice o2 n2 c2,z3,.slice o4 n4 c4,.slice o5 n5 c5] 31) (r2:RowD W (.slice o2 n2 c2) al) (r4:RowN W (.slice o4 n4 c4) el) (r5:RowW W (.slice o5 n5 c5) ol) (l2:al.length≤900) (l4:el.length≤900) (l5:ol.length≤900)
  (hQ:∀ (x:World) (v14 v15 v16 v17 v18 v19 v20 v21 v22 v23 v24 v25:Value) (p2:Option Addr) (q2 s2:Nat) (p4:Option Addr) (q4 s4:Nat) (p5:Option Addr) (q5 s5:Nat),Box x b1 #[.int .i64 me,z1,.slice p2 q2 s2,z3,.slice p4 q4 s4,.slice p5 q5 s5] 31→OwnD x W.heap.size (.slice p2 q2 s2) al→OwnN x W.heap.size (.slice p4 q4 s4) el→OwnW x W.heap.size (.slice p5 q5 s5) ol→(∀ B,B≤b1→Below B W x)→(∀ k,k<W.heap.size→k≠b1→x.heap[k]?=W.heap[k]?)→Q .normal ⟨(u0::.pointer (some ⟨b1,0,none⟩)::u2::u3::u4::u5::u6::u7::u8::u9::u10::u11::u12::u13::v14::v15::v16::v17::v18::v19::v20::v21::v22::v23::v24::v25::u26::u27::u28::u29::u30::u31::u32::u33::u34::u35::u36::u37::u38::u39::u40::u41::u42::u43::u44::u45::u46::u47::u48::u49::u50::u51::u52::u53::u54::u55::u56::u57::u58::u59::u60::u61::u62::u63::u64::u65::u66::u67::u68::u69::u70::u71::u72::u73::u74::u75::u76::u77::u78::u79::u80::u81::[]).toArray,[]⟩ x) :
  Code.wp Tryz.prog cp2C Q ⟨(u0::.pointer (some ⟨b1,0,none⟩)::u2::u3::u4::u5::u6::u7::u8::u9::u10::u11::u12::u13::u14::u15::u16::u17::u18::u19::u20::u21::u22::u23::u24::u25::u26::u27::u28::u29::u30::u31::u32::u33::u34::u35::u36::u37::u38::u39::u40::u41::u42::u43::u44::u45::u46::u47::u48::u49::u50::u51::u52::u53::u54::u55::u56::u57::u58::u59::u60::u61::u62::u63::u64::u65::u66::u67::u68::u69::u70::u71::u72::u73::u74::u75::u76::u77::u78::u79::u80::u81::[]).toArray,[]⟩ W:=by
 have HQ:=Lib.hid hQ
 have H1:=Lib.hid h1
 have R2:=Lib.hid r2
 have R4:=Lib.hid r4
 have R5:=Lib.hid r5
 have L2:=Lib.hid l2
 have L4:=Lib.hid l4
 have L5:=Lib.hid l5
 clear hQ h1 r2 r4 r5 l2 l4 l5
 have stab:=cp2V_on W.heap.size b1 me z1 z3 o2 n2 c2 al o4 n4 c4 el o5 n5 c5 ol
 unfold cp2C
 conv=>arg 2; whnf
 have nd:∀ j,(j<14∨24≤j)→∀ i,i<10→(fun i=>14+i) i≠j:=by
  intro j hj i hi h
  simp only at h
  omega
 refine Rg.region_live 15 10 (fun i=>14+i) (fun _=>10) (cp2V W.heap.size b1 me z1 z3 o2 n2 c2 al o4 n4 c4 el o5 n5 c5 ol) (by kernel_rfl) (by kernel_rfl) rfl (by decide) (fun i j _ _ h=>by have h2:14+i=14+j:=h; omega) (fun i hi=>by show 14+i<82; omega) ?_ (fun _=>Rg.hall_of 14 (by kernel_rfl)) ?_ ?_
 ·intro i o hi ho a x D hnd hc hD hb seen K hK
  clear HQ
  rcases (by omega:i=0∨i=1∨i=2∨i=3∨i=4∨i=5∨i=6∨i=7∨i=8∨i=9) with rfl|rfl|rfl|rfl|rfl|rfl|rfl|rfl|rfl|rfl
  ·obtain rfl:=Option.some.inj ho
   have e1:a.eval (.tmp 1)=.pointer (some ⟨b1,0,none⟩):=seen.kp 1 _ (nd 1 (by omega)) rfl
   exact Rg.op_value rfl rfl (Rg.ex_field a.eval _ 31 (.tmp 1) 2 rfl (by rw [e1]; simp [go_sem])) (hK _ _ rfl (Below.refl _ _) fun _ _ _ _ _ _ _ h=>h)
  ·obtain rfl:=Option.some.inj ho
   have e14:a.eval (.tmp 14)=.pointer (some ⟨b1,2,none⟩):=seen.at_ ⟨0,.data⟩ (by simp) rfl (Or.inr (by decide))
   have y2:=(H1.out.on hb).cell 2
   simp only [List.getElem?_toArray,List.getElem?_cons_zero,List.getElem?_cons_succ] at y2
   exact Rg.op_value rfl rfl (Rg.ex_load a.eval _ 26 (.tmp 14) rfl (by rw [e14]; simp [go_sem,y2])) (hK _ _ rfl (Below.refl _ _) fun _ _ _ _ _ _ _ h=>h)
  ·obtain rfl:=Option.some.inj ho
   have e15:a.eval (.tmp 15)=.slice o2 n2 c2:=seen.at_ ⟨1,.data⟩ (by simp) rfl (Or.inr (by decide))
   exact Rg.op_call rfl rfl (Rw.ex_call1 a.eval _ (.tmp 15) 26 123 rfl e15 rfl _ (call_fn Tryz.func123 rfl rfl _ _)) (cloneD_any (o2,n2,c2) al x (R2.out.on hb) L2.out) fun e w1 h=>by
    obtain⟨⟨s,rfl,h1⟩,h3⟩:=h
    exact⟨_,rfl,hK _ _ ⟨s,rfl,own_fewer h1 hb.size⟩ (h3.mono hb.size) fun j u hj _ _ _ hne h=>stab j u _ _ h h3⟩
  ·obtain rfl:=Option.some.inj ho
   have e1:a.eval (.tmp 1)=.pointer (some ⟨b1,0,none⟩):=seen.kp 1 _ (nd 1 (by omega)) rfl
   exact Rg.op_value rfl rfl (Rg.ex_field a.eval _ 31 (.tmp 1) 4 rfl (by rw [e1]; simp [go_sem])) (hK _ _ rfl (Below.refl _ _) fun _ _ _ _ _ _ _ h=>h)
  ·obtain rfl:=Option.some.inj ho
   have e17:a.eval (.tmp 17)=.pointer (some ⟨b1,4,none⟩):=seen.at_ ⟨3,.data⟩ (by simp) rfl (Or.inr (by decide))
   have y4:=(H1.out.on hb).cell 4
   simp only [List.getElem?_toArray,List.getElem?_cons_zero,List.getElem?_cons_succ] at y4
   exact Rg.op_value rfl rfl (Rg.ex_load a.eval _ 28 (.tmp 17) rfl (by rw [e17]; simp [go_sem,y4])) (hK _ _ rfl (Below.refl _ _) fun _ _ _ _ _ _ _ h=>h)
  ·obtain rfl:=Option.some.inj ho
   have e18:a.eval (.tmp 18)=.slice o4 n4 c4:=seen.at_ ⟨4,.data⟩ (by simp) rfl (Or.inr (by decide))
   exact Rg.op_call rfl rfl (Rw.ex_call1 a.eval _ (.tmp 18) 28 124 rfl e18 rfl _ (call_fn Tryz.func124 rfl rfl _ _)) (cloneN_any (o4,n4,c4) el x (R4.out.on hb) L4.out) fun e w1 h=>by
    obtain⟨⟨s,rfl,h1⟩,h3⟩:=h
    exact⟨_,rfl,hK _ _ ⟨s,rfl,own_fewer h1 hb.size⟩ (h3.mono hb.size) fun j u hj _ _ _ hne h=>stab j u _ _ h h3⟩
  ·obtain rfl:=Option.some.inj ho
   have e1:a.eval (.tmp 1)=.pointer (some ⟨b1,0,none⟩):=seen.kp 1 _ (nd 1 (by omega)) rfl
   exact Rg.op_value rfl rfl (Rg.ex_field a.eval _ 31 (.tmp 1) 5 rfl (by rw [e1]; simp [go_sem])) (hK _ _ rfl (Below.refl _ _) fun _ _ _ _ _ _ _ h=>h)
  ·obtain rfl:=Option.some.inj ho
   have e20:a.eval (.tmp 20)=.pointer (some ⟨b1,5,none⟩):=seen.at_ ⟨6,.data⟩ (by simp) rfl (Or.inr (by decide))
   have y5:=(H1.out.on hb).cell 5
   simp only [List.getElem?_toArray,List.getElem?_cons_zero,List.getElem?_cons_succ] at y5
   exact Rg.op_value rfl rfl (Rg.ex_load a.eval _ 29 (.tmp 20) rfl (by rw [e20]; simp [go_sem,y5])) (hK _ _ rfl (Below.refl _ _) fun _ _ _ _ _ _ _ h=>h)
  ·obtain rfl:=Option.some.inj ho
   have e21:a.eval (.tmp 21)=.slice o5 n5 c5:=seen.at_ ⟨7,.data⟩ (by simp) rfl (Or.inr (by decide))
   exact Rg.op_call rfl rfl (Rw.ex_call1 a.eval _ (.tmp 21) 29 125 rfl e21 rfl _ (call_fn Tryz.func125 rfl rfl _ _)) (cloneW_any (o5,n5,c5) ol x (R5.out.on hb) L5.out) fun e w1 h=>by
    obtain⟨⟨s,rfl,h1⟩,h3⟩:=h
    exact⟨_,rfl,hK _ _ ⟨s,rfl,own_fewer h1 hb.size⟩ (h3.mono hb.size) fun j u hj _ _ _ hne h=>stab j u _ _ h h3⟩
  ·obtain rfl:=Option.some.inj ho
   have e1:a.eval (.tmp 1)=.pointer (some ⟨b1,0,none⟩):=seen.kp 1 _ (nd 1 (by omega)) rfl
   exact Rg.op_value rfl rfl (Rg.ex_field a.eval _ 31 (.tmp 1) 2 rfl (by rw [e1]; simp [go_sem])) (hK _ _ rfl (Below.refl _ _) fun _ _ _ _ _ _ _ h=>h)
 ·intro kk o h1 h2 ho
  rcases (by omega:kk=11∨kk=12∨kk=13∨kk=14) with rfl|rfl|rfl|rfl
  ·obtain rfl:=Option.some.inj ho
   exact⟨⟨10,.phase⟩,by simp,rfl,rfl⟩
  ·obtain rfl:=Option.some.inj ho
   exact⟨⟨11,.data⟩,by simp,rfl,rfl⟩
  ·obtain rfl:=Option.some.inj ho
   exact⟨⟨12,.phase⟩,by simp,rfl,rfl⟩
  ·obtain rfl:=Option.some.inj ho
   exact⟨⟨13,.data⟩,by simp,rfl,rfl⟩
 ·intro a w' df sz kp ⟨vs,hv⟩ hb
  have sz':a.tmps.size=82:=sz
  have g1:a.tmps[1]?=some (.pointer (some ⟨b1,0,none⟩)):=(kp 1 (nd 1 (by omega))).trans rfl
  have g23:a.tmps[23]?=some (.pointer (some ⟨b1,2,none⟩)):=by
   have h:vs 9=.pointer (some ⟨b1,2,none⟩):=(hv 9 (by omega)).2 (by decide)
   rw [← h]
   exact (hv 9 (by omega)).1
  obtain⟨⟨p2,q2,s2⟩,hs2,ho2⟩:=(hv 2 (by omega)).2 (by decide)
  have g16:a.tmps[16]?=some (.slice p2 q2 s2):=((hv 2 (by omega)).1).trans (congrArg some hs2)
  rw [hs2] at ho2
  obtain⟨⟨p4,q4,s4⟩,hs4,ho4⟩:=(hv 5 (by omega)).2 (by decide)
  have g19:a.tmps[19]?=some (.slice p4 q4 s4):=((hv 5 (by omega)).1).trans (congrArg some hs4)
  rw [hs4] at ho4
  obtain⟨⟨p5,q5,s5⟩,hs5,ho5⟩:=(hv 8 (by omega)).2 (by decide)
  have g22:a.tmps[22]?=some (.slice p5 q5 s5):=((hv 8 (by omega)).1).trans (congrArg some hs5)
  rw [hs5] at ho5
  have hB:=H1.out.on hb
  have hlt:=H1.out.lt
  show Rg.SeqFrom _ _ _ 5 10 a w'
  simp only [Rg.SeqFrom]
  have c2x:=hB.cell 2
  have f2x:=hB.fr 2
  simp only [List.getElem?_toArray,List.getElem?_cons_zero,List.getElem?_cons_succ] at c2x
  refine Rg.op_store 26 (.tmp 23) (.tmp 16) rfl rfl rfl rfl (Rg.eval_some g23) (Rg.eval_some g16) (w':=(w').setCell ⟨b1,2,none⟩ (.slice p2 q2 s2)) (by simp [go_sem,c2x,f2x]) ?_
  have hB2:Box ((w').setCell ⟨b1,2,none⟩ (.slice p2 q2 s2)) b1 #[.int .i64 me,z1,.slice p2 q2 s2,z3,.slice o4 n4 c4,.slice o5 n5 c5] 31:=by simpa using box_set (k:=2) hB (.slice p2 q2 s2)
  refine Rg.op_value rfl rfl (Rg.ex_field _ _ 31 (.tmp 1) 4 rfl (v:=.pointer (some ⟨b1,4,none⟩)) (by rw [Rg.eval_some g1]; simp [go_sem])) ?_
  have hp24:((a).put (some 24) (.pointer (some ⟨b1,4,none⟩))).tmps[24]?=some (.pointer (some ⟨b1,4,none⟩)):=by simp [Act.put,sz']
  show Go.wpOp _ _ _ 12 _ ((a).put (some 24) (.pointer (some ⟨b1,4,none⟩))) _
  have c4x:=hB2.cell 4
  have f4x:=hB2.fr 4
  simp only [List.getElem?_toArray,List.getElem?_cons_zero,List.getElem?_cons_succ] at c4x
  refine Rg.op_store 28 (.tmp 24) (.tmp 19) rfl rfl rfl rfl (Rg.eval_some hp24) (Rg.eval_some ((Rg.get_put _ 24 _ 19 (by decide)).trans g19)) (w':=((w').setCell ⟨b1,2,none⟩ (.slice p2 q2 s2)).setCell ⟨b1,4,none⟩ (.slice p4 q4 s4)) (by simp [go_sem,c4x,f4x]) ?_
  have hB4:Box (((w').setCell ⟨b1,2,none⟩ (.slice p2 q2 s2)).setCell ⟨b1,4,none⟩ (.slice p4 q4 s4)) b1 #[.int .i64 me,z1,.slice p2 q2 s2,z3,.slice p4 q4 s4,.slice o5 n5 c5] 31:=by simpa using box_set (k:=4) hB2 (.slice p4 q4 s4)
  refine Rg.op_value rfl rfl (Rg.ex_field _ _ 31 (.tmp 1) 5 rfl (v:=.pointer (some ⟨b1,5,none⟩)) (by rw [Rg.eval_some ((Rg.get_put _ 24 _ 1 (by decide)).trans g1)]; simp [go_sem])) ?_
  have hp25:(((a).put (some 24) (.pointer (some ⟨b1,4,none⟩))).put (some 25) (.pointer (some ⟨b1,5,none⟩))).tmps[25]?=some (.pointer (some ⟨b1,5,none⟩)):=by simp [Act.put,sz']
  show Go.wpOp _ _ _ 14 _ (((a).put (some 24) (.pointer (some ⟨b1,4,none⟩))).put (some 25) (.pointer (some ⟨b1,5,none⟩))) _
  have c5x:=hB4.cell 5
  have f5x:=hB4.fr 5
  simp only [List.getElem?_toArray,List.getElem?_cons_zero,List.getElem?_cons_succ] at c5x
  refine Rg.op_store 29 (.tmp 25) (.tmp 22) rfl rfl rfl rfl (Rg.eval_some hp25) (Rg.eval_some ((Rg.get_put _ 25 _ 22 (by decide)).trans ((Rg.get_put _ 24 _ 22 (by decide)).trans g22))) (w':=(((w').setCell ⟨b1,2,none⟩ (.slice p2 q2 s2)).setCell ⟨b1,4,none⟩ (.slice p4 q4 s4)).setCell ⟨b1,5,none⟩ (.slice p5 q5 s5)) (by simp [go_sem,c5x,f5x]) ?_
  have hB5:Box ((((w').setCell ⟨b1,2,none⟩ (.slice p2 q2 s2)).setCell ⟨b1,4,none⟩ (.slice p4 q4 s4)).setCell ⟨b1,5,none⟩ (.slice p5 q5 s5)) b1 #[.int .i64 me,z1,.slice p2 q2 s2,z3,.slice p4 q4 s4,.slice p5 q5 s5] 31:=by simpa using box_set (k:=5) hB4 (.slice p5 q5 s5)
  have kp2:∀ j,(j<14∨26≤j)→(((a).put (some 24) (.pointer (some ⟨b1,4,none⟩))).put (some 25) (.pointer (some ⟨b1,5,none⟩))).tmps[j]?=(u0::.pointer (some ⟨b1,0,none⟩)::u2::u3::u4::u5::u6::u7::u8::u9::u10::u11::u12::u13::u14::u15::u16::u17::u18::u19::u20::u21::u22::u23::u24::u25::u26::u27::u28::u29::u30::u31::u32::u33::u34::u35::u36::u37::u38::u39::u40::u41::u42::u43::u44::u45::u46::u47::u48::u49::u50::u51::u52::u53::u54::u55::u56::u57::u58::u59::u60::u61::u62::u63::u64::u65::u66::u67::u68::u69::u70::u71::u72::u73::u74::u75::u76::u77::u78::u79::u80::u81::[])[j]?:=fun j hj=>(Rg.get_put _ 25 _ j (by omega)).trans ((Rg.get_put _ 24 _ j (by omega)).trans ((kp j (nd j (by omega))).trans List.getElem?_toArray))
  obtain⟨mid,hmid,hfr⟩:=Rg.frame_mid (a:=((a).put (some 24) (.pointer (some ⟨b1,4,none⟩))).put (some 25) (.pointer (some ⟨b1,5,none⟩))) 14 12 df (by simp [Rg.size_put,sz']) (by simp) kp2
  show Q .normal (((a).put (some 24) (.pointer (some ⟨b1,4,none⟩))).put (some 25) (.pointer (some ⟨b1,5,none⟩))) _
  rw [hfr]
  match mid,hmid with
  | [v14,v15,v16,v17,v18,v19,v20,v21,v22,v23,v24,v25],_ =>
   exact HQ.out _ _ _ _ _ _ _ _ _ _ _ _ _ p2 q2 s2 p4 q4 s4 p5 q5 s5 hB5 (own_cell (own_cell (own_cell ho2 b1 2 (.slice p2 q2 s2) hlt) b1 4 (.slice p4 q4 s4) hlt) b1 5 (.slice p5 q5 s5) hlt) (own_cell (own_cell (own_cell ho4 b1 2 (.slice p2 q2 s2) hlt) b1 4 (.slice p4 q4 s4) hlt) b1 5 (.slice p5 q5 s5) hlt) (own_cell (own_cell (own_cell ho5 b1 2 (.slice p2 q2 s2) hlt) b1 4 (.slice p4 q4 s4) hlt) b1 5 (.slice p5 q5 s5) hlt) (fun B hBl=>((((hb.mono (Nat.le_of_lt (Nat.lt_of_le_of_lt hBl hlt))).setCell (p:=⟨b1,2,none⟩) hBl (.slice p2 q2 s2)).setCell (p:=⟨b1,4,none⟩) hBl (.slice p4 q4 s4)).setCell (p:=⟨b1,5,none⟩) hBl (.slice p5 q5 s5))) (fun k hk hne=>((RowKit.Below.heap_setCell (((w').setCell ⟨b1,2,none⟩ (.slice p2 q2 s2)).setCell ⟨b1,4,none⟩ (.slice p4 q4 s4)) ⟨b1,5,none⟩ (.slice p5 q5 s5) k hne).trans ((RowKit.Below.heap_setCell ((w').setCell ⟨b1,2,none⟩ (.slice p2 q2 s2)) ⟨b1,4,none⟩ (.slice p4 q4 s4) k hne).trans ((RowKit.Below.heap_setCell (w') ⟨b1,2,none⟩ (.slice p2 q2 s2) k hne).trans (hb.block k hk)))))
def cp6V (B:Nat) (b1:Nat) (_me:Int) (_z1 _z3 _z4 _z5:Value) (g n cap k:Nat) (y1 y2:Int) (yo:Option Addr) (yn yc:Nat) (y4:Int) (p:List C5) (i:Nat) (v:Value) (x:World):Prop :=
 match i with
 | 0=>v=.pointer (some ⟨b1,2,none⟩)
 | 1=>v=.slice (some ⟨g,0,none⟩) n cap
 | 2=>v=.int .i64 (k:Int)
 | 3=>v=.pointer (some ⟨b1,2,none⟩)
 | 4=>v=.slice (some ⟨g,0,none⟩) n cap
 | 5=>v=.int .i64 (k:Int)
 | 6=>v=.pointer (some ⟨g,k * 4,none⟩)
 | 7=>v=valD (y1,y2,(yo,yn,yc),y4)
 | 8=>∃ s:Sl,v=valD (y1,y2,s,y4)∧OwnC x B (slv s) p
 | 9=>v=.pointer (some ⟨g,k * 4,none⟩)
 | _=>True
noncomputable def cp6C:Code:=((Tryz.f76.body.bind (findRegion 6)).getD .skip)
theorem cp6V_on (B:Nat) (b1:Nat) (me:Int) (z1 z3 z4 z5:Value) (g n cap k:Nat) (y1 y2:Int) (yo:Option Addr) (yn yc:Nat) (y4:Int) (p:List C5) (i:Nat) (v:Value) (x x':World) (h:cp6V B b1 me z1 z3 z4 z5 g n cap k y1 y2 yo yn yc y4 p i v x) (hb:Below x.heap.size x x'):cp6V B b1 me z1 z3 z4 z5 g n cap k y1 y2 yo yn yc y4 p i v x':=by
 by_cases hi:i<10
 ·rcases (by omega:i=0∨i=1∨i=2∨i=3∨i=4∨i=5∨i=6∨i=7∨i=8∨i=9) with rfl|rfl|rfl|rfl|rfl|rfl|rfl|rfl|rfl|rfl
  ·exact h
  ·exact h
  ·exact h
  ·exact h
  ·exact h
  ·exact h
  ·exact h
  ·exact h
  ·obtain⟨s,h1,h2⟩:=h; exact⟨s,h1,Bk.own_on h2 hb⟩
  ·exact h
 ·unfold cp6V
  split <;> first | omega | trivial
theorem cp6 (Q:Exit→Act→World→Prop) (W:World) (B0:Nat) (l:List XAd) (b1:Nat) (me:Int) (z1 z3 z4 z5:Value) (g n cap k:Nat) (y1 y2:Int) (yo:Option Addr) (yn yc:Nat) (y4:Int) (p:List C5) (u0 u2 u4 u5 u6 u7 u8 u9 u10 u11 u12 u13 u14 u15 u16 u17 u18 u19 u20 u21 u22 u23 u24 u25 u26 u27 u28 u29 u30 u31 u32 u33 u34 u35 u36 u37 u38 u39 u40 u41 u42 u43 u44 u45 u46 u47 u48 u49 u50 u51 u52 u53 u54 u55 u56 u57 u58 u59 u60 u61 u62 u63 u64 u65 u66 u67 u68 u69 u70 u71 u72 u73 u74 u75 u76 u77 u78 u79 u80 u81:Value)
  (h1:Box W b1 #[.int .i64 me,z1,.slice (some ⟨g,0,none⟩) n cap,z3,z4,z5] 31) (ho:OwnD W B0 (.slice (some ⟨g,0,none⟩) n cap) l) (hy:l[k]?=some (y1,y2,(yo,yn,yc),y4)) (hp:RowC W (.slice yo yn yc) p) (lp:p.length≤900)
  (hQ:∀ (x:World) (v32 v33 v34 v35 v36 v37 v38 v39 v40 v41:Value) (s1:Option Addr) (s2 s3:Nat),OwnC x W.heap.size (.slice s1 s2 s3) p→OwnD x B0 (.slice (some ⟨g,0,none⟩) n cap) (l.set k (y1,y2,(s1,s2,s3),y4))→But g W x→(∀ B1,B1≤g→B1≤W.heap.size→Below B1 W x)→Q .normal ⟨(u0::.pointer (some ⟨b1,0,none⟩)::u2::.int .i64 (k:Int)::u4::u5::u6::u7::u8::u9::u10::u11::u12::u13::u14::u15::u16::u17::u18::u19::u20::u21::u22::u23::u24::u25::u26::u27::u28::u29::u30::u31::v32::v33::v34::v35::v36::v37::v38::v39::v40::v41::u42::u43::u44::u45::u46::u47::u48::u49::u50::u51::u52::u53::u54::u55::u56::u57::u58::u59::u60::u61::u62::u63::u64::u65::u66::u67::u68::u69::u70::u71::u72::u73::u74::u75::u76::u77::u78::u79::u80::u81::[]).toArray,[]⟩ x) :
  Code.wp Tryz.prog cp6C Q ⟨(u0::.pointer (some ⟨b1,0,none⟩)::u2::.int .i64 (k:Int)::u4::u5::u6::u7::u8::u9::u10::u11::u12::u13::u14::u15::u16::u17::u18::u19::u20::u21::u22::u23::u24::u25::u26::u27::u28::u29::u30::u31::u32::u33::u34::u35::u36::u37::u38::u39::u40::u41::u42::u43::u44::u45::u46::u47::u48::u49::u50::u51::u52::u53::u54::u55::u56::u57::u58::u59::u60::u61::u62::u63::u64::u65::u66::u67::u68::u69::u70::u71::u72::u73::u74::u75::u76::u77::u78::u79::u80::u81::[]).toArray,[]⟩ W:=by
 have HQ:=Lib.hid hQ
 have H1:=Lib.hid h1
 have HO:=Lib.hid ho
 have HY:=Lib.hid hy
 have HP:=Lib.hid hp
 have LP:=Lib.hid lp
 have IX:=Lib.hid (index_own okD g k n cap (by obtain⟨_,_,hv⟩:=(Row.of_own ho).len; have h:=(List.getElem?_eq_some_iff.1 hy).1; simp at hv; omega))
 have EL:=Lib.hid (own_row_at okD ho hy)
 clear hQ h1 ho hy hp lp
 have stab:=cp6V_on W.heap.size b1 me z1 z3 z4 z5 g n cap k y1 y2 yo yn yc y4 p
 unfold cp6C
 conv=>arg 2; whnf
 have nd:∀ j,(j<32∨42≤j)→∀ i,i<10→(fun i=>32+i) i≠j:=by
  intro j hj i hi h
  simp only at h
  omega
 refine Rg.region_live 11 10 (fun i=>32+i) (fun _=>10) (cp6V W.heap.size b1 me z1 z3 z4 z5 g n cap k y1 y2 yo yn yc y4 p) (by kernel_rfl) (by kernel_rfl) rfl (by decide) (fun i j _ _ h=>by have h2:32+i=32+j:=h; omega) (fun i hi=>by show 32+i<82; omega) ?_ (fun _=>Rg.hall_of 14 (by kernel_rfl)) ?_ ?_
 ·intro i o hi ho a x D hnd hc hD hb seen K hK
  clear HQ
  rcases (by omega:i=0∨i=1∨i=2∨i=3∨i=4∨i=5∨i=6∨i=7∨i=8∨i=9) with rfl|rfl|rfl|rfl|rfl|rfl|rfl|rfl|rfl|rfl
  ·obtain rfl:=Option.some.inj ho
   have e1:a.eval (.tmp 1)=.pointer (some ⟨b1,0,none⟩):=seen.kp 1 _ (nd 1 (by omega)) rfl
   exact Rg.op_value rfl rfl (Rg.ex_field a.eval _ 31 (.tmp 1) 2 rfl (by rw [e1]; simp [go_sem])) (hK _ _ rfl (Below.refl _ _) fun _ _ _ _ _ _ _ h=>h)
  ·obtain rfl:=Option.some.inj ho
   have e32:a.eval (.tmp 32)=.pointer (some ⟨b1,2,none⟩):=seen.at_ ⟨0,.data⟩ (by simp) rfl (Or.inr (by decide))
   have y2:=(H1.out.on hb).cell 2
   simp only [List.getElem?_toArray,List.getElem?_cons_zero,List.getElem?_cons_succ] at y2
   exact Rg.op_value rfl rfl (Rg.ex_load a.eval _ 26 (.tmp 32) rfl (by rw [e32]; simp [go_sem,y2])) (hK _ _ rfl (Below.refl _ _) fun _ _ _ _ _ _ _ h=>h)
  ·obtain rfl:=Option.some.inj ho
   have e3:a.eval (.tmp 3)=.int .i64 (k:Int):=seen.kp 3 _ (nd 3 (by omega)) rfl
   exact Rg.op_value rfl rfl (Rg.ex_move a.eval _ (.tmp 3) rfl x) (hK _ _ e3 (Below.refl _ _) fun _ _ _ _ _ _ _ h=>h)
  ·obtain rfl:=Option.some.inj ho
   have e1:a.eval (.tmp 1)=.pointer (some ⟨b1,0,none⟩):=seen.kp 1 _ (nd 1 (by omega)) rfl
   exact Rg.op_value rfl rfl (Rg.ex_field a.eval _ 31 (.tmp 1) 2 rfl (by rw [e1]; simp [go_sem])) (hK _ _ rfl (Below.refl _ _) fun _ _ _ _ _ _ _ h=>h)
  ·obtain rfl:=Option.some.inj ho
   have e35:a.eval (.tmp 35)=.pointer (some ⟨b1,2,none⟩):=seen.at_ ⟨3,.data⟩ (by simp) rfl (Or.inr (by decide))
   have y2:=(H1.out.on hb).cell 2
   simp only [List.getElem?_toArray,List.getElem?_cons_zero,List.getElem?_cons_succ] at y2
   exact Rg.op_value rfl rfl (Rg.ex_load a.eval _ 26 (.tmp 35) rfl (by rw [e35]; simp [go_sem,y2])) (hK _ _ rfl (Below.refl _ _) fun _ _ _ _ _ _ _ h=>h)
  ·obtain rfl:=Option.some.inj ho
   have e3:a.eval (.tmp 3)=.int .i64 (k:Int):=seen.kp 3 _ (nd 3 (by omega)) rfl
   exact Rg.op_value rfl rfl (Rg.ex_move a.eval _ (.tmp 3) rfl x) (hK _ _ e3 (Below.refl _ _) fun _ _ _ _ _ _ _ h=>h)
  ·obtain rfl:=Option.some.inj ho
   have e36:a.eval (.tmp 36)=.slice (some ⟨g,0,none⟩) n cap:=seen.at_ ⟨4,.data⟩ (by simp) rfl (Or.inr (by decide))
   have e37:a.eval (.tmp 37)=.int .i64 (k:Int):=seen.at_ ⟨5,.data⟩ (by simp) rfl (Or.inr (by decide))
   exact Rg.op_value rfl rfl (Rg.ex_index a.eval _ 26 (.tmp 36) (.tmp 37) rfl (by rw [e36,e37]; exact IX.out x)) (hK _ _ rfl (Below.refl _ _) fun _ _ _ _ _ _ _ h=>h)
  ·obtain rfl:=Option.some.inj ho
   have e38:a.eval (.tmp 38)=.pointer (some ⟨g,k * 4,none⟩):=seen.at_ ⟨6,.data⟩ (by simp) rfl (Or.inr (by decide))
   exact Rg.op_value rfl rfl (Rg.ex_load a.eval _ 41 (.tmp 38) rfl (by rw [e38]; exact loadD x _ (y1,y2,(yo,yn,yc),y4) (EL.out x hb))) (hK _ _ rfl (Below.refl _ _) fun _ _ _ _ _ _ _ h=>h)
  ·obtain rfl:=Option.some.inj ho
   have e39:a.eval (.tmp 39)=valD (y1,y2,(yo,yn,yc),y4):=seen.at_ ⟨7,.data⟩ (by simp) rfl (Or.inr (by decide))
   exact Rg.op_call rfl rfl (Rw.ex_call1 a.eval _ (.tmp 39) 41 85 rfl e39 rfl _ (call_fn Tryz.func85 rfl rfl _ _)) (cpAd_any (y1,y2,(yo,yn,yc),y4) p x (HP.out.on hb) LP.out) fun e w1 h=>by
    obtain⟨⟨s,rfl,h1⟩,h3⟩:=h
    exact⟨_,rfl,hK _ _ ⟨s,rfl,own_fewer h1 hb.size⟩ (h3.mono hb.size) fun j u hj _ _ _ hne h=>stab j u _ _ h h3⟩
  ·obtain rfl:=Option.some.inj ho
   have e33:a.eval (.tmp 33)=.slice (some ⟨g,0,none⟩) n cap:=seen.at_ ⟨1,.data⟩ (by simp) rfl (Or.inr (by decide))
   have e34:a.eval (.tmp 34)=.int .i64 (k:Int):=seen.at_ ⟨2,.data⟩ (by simp) rfl (Or.inr (by decide))
   exact Rg.op_value rfl rfl (Rg.ex_index a.eval _ 26 (.tmp 33) (.tmp 34) rfl (by rw [e33,e34]; exact IX.out x)) (hK _ _ rfl (Below.refl _ _) fun _ _ _ _ _ _ _ h=>h)
 ·intro kk o h1 h2 ho
  omega
 ·intro a w' df sz kp ⟨vs,hv⟩ hb
  have sz':a.tmps.size=82:=sz
  have g41:a.tmps[41]?=some (.pointer (some ⟨g,k * 4,none⟩)):=by
   have h:vs 9=.pointer (some ⟨g,k * 4,none⟩):=(hv 9 (by omega)).2 (by decide)
   rw [← h]
   exact (hv 9 (by omega)).1
  obtain⟨⟨s1,s2,s3⟩,hs,hc⟩:=(hv 8 (by omega)).2 (by decide)
  have g40:a.tmps[40]?=some (valD (y1,y2,(s1,s2,s3),y4)):=((hv 8 (by omega)).1).trans (congrArg some hs)
  obtain⟨w2,hr,st1,st2,st3⟩:=storeD (k:=k) (y1,y2,(s1,s2,s3),y4) (Bk.own_on HO.out hb) (List.getElem?_eq_some_iff.1 HY.out).1
  obtain⟨cur,hg⟩:=own_tag (Bk.own_on HO.out hb)
  show Rg.SeqFrom _ _ _ 1 10 a w'
  simp only [Rg.SeqFrom]
  refine Rg.op_store 41 (.tmp 41) (.tmp 40) rfl rfl rfl rfl (Rg.eval_some g41) (Rg.eval_some g40) (w':=w2) hr ?_
  have kp2:∀ j,(j<32∨42≤j)→(a).tmps[j]?=(u0::.pointer (some ⟨b1,0,none⟩)::u2::.int .i64 (k:Int)::u4::u5::u6::u7::u8::u9::u10::u11::u12::u13::u14::u15::u16::u17::u18::u19::u20::u21::u22::u23::u24::u25::u26::u27::u28::u29::u30::u31::u32::u33::u34::u35::u36::u37::u38::u39::u40::u41::u42::u43::u44::u45::u46::u47::u48::u49::u50::u51::u52::u53::u54::u55::u56::u57::u58::u59::u60::u61::u62::u63::u64::u65::u66::u67::u68::u69::u70::u71::u72::u73::u74::u75::u76::u77::u78::u79::u80::u81::[])[j]?:=fun j hj=>(kp j (nd j (by omega))).trans List.getElem?_toArray
  obtain⟨mid,hmid,hfr⟩:=Rg.frame_mid (a:=a) 32 10 df (by simp [sz']) (by simp) kp2
  show Q .normal (a) _
  rw [hfr]
  match mid,hmid with
  | [v32,v33,v34,v35,v36,v37,v38,v39,v40,v41],_ =>
   exact HQ.out _ _ _ _ _ _ _ _ _ _ _ s1 s2 s3 (st2.own hc hg (by decide)) st1 ((But.of_below hb).trans st2) fun B1 hB hl=>st3 B1 W hB (hb.mono hl)
def cp11V (B:Nat) (b1:Nat) (_me:Int) (_z1 _z2 _z3 _z5:Value) (g n cap k:Nat) (_y1 _y2 _y3 _y4:Int) (yo:Option Addr) (yn yc:Nat) (_y6:Int) (_y7:Bool) (p:List C5) (i:Nat) (v:Value) (x:World):Prop :=
 match i with
 | 0=>v=.pointer (some ⟨b1,4,none⟩)
 | 1=>v=.slice (some ⟨g,0,none⟩) n cap
 | 2=>v=.int .i64 (k:Int)
 | 3=>v=.pointer (some ⟨b1,4,none⟩)
 | 4=>v=.slice (some ⟨g,0,none⟩) n cap
 | 5=>v=.int .i64 (k:Int)
 | 6=>v=.pointer (some ⟨g,k * 7,none⟩)
 | 7=>v=.pointer (some ⟨g,k * 7+4,none⟩)
 | 8=>v=.slice yo yn yc
 | 9=>∃ s:Sl,v=slv s∧OwnC x B v p
 | 10=>v=.pointer (some ⟨g,k * 7,none⟩)
 | 11=>v=.pointer (some ⟨g,k * 7+4,none⟩)
 | _=>True
noncomputable def cp11C:Code:=((Tryz.f76.body.bind (findRegion 11)).getD .skip)
theorem cp11V_on (B:Nat) (b1:Nat) (me:Int) (z1 z2 z3 z5:Value) (g n cap k:Nat) (y1 y2 y3 y4:Int) (yo:Option Addr) (yn yc:Nat) (y6:Int) (y7:Bool) (p:List C5) (i:Nat) (v:Value) (x x':World) (h:cp11V B b1 me z1 z2 z3 z5 g n cap k y1 y2 y3 y4 yo yn yc y6 y7 p i v x) (hb:Below x.heap.size x x'):cp11V B b1 me z1 z2 z3 z5 g n cap k y1 y2 y3 y4 yo yn yc y6 y7 p i v x':=by
 by_cases hi:i<12
 ·rcases (by omega:i=0∨i=1∨i=2∨i=3∨i=4∨i=5∨i=6∨i=7∨i=8∨i=9∨i=10∨i=11) with rfl|rfl|rfl|rfl|rfl|rfl|rfl|rfl|rfl|rfl|rfl|rfl
  ·exact h
  ·exact h
  ·exact h
  ·exact h
  ·exact h
  ·exact h
  ·exact h
  ·exact h
  ·exact h
  ·obtain⟨s,h1,h2⟩:=h; exact⟨s,h1,Bk.own_on h2 hb⟩
  ·exact h
  ·exact h
 ·unfold cp11V
  split <;> first | omega | trivial
theorem cp11 (Q:Exit→Act→World→Prop) (W:World) (B0:Nat) (l:List XEn) (b1:Nat) (me:Int) (z1 z2 z3 z5:Value) (g n cap k:Nat) (y1 y2 y3 y4:Int) (yo:Option Addr) (yn yc:Nat) (y6:Int) (y7:Bool) (p:List C5) (u0 u2 u3 u5 u6 u7 u8 u9 u10 u11 u12 u13 u14 u15 u16 u17 u18 u19 u20 u21 u22 u23 u24 u25 u26 u27 u28 u29 u30 u31 u32 u33 u34 u35 u36 u37 u38 u39 u40 u41 u42 u43 u44 u45 u46 u47 u48 u49 u50 u51 u52 u53 u54 u55 u56 u57 u58 u59 u60 u61 u62 u63 u64 u65 u66 u67 u68 u69 u70 u71 u72 u73 u74 u75 u76 u77 u78 u79 u80 u81:Value)
  (h1:Box W b1 #[.int .i64 me,z1,z2,z3,.slice (some ⟨g,0,none⟩) n cap,z5] 31) (ho:OwnN W B0 (.slice (some ⟨g,0,none⟩) n cap) l) (hy:l[k]?=some (y1,y2,y3,y4,(yo,yn,yc),y6,y7)) (hp:RowC W (.slice yo yn yc) p) (lp:p.length≤900)
  (hQ:∀ (x:World) (v49 v50 v51 v52 v53 v54 v55 v56 v57 v58 v59 v60:Value) (s1:Option Addr) (s2 s3:Nat),OwnC x W.heap.size (.slice s1 s2 s3) p→OwnN x B0 (.slice (some ⟨g,0,none⟩) n cap) (l.set k (y1,y2,y3,y4,(s1,s2,s3),y6,y7))→But g W x→(∀ B1,B1≤g→B1≤W.heap.size→Below B1 W x)→Q .normal ⟨(u0::.pointer (some ⟨b1,0,none⟩)::u2::u3::.int .i64 (k:Int)::u5::u6::u7::u8::u9::u10::u11::u12::u13::u14::u15::u16::u17::u18::u19::u20::u21::u22::u23::u24::u25::u26::u27::u28::u29::u30::u31::u32::u33::u34::u35::u36::u37::u38::u39::u40::u41::u42::u43::u44::u45::u46::u47::u48::v49::v50::v51::v52::v53::v54::v55::v56::v57::v58::v59::v60::u61::u62::u63::u64::u65::u66::u67::u68::u69::u70::u71::u72::u73::u74::u75::u76::u77::u78::u79::u80::u81::[]).toArray,[]⟩ x) :
  Code.wp Tryz.prog cp11C Q ⟨(u0::.pointer (some ⟨b1,0,none⟩)::u2::u3::.int .i64 (k:Int)::u5::u6::u7::u8::u9::u10::u11::u12::u13::u14::u15::u16::u17::u18::u19::u20::u21::u22::u23::u24::u25::u26::u27::u28::u29::u30::u31::u32::u33::u34::u35::u36::u37::u38::u39::u40::u41::u42::u43::u44::u45::u46::u47::u48::u49::u50::u51::u52::u53::u54::u55::u56::u57::u58::u59::u60::u61::u62::u63::u64::u65::u66::u67::u68::u69::u70::u71::u72::u73::u74::u75::u76::u77::u78::u79::u80::u81::[]).toArray,[]⟩ W:=by
 have HQ:=Lib.hid hQ
 have H1:=Lib.hid h1
 have HO:=Lib.hid ho
 have HY:=Lib.hid hy
 have HP:=Lib.hid hp
 have LP:=Lib.hid lp
 have IX:=Lib.hid (index_own okN g k n cap (by obtain⟨_,_,hv⟩:=(Row.of_own ho).len; have h:=(List.getElem?_eq_some_iff.1 hy).1; simp at hv; omega))
 have EL:=Lib.hid (own_row_at okN ho hy)
 clear hQ h1 ho hy hp lp
 have stab:=cp11V_on W.heap.size b1 me z1 z2 z3 z5 g n cap k y1 y2 y3 y4 yo yn yc y6 y7 p
 unfold cp11C
 conv=>arg 2; whnf
 have nd:∀ j,(j<49∨61≤j)→∀ i,i<12→(fun i=>49+i) i≠j:=by
  intro j hj i hi h
  simp only at h
  omega
 refine Rg.region_live 13 12 (fun i=>49+i) (fun _=>12) (cp11V W.heap.size b1 me z1 z2 z3 z5 g n cap k y1 y2 y3 y4 yo yn yc y6 y7 p) (by kernel_rfl) (by kernel_rfl) rfl (by decide) (fun i j _ _ h=>by have h2:49+i=49+j:=h; omega) (fun i hi=>by show 49+i<82; omega) ?_ (fun _=>Rg.hall_of 14 (by kernel_rfl)) ?_ ?_
 ·intro i o hi ho a x D hnd hc hD hb seen K hK
  clear HQ
  rcases (by omega:i=0∨i=1∨i=2∨i=3∨i=4∨i=5∨i=6∨i=7∨i=8∨i=9∨i=10∨i=11) with rfl|rfl|rfl|rfl|rfl|rfl|rfl|rfl|rfl|rfl|rfl|rfl
  ·obtain rfl:=Option.some.inj ho
   have e1:a.eval (.tmp 1)=.pointer (some ⟨b1,0,none⟩):=seen.kp 1 _ (nd 1 (by omega)) rfl
   exact Rg.op_value rfl rfl (Rg.ex_field a.eval _ 31 (.tmp 1) 4 rfl (by rw [e1]; simp [go_sem])) (hK _ _ rfl (Below.refl _ _) fun _ _ _ _ _ _ _ h=>h)
  ·obtain rfl:=Option.some.inj ho
   have e49:a.eval (.tmp 49)=.pointer (some ⟨b1,4,none⟩):=seen.at_ ⟨0,.data⟩ (by simp) rfl (Or.inr (by decide))
   have y4:=(H1.out.on hb).cell 4
   simp only [List.getElem?_toArray,List.getElem?_cons_zero,List.getElem?_cons_succ] at y4
   exact Rg.op_value rfl rfl (Rg.ex_load a.eval _ 28 (.tmp 49) rfl (by rw [e49]; simp [go_sem,y4])) (hK _ _ rfl (Below.refl _ _) fun _ _ _ _ _ _ _ h=>h)
  ·obtain rfl:=Option.some.inj ho
   have e4:a.eval (.tmp 4)=.int .i64 (k:Int):=seen.kp 4 _ (nd 4 (by omega)) rfl
   exact Rg.op_value rfl rfl (Rg.ex_move a.eval _ (.tmp 4) rfl x) (hK _ _ e4 (Below.refl _ _) fun _ _ _ _ _ _ _ h=>h)
  ·obtain rfl:=Option.some.inj ho
   have e1:a.eval (.tmp 1)=.pointer (some ⟨b1,0,none⟩):=seen.kp 1 _ (nd 1 (by omega)) rfl
   exact Rg.op_value rfl rfl (Rg.ex_field a.eval _ 31 (.tmp 1) 4 rfl (by rw [e1]; simp [go_sem])) (hK _ _ rfl (Below.refl _ _) fun _ _ _ _ _ _ _ h=>h)
  ·obtain rfl:=Option.some.inj ho
   have e52:a.eval (.tmp 52)=.pointer (some ⟨b1,4,none⟩):=seen.at_ ⟨3,.data⟩ (by simp) rfl (Or.inr (by decide))
   have y4:=(H1.out.on hb).cell 4
   simp only [List.getElem?_toArray,List.getElem?_cons_zero,List.getElem?_cons_succ] at y4
   exact Rg.op_value rfl rfl (Rg.ex_load a.eval _ 28 (.tmp 52) rfl (by rw [e52]; simp [go_sem,y4])) (hK _ _ rfl (Below.refl _ _) fun _ _ _ _ _ _ _ h=>h)
  ·obtain rfl:=Option.some.inj ho
   have e4:a.eval (.tmp 4)=.int .i64 (k:Int):=seen.kp 4 _ (nd 4 (by omega)) rfl
   exact Rg.op_value rfl rfl (Rg.ex_move a.eval _ (.tmp 4) rfl x) (hK _ _ e4 (Below.refl _ _) fun _ _ _ _ _ _ _ h=>h)
  ·obtain rfl:=Option.some.inj ho
   have e53:a.eval (.tmp 53)=.slice (some ⟨g,0,none⟩) n cap:=seen.at_ ⟨4,.data⟩ (by simp) rfl (Or.inr (by decide))
   have e54:a.eval (.tmp 54)=.int .i64 (k:Int):=seen.at_ ⟨5,.data⟩ (by simp) rfl (Or.inr (by decide))
   exact Rg.op_value rfl rfl (Rg.ex_index a.eval _ 28 (.tmp 53) (.tmp 54) rfl (by rw [e53,e54]; exact IX.out x)) (hK _ _ rfl (Below.refl _ _) fun _ _ _ _ _ _ _ h=>h)
  ·obtain rfl:=Option.some.inj ho
   have e55:a.eval (.tmp 55)=.pointer (some ⟨g,k * 7,none⟩):=seen.at_ ⟨6,.data⟩ (by simp) rfl (Or.inr (by decide))
   exact Rg.op_value rfl rfl (Rg.ex_field a.eval _ 43 (.tmp 55) 2 rfl (by rw [e55]; simp [go_sem])) (hK _ _ rfl (Below.refl _ _) fun _ _ _ _ _ _ _ h=>h)
  ·obtain rfl:=Option.some.inj ho
   have e56:a.eval (.tmp 56)=.pointer (some ⟨g,k * 7+4,none⟩):=seen.at_ ⟨7,.data⟩ (by simp) rfl (Or.inr (by decide))
   have y:=EL.out x hb 4 _ rfl
   simp [Addr.add,EN] at y
   exact Rg.op_value rfl rfl (Rg.ex_load a.eval _ 39 (.tmp 56) rfl (by rw [e56]; simp [go_sem,y])) (hK _ _ rfl (Below.refl _ _) fun _ _ _ _ _ _ _ h=>h)
  ·obtain rfl:=Option.some.inj ho
   have e57:a.eval (.tmp 57)=.slice yo yn yc:=seen.at_ ⟨8,.data⟩ (by simp) rfl (Or.inr (by decide))
   exact Rg.op_call rfl rfl (Rw.ex_call1 a.eval _ (.tmp 57) 39 121 rfl e57 rfl _ (call_fn Tryz.func121 rfl rfl _ _)) (cloneC_any (yo,yn,yc) p x (HP.out.on hb) LP.out) fun e w1 h=>by
    obtain⟨⟨s,rfl,h1⟩,h3⟩:=h
    exact⟨_,rfl,hK _ _ ⟨s,rfl,own_fewer h1 hb.size⟩ (h3.mono hb.size) fun j u hj _ _ _ hne h=>stab j u _ _ h h3⟩
  ·obtain rfl:=Option.some.inj ho
   have e50:a.eval (.tmp 50)=.slice (some ⟨g,0,none⟩) n cap:=seen.at_ ⟨1,.data⟩ (by simp) rfl (Or.inr (by decide))
   have e51:a.eval (.tmp 51)=.int .i64 (k:Int):=seen.at_ ⟨2,.data⟩ (by simp) rfl (Or.inr (by decide))
   exact Rg.op_value rfl rfl (Rg.ex_index a.eval _ 28 (.tmp 50) (.tmp 51) rfl (by rw [e50,e51]; exact IX.out x)) (hK _ _ rfl (Below.refl _ _) fun _ _ _ _ _ _ _ h=>h)
  ·obtain rfl:=Option.some.inj ho
   have e59:a.eval (.tmp 59)=.pointer (some ⟨g,k * 7,none⟩):=seen.at_ ⟨10,.data⟩ (by simp) rfl (Or.inr (by decide))
   exact Rg.op_value rfl rfl (Rg.ex_field a.eval _ 43 (.tmp 59) 2 rfl (by rw [e59]; simp [go_sem])) (hK _ _ rfl (Below.refl _ _) fun _ _ _ _ _ _ _ h=>h)
 ·intro kk o h1 h2 ho
  omega
 ·intro a w' df sz kp ⟨vs,hv⟩ hb
  have sz':a.tmps.size=82:=sz
  have g60:a.tmps[60]?=some (.pointer (some ⟨g,k * 7+4,none⟩)):=by
   have h:vs 11=.pointer (some ⟨g,k * 7+4,none⟩):=(hv 11 (by omega)).2 (by decide)
   rw [← h]
   exact (hv 11 (by omega)).1
  obtain⟨⟨s1,s2,s3⟩,hs,hc⟩:=(hv 9 (by omega)).2 (by decide)
  have g58:a.tmps[58]?=some (.slice s1 s2 s3):=((hv 9 (by omega)).1).trans (congrArg some hs)
  rw [hs] at hc
  obtain⟨w2,hr,st1,st2,st3⟩:=storeN (k:=k) s1 s2 s3 (Bk.own_on HO.out hb) HY.out
  obtain⟨cur,hg⟩:=own_tag (Bk.own_on HO.out hb)
  show Rg.SeqFrom _ _ _ 1 12 a w'
  simp only [Rg.SeqFrom]
  refine Rg.op_store 39 (.tmp 60) (.tmp 58) rfl rfl rfl rfl (Rg.eval_some g60) (Rg.eval_some g58) (w':=w2) hr ?_
  have kp2:∀ j,(j<49∨61≤j)→(a).tmps[j]?=(u0::.pointer (some ⟨b1,0,none⟩)::u2::u3::.int .i64 (k:Int)::u5::u6::u7::u8::u9::u10::u11::u12::u13::u14::u15::u16::u17::u18::u19::u20::u21::u22::u23::u24::u25::u26::u27::u28::u29::u30::u31::u32::u33::u34::u35::u36::u37::u38::u39::u40::u41::u42::u43::u44::u45::u46::u47::u48::u49::u50::u51::u52::u53::u54::u55::u56::u57::u58::u59::u60::u61::u62::u63::u64::u65::u66::u67::u68::u69::u70::u71::u72::u73::u74::u75::u76::u77::u78::u79::u80::u81::[])[j]?:=fun j hj=>(kp j (nd j (by omega))).trans List.getElem?_toArray
  obtain⟨mid,hmid,hfr⟩:=Rg.frame_mid (a:=a) 49 12 df (by simp [sz']) (by simp) kp2
  show Q .normal (a) _
  rw [hfr]
  match mid,hmid with
  | [v49,v50,v51,v52,v53,v54,v55,v56,v57,v58,v59,v60],_ =>
   exact HQ.out _ _ _ _ _ _ _ _ _ _ _ _ _ s1 s2 s3 (st2.own hc hg (by decide)) st1 ((But.of_below hb).trans st2) fun B1 hB hl=>st3 B1 W hB (hb.mono hl)
def cp16V (B:Nat) (b1:Nat) (_me:Int) (_z1 _z2 _z3 _z4:Value) (g n cap k:Nat) (_y1 _y2:Int) (yo:Option Addr) (yn yc:Nat) (p:List C5) (i:Nat) (v:Value) (x:World):Prop :=
 match i with
 | 0=>v=.pointer (some ⟨b1,5,none⟩)
 | 1=>v=.slice (some ⟨g,0,none⟩) n cap
 | 2=>v=.int .i64 (k:Int)
 | 3=>v=.pointer (some ⟨b1,5,none⟩)
 | 4=>v=.slice (some ⟨g,0,none⟩) n cap
 | 5=>v=.int .i64 (k:Int)
 | 6=>v=.pointer (some ⟨g,k * 3,none⟩)
 | 7=>v=.pointer (some ⟨g,k * 3+2,none⟩)
 | 8=>v=.slice yo yn yc
 | 9=>∃ s:Sl,v=slv s∧OwnC x B v p
 | 10=>v=.pointer (some ⟨g,k * 3,none⟩)
 | 11=>v=.pointer (some ⟨g,k * 3+2,none⟩)
 | _=>True
noncomputable def cp16C:Code:=((Tryz.f76.body.bind (findRegion 16)).getD .skip)
theorem cp16V_on (B:Nat) (b1:Nat) (me:Int) (z1 z2 z3 z4:Value) (g n cap k:Nat) (y1 y2:Int) (yo:Option Addr) (yn yc:Nat) (p:List C5) (i:Nat) (v:Value) (x x':World) (h:cp16V B b1 me z1 z2 z3 z4 g n cap k y1 y2 yo yn yc p i v x) (hb:Below x.heap.size x x'):cp16V B b1 me z1 z2 z3 z4 g n cap k y1 y2 yo yn yc p i v x':=by
 by_cases hi:i<12
 ·rcases (by omega:i=0∨i=1∨i=2∨i=3∨i=4∨i=5∨i=6∨i=7∨i=8∨i=9∨i=10∨i=11) with rfl|rfl|rfl|rfl|rfl|rfl|rfl|rfl|rfl|rfl|rfl|rfl
  ·exact h
  ·exact h
  ·exact h
  ·exact h
  ·exact h
  ·exact h
  ·exact h
  ·exact h
  ·exact h
  ·obtain⟨s,h1,h2⟩:=h; exact⟨s,h1,Bk.own_on h2 hb⟩
  ·exact h
  ·exact h
 ·unfold cp16V
  split <;> first | omega | trivial
theorem cp16 (Q:Exit→Act→World→Prop) (W:World) (B0:Nat) (l:List XOw) (b1:Nat) (me:Int) (z1 z2 z3 z4:Value) (g n cap k:Nat) (y1 y2:Int) (yo:Option Addr) (yn yc:Nat) (p:List C5) (u0 u2 u3 u4 u6 u7 u8 u9 u10 u11 u12 u13 u14 u15 u16 u17 u18 u19 u20 u21 u22 u23 u24 u25 u26 u27 u28 u29 u30 u31 u32 u33 u34 u35 u36 u37 u38 u39 u40 u41 u42 u43 u44 u45 u46 u47 u48 u49 u50 u51 u52 u53 u54 u55 u56 u57 u58 u59 u60 u61 u62 u63 u64 u65 u66 u67 u68 u69 u70 u71 u72 u73 u74 u75 u76 u77 u78 u79 u80 u81:Value)
  (h1:Box W b1 #[.int .i64 me,z1,z2,z3,z4,.slice (some ⟨g,0,none⟩) n cap] 31) (ho:OwnW W B0 (.slice (some ⟨g,0,none⟩) n cap) l) (hy:l[k]?=some (y1,y2,(yo,yn,yc))) (hp:RowC W (.slice yo yn yc) p) (lp:p.length≤900)
  (hQ:∀ (x:World) (v68 v69 v70 v71 v72 v73 v74 v75 v76 v77 v78 v79:Value) (s1:Option Addr) (s2 s3:Nat),OwnC x W.heap.size (.slice s1 s2 s3) p→OwnW x B0 (.slice (some ⟨g,0,none⟩) n cap) (l.set k (y1,y2,(s1,s2,s3)))→But g W x→(∀ B1,B1≤g→B1≤W.heap.size→Below B1 W x)→Q .normal ⟨(u0::.pointer (some ⟨b1,0,none⟩)::u2::u3::u4::.int .i64 (k:Int)::u6::u7::u8::u9::u10::u11::u12::u13::u14::u15::u16::u17::u18::u19::u20::u21::u22::u23::u24::u25::u26::u27::u28::u29::u30::u31::u32::u33::u34::u35::u36::u37::u38::u39::u40::u41::u42::u43::u44::u45::u46::u47::u48::u49::u50::u51::u52::u53::u54::u55::u56::u57::u58::u59::u60::u61::u62::u63::u64::u65::u66::u67::v68::v69::v70::v71::v72::v73::v74::v75::v76::v77::v78::v79::u80::u81::[]).toArray,[]⟩ x) :
  Code.wp Tryz.prog cp16C Q ⟨(u0::.pointer (some ⟨b1,0,none⟩)::u2::u3::u4::.int .i64 (k:Int)::u6::u7::u8::u9::u10::u11::u12::u13::u14::u15::u16::u17::u18::u19::u20::u21::u22::u23::u24::u25::u26::u27::u28::u29::u30::u31::u32::u33::u34::u35::u36::u37::u38::u39::u40::u41::u42::u43::u44::u45::u46::u47::u48::u49::u50::u51::u52::u53::u54::u55::u56::u57::u58::u59::u60::u61::u62::u63::u64::u65::u66::u67::u68::u69::u70::u71::u72::u73::u74::u75::u76::u77::u78::u79::u80::u81::[]).toArray,[]⟩ W:=by
 have HQ:=Lib.hid hQ
 have H1:=Lib.hid h1
 have HO:=Lib.hid ho
 have HY:=Lib.hid hy
 have HP:=Lib.hid hp
 have LP:=Lib.hid lp
 have IX:=Lib.hid (index_own okW g k n cap (by obtain⟨_,_,hv⟩:=(Row.of_own ho).len; have h:=(List.getElem?_eq_some_iff.1 hy).1; simp at hv; omega))
 have EL:=Lib.hid (own_row_at okW ho hy)
 clear hQ h1 ho hy hp lp
 have stab:=cp16V_on W.heap.size b1 me z1 z2 z3 z4 g n cap k y1 y2 yo yn yc p
 unfold cp16C
 conv=>arg 2; whnf
 have nd:∀ j,(j<68∨80≤j)→∀ i,i<12→(fun i=>68+i) i≠j:=by
  intro j hj i hi h
  simp only at h
  omega
 refine Rg.region_live 13 12 (fun i=>68+i) (fun _=>12) (cp16V W.heap.size b1 me z1 z2 z3 z4 g n cap k y1 y2 yo yn yc p) (by kernel_rfl) (by kernel_rfl) rfl (by decide) (fun i j _ _ h=>by have h2:68+i=68+j:=h; omega) (fun i hi=>by show 68+i<82; omega) ?_ (fun _=>Rg.hall_of 14 (by kernel_rfl)) ?_ ?_
 ·intro i o hi ho a x D hnd hc hD hb seen K hK
  clear HQ
  rcases (by omega:i=0∨i=1∨i=2∨i=3∨i=4∨i=5∨i=6∨i=7∨i=8∨i=9∨i=10∨i=11) with rfl|rfl|rfl|rfl|rfl|rfl|rfl|rfl|rfl|rfl|rfl|rfl
  ·obtain rfl:=Option.some.inj ho
   have e1:a.eval (.tmp 1)=.pointer (some ⟨b1,0,none⟩):=seen.kp 1 _ (nd 1 (by omega)) rfl
   exact Rg.op_value rfl rfl (Rg.ex_field a.eval _ 31 (.tmp 1) 5 rfl (by rw [e1]; simp [go_sem])) (hK _ _ rfl (Below.refl _ _) fun _ _ _ _ _ _ _ h=>h)
  ·obtain rfl:=Option.some.inj ho
   have e68:a.eval (.tmp 68)=.pointer (some ⟨b1,5,none⟩):=seen.at_ ⟨0,.data⟩ (by simp) rfl (Or.inr (by decide))
   have y5:=(H1.out.on hb).cell 5
   simp only [List.getElem?_toArray,List.getElem?_cons_zero,List.getElem?_cons_succ] at y5
   exact Rg.op_value rfl rfl (Rg.ex_load a.eval _ 29 (.tmp 68) rfl (by rw [e68]; simp [go_sem,y5])) (hK _ _ rfl (Below.refl _ _) fun _ _ _ _ _ _ _ h=>h)
  ·obtain rfl:=Option.some.inj ho
   have e5:a.eval (.tmp 5)=.int .i64 (k:Int):=seen.kp 5 _ (nd 5 (by omega)) rfl
   exact Rg.op_value rfl rfl (Rg.ex_move a.eval _ (.tmp 5) rfl x) (hK _ _ e5 (Below.refl _ _) fun _ _ _ _ _ _ _ h=>h)
  ·obtain rfl:=Option.some.inj ho
   have e1:a.eval (.tmp 1)=.pointer (some ⟨b1,0,none⟩):=seen.kp 1 _ (nd 1 (by omega)) rfl
   exact Rg.op_value rfl rfl (Rg.ex_field a.eval _ 31 (.tmp 1) 5 rfl (by rw [e1]; simp [go_sem])) (hK _ _ rfl (Below.refl _ _) fun _ _ _ _ _ _ _ h=>h)
  ·obtain rfl:=Option.some.inj ho
   have e71:a.eval (.tmp 71)=.pointer (some ⟨b1,5,none⟩):=seen.at_ ⟨3,.data⟩ (by simp) rfl (Or.inr (by decide))
   have y5:=(H1.out.on hb).cell 5
   simp only [List.getElem?_toArray,List.getElem?_cons_zero,List.getElem?_cons_succ] at y5
   exact Rg.op_value rfl rfl (Rg.ex_load a.eval _ 29 (.tmp 71) rfl (by rw [e71]; simp [go_sem,y5])) (hK _ _ rfl (Below.refl _ _) fun _ _ _ _ _ _ _ h=>h)
  ·obtain rfl:=Option.some.inj ho
   have e5:a.eval (.tmp 5)=.int .i64 (k:Int):=seen.kp 5 _ (nd 5 (by omega)) rfl
   exact Rg.op_value rfl rfl (Rg.ex_move a.eval _ (.tmp 5) rfl x) (hK _ _ e5 (Below.refl _ _) fun _ _ _ _ _ _ _ h=>h)
  ·obtain rfl:=Option.some.inj ho
   have e72:a.eval (.tmp 72)=.slice (some ⟨g,0,none⟩) n cap:=seen.at_ ⟨4,.data⟩ (by simp) rfl (Or.inr (by decide))
   have e73:a.eval (.tmp 73)=.int .i64 (k:Int):=seen.at_ ⟨5,.data⟩ (by simp) rfl (Or.inr (by decide))
   exact Rg.op_value rfl rfl (Rg.ex_index a.eval _ 29 (.tmp 72) (.tmp 73) rfl (by rw [e72,e73]; exact IX.out x)) (hK _ _ rfl (Below.refl _ _) fun _ _ _ _ _ _ _ h=>h)
  ·obtain rfl:=Option.some.inj ho
   have e74:a.eval (.tmp 74)=.pointer (some ⟨g,k * 3,none⟩):=seen.at_ ⟨6,.data⟩ (by simp) rfl (Or.inr (by decide))
   exact Rg.op_value rfl rfl (Rg.ex_field a.eval _ 45 (.tmp 74) 1 rfl (by rw [e74]; simp [go_sem])) (hK _ _ rfl (Below.refl _ _) fun _ _ _ _ _ _ _ h=>h)
  ·obtain rfl:=Option.some.inj ho
   have e75:a.eval (.tmp 75)=.pointer (some ⟨g,k * 3+2,none⟩):=seen.at_ ⟨7,.data⟩ (by simp) rfl (Or.inr (by decide))
   have y:=EL.out x hb 2 _ rfl
   simp [Addr.add,EW] at y
   exact Rg.op_value rfl rfl (Rg.ex_load a.eval _ 39 (.tmp 75) rfl (by rw [e75]; simp [go_sem,y])) (hK _ _ rfl (Below.refl _ _) fun _ _ _ _ _ _ _ h=>h)
  ·obtain rfl:=Option.some.inj ho
   have e76:a.eval (.tmp 76)=.slice yo yn yc:=seen.at_ ⟨8,.data⟩ (by simp) rfl (Or.inr (by decide))
   exact Rg.op_call rfl rfl (Rw.ex_call1 a.eval _ (.tmp 76) 39 121 rfl e76 rfl _ (call_fn Tryz.func121 rfl rfl _ _)) (cloneC_any (yo,yn,yc) p x (HP.out.on hb) LP.out) fun e w1 h=>by
    obtain⟨⟨s,rfl,h1⟩,h3⟩:=h
    exact⟨_,rfl,hK _ _ ⟨s,rfl,own_fewer h1 hb.size⟩ (h3.mono hb.size) fun j u hj _ _ _ hne h=>stab j u _ _ h h3⟩
  ·obtain rfl:=Option.some.inj ho
   have e69:a.eval (.tmp 69)=.slice (some ⟨g,0,none⟩) n cap:=seen.at_ ⟨1,.data⟩ (by simp) rfl (Or.inr (by decide))
   have e70:a.eval (.tmp 70)=.int .i64 (k:Int):=seen.at_ ⟨2,.data⟩ (by simp) rfl (Or.inr (by decide))
   exact Rg.op_value rfl rfl (Rg.ex_index a.eval _ 29 (.tmp 69) (.tmp 70) rfl (by rw [e69,e70]; exact IX.out x)) (hK _ _ rfl (Below.refl _ _) fun _ _ _ _ _ _ _ h=>h)
  ·obtain rfl:=Option.some.inj ho
   have e78:a.eval (.tmp 78)=.pointer (some ⟨g,k * 3,none⟩):=seen.at_ ⟨10,.data⟩ (by simp) rfl (Or.inr (by decide))
   exact Rg.op_value rfl rfl (Rg.ex_field a.eval _ 45 (.tmp 78) 1 rfl (by rw [e78]; simp [go_sem])) (hK _ _ rfl (Below.refl _ _) fun _ _ _ _ _ _ _ h=>h)
 ·intro kk o h1 h2 ho
  omega
 ·intro a w' df sz kp ⟨vs,hv⟩ hb
  have sz':a.tmps.size=82:=sz
  have g79:a.tmps[79]?=some (.pointer (some ⟨g,k * 3+2,none⟩)):=by
   have h:vs 11=.pointer (some ⟨g,k * 3+2,none⟩):=(hv 11 (by omega)).2 (by decide)
   rw [← h]
   exact (hv 11 (by omega)).1
  obtain⟨⟨s1,s2,s3⟩,hs,hc⟩:=(hv 9 (by omega)).2 (by decide)
  have g77:a.tmps[77]?=some (.slice s1 s2 s3):=((hv 9 (by omega)).1).trans (congrArg some hs)
  rw [hs] at hc
  obtain⟨w2,hr,st1,st2,st3⟩:=storeW (k:=k) s1 s2 s3 (Bk.own_on HO.out hb) HY.out
  obtain⟨cur,hg⟩:=own_tag (Bk.own_on HO.out hb)
  show Rg.SeqFrom _ _ _ 1 12 a w'
  simp only [Rg.SeqFrom]
  refine Rg.op_store 39 (.tmp 79) (.tmp 77) rfl rfl rfl rfl (Rg.eval_some g79) (Rg.eval_some g77) (w':=w2) hr ?_
  have kp2:∀ j,(j<68∨80≤j)→(a).tmps[j]?=(u0::.pointer (some ⟨b1,0,none⟩)::u2::u3::u4::.int .i64 (k:Int)::u6::u7::u8::u9::u10::u11::u12::u13::u14::u15::u16::u17::u18::u19::u20::u21::u22::u23::u24::u25::u26::u27::u28::u29::u30::u31::u32::u33::u34::u35::u36::u37::u38::u39::u40::u41::u42::u43::u44::u45::u46::u47::u48::u49::u50::u51::u52::u53::u54::u55::u56::u57::u58::u59::u60::u61::u62::u63::u64::u65::u66::u67::u68::u69::u70::u71::u72::u73::u74::u75::u76::u77::u78::u79::u80::u81::[])[j]?:=fun j hj=>(kp j (nd j (by omega))).trans List.getElem?_toArray
  obtain⟨mid,hmid,hfr⟩:=Rg.frame_mid (a:=a) 68 12 df (by simp [sz']) (by simp) kp2
  show Q .normal (a) _
  rw [hfr]
  match mid,hmid with
  | [v68,v69,v70,v71,v72,v73,v74,v75,v76,v77,v78,v79],_ =>
   exact HQ.out _ _ _ _ _ _ _ _ _ _ _ _ _ s1 s2 s3 (st2.own hc hg (by decide)) st1 ((But.of_below hb).trans st2) fun B1 hB hl=>st3 B1 W hB (hb.mono hl)
structure FewP (b:Br):Prop where
 adv:∀ a∈b.adv,a.p.length≤900
 ent:∀ a∈b.ent,a.p.length≤900
 own:∀ a∈b.own,a.p.length≤900
theorem own_row_len {α:Type} {E:Ek α} {W:World} {B n cap:Nat} {o:Option Addr} {l:List α} (h:Own E W B (.slice o n cap) l):l.length=n:=by
 obtain⟨_,_,hv⟩:=(Row.of_own h).len
 have:n=l.length:=by simpa using congrArg (fun v=>match v with | Value.slice _ n _=>n | _=>0) hv
 exact this.symm
theorem own_some {α:Type} {E:Ek α} {W:World} {B n cap:Nat} {o:Option Addr} {l:List α} (h:Own E W B (.slice o n cap) l) (hn:0<n):∃ g,o=some ⟨g,0,none⟩∧B≤g:=by
 have hl:=own_row_len h
 rcases own_open h with⟨_,h2⟩|⟨g,c',cur,h1,h2,_⟩
 ·rw [h2] at hl; simp at hl; omega
 ·exact⟨g,by simp at h1; exact h1.1,h2⟩
theorem but_setB (w:World) (b:Nat) (a0 a1 a2 a3 a4 a5:Value):But b w (setB w b a0 a1 a2 a3 a4 a5) :=
 (((but_cell _ b _ _).trans (but_cell _ b _ _)).trans ((but_cell _ b _ _).trans (but_cell _ b _ _))).trans ((but_cell _ b _ _).trans (but_cell _ b _ _))
theorem Cs.done {w0 w wr:World} {b:Br} {nv av sv ev ov:Sl} (h:Cs w0 w wr b nv av sv ev ov) (a0 a1 a2 a3 a4 a5:Value):Cp w0 w.heap.size (setB wr (w.heap.size+1) a0 a1 a2 a3 a4 a5) b nv av sv ev ov∧Below w.heap.size w (setB wr (w.heap.size+1) a0 a1 a2 a3 a4 a5) :=
 ⟨Cp.but ⟨h.near,h.seen,h.adv,h.ent,h.own⟩ (but_setB wr (w.heap.size+1) a0 a1 a2 a3 a4 a5) h.bz,setB_below h.bel (by omega) a0 a1 a2 a3 a4 a5⟩
theorem acopy_any (b:Br) (nv av sv ev ov:Sl) (w0 w:World) (hw0:Below w0.heap.size w0 w) (h:BrIn w0 b nv av sv ev ov) (hf:Few b) (hp:FewP b) :
  Calls Tryz.prog 76 #[brv b.me nv av sv ev ov] w fun e w'=>(∃ nv' av' sv' ev' ov':Sl,e=.returned (brv b.me nv' av' sv' ev' ov')∧Cp w0 w.heap.size w' b nv' av' sv' ev' ov')∧Below w.heap.size w w':=by
 obtain⟨no,nn,nc⟩:=nv
 obtain⟨ao,an,ac⟩:=av
 obtain⟨so,sn,sc⟩:=sv
 obtain⟨eo,en,ec⟩:=ev
 obtain⟨oo,on_,oc⟩:=ov
 obtain⟨la,ha1,ha2⟩:=h.adv
 obtain⟨le,he1,he2⟩:=h.ent
 obtain⟨lo_,ho1,ho2⟩:=h.own
 have HA:=Lib.hid ha2
 have HE:=Lib.hid he2
 have HO:=Lib.hid ho2
 have R0:=Lib.hid (h.near.on hw0)
 have R1:=Lib.hid (ha1.on hw0)
 have R2:=Lib.hid (h.seen.on hw0)
 have R3:=Lib.hid (he1.on hw0)
 have R4:=Lib.hid (ho1.on hw0)
 have W0:=Lib.hid hw0
 have HP:=Lib.hid hp
 have LL0:=Lib.hid hf.near
 have LL1:=Lib.hid (show la.length≤900 by rw [ha2.len]; exact hf.adv)
 have LL2:=Lib.hid hf.seen
 have LL3:=Lib.hid (show le.length≤900 by rw [he2.len]; exact hf.ent)
 have LL4:=Lib.hid (show lo_.length≤900 by rw [ho2.len]; exact hf.own)
 obtain⟨h0,h1,h2⟩:=two_new w #[.int .i64 b.me,.slice no nn nc,.slice ao an ac,.slice so sn sc,.slice eo en ec,.slice oo on_ oc] #[.int .i64 0,.slice none 0 0,.slice none 0 0,.slice none 0 0,.slice none 0 0,.slice none 0 0] 31 31
 have B0:=Lib.hid h0
 have XB:=Lib.hid h1
 have ZB:=Lib.hid h2
 clear h0 h1 h2 h hf hp hw0 ha1 ha2 he1 he2 ho1 ho2
 go_enter Tryz.func76,Tryz.ntmps76
 go_upto_region 1 with fail
 generalize (w.alloc (.cells #[.int .i64 b.me,.slice no nn nc,.slice ao an ac,.slice so sn sc,.slice eo en ec,.slice oo on_ oc] 31)).alloc (.cells #[.int .i64 0,.slice none 0 0,.slice none 0 0,.slice none 0 0,.slice none 0 0,.slice none 0 0] 31)=W at *
 refine cp1 _ W w.heap.size b.me (.slice ao an ac) (.slice eo en ec) (.slice oo on_ oc) no nn nc b.near so sn sc b.seen _ _ _ _ _ _ _ _ _ _ _ _ _ _ _ _ _ _ _ _ _ _ _ _ _ _ _ _ _ _ _ _ _ _ _ _ _ _ _ _ _ _ _ _ _ _ _ _ _ _ _ _ _ _ _ _ _ _ _ _ _ _ _ _ _ _ _ _ _ _ _ _ _ _ _ _ _ _ _ _ _ XB.out (R0.out.on B0.out) (R2.out.on B0.out) LL0.out LL2.out ?_
 intro x1 v6 v7 v8 v9 v10 v11 v12 v13 p1 q1 s1 p3 q3 s3 hb1 hn1 hs1 hbel1 hsame1
 have B1:=Lib.hid (B0.out.trans (hbel1 _ (Nat.le_refl _)))
 have S1:=Lib.hid (show W.heap.size≤x1.heap.size from (hbel1 _ (Nat.le_refl _)).size)
 have ZB1:=Lib.hid (show Box x1 (w.heap.size+1) _ _ from (hsame1 _ ZB.out.lt (by omega)).trans ZB.out)
 have XB1:=Lib.hid hb1
 have N1:=Lib.hid (own_fewer hn1 B0.out.size)
 have J1:=Lib.hid (own_fewer hs1 B0.out.size)
 clear hb1 hn1 hs1 hbel1 hsame1 XB ZB
 go_upto_region 2 with fail
 refine cp2 _ x1 w.heap.size b.me (.slice p1 q1 s1) (.slice p3 q3 s3) ao an ac la eo en ec le oo on_ oc lo_ _ _ _ _ _ _ _ _ _ _ _ _ _ _ _ _ _ _ _ _ _ _ _ _ _ _ _ _ _ _ _ _ _ _ _ _ _ _ _ _ _ _ _ _ _ _ _ _ _ _ _ _ _ _ _ _ _ _ _ _ _ _ _ _ _ _ _ _ _ _ _ _ _ _ _ _ _ _ _ _ _ XB1.out (R1.out.on B1.out) (R3.out.on B1.out) (R4.out.on B1.out) LL1.out LL3.out LL4.out ?_
 intro x2 v14 v15 v16 v17 v18 v19 v20 v21 v22 v23 v24 v25 p2 q2 s2 p4 q4 s4 p5 q5 s5 hb2 ha2 he2 ho2 hbel2 hsame2
 have CS:=Lib.hid (show Cs w0 w x2 b (p1,q1,s1) (p2,q2,s2) (p3,q3,s3) (p4,q4,s4) (p5,q5,s5) from {
  bel:=B1.out.trans (hbel2 _ (Nat.le_refl _))
  bx:=hb2
  bz:=(hsame2 _ ZB1.out.lt (by omega)).trans ZB1.out
  near:=But.own ⟨hsame2,(hbel2 _ (Nat.le_refl _)).size⟩ N1.out XB1.out (by decide)
  seen:=But.own ⟨hsame2,(hbel2 _ (Nat.le_refl _)).size⟩ J1.out XB1.out (by decide)
  adv:=⟨la,own_fewer ha2 B1.out.size,HA.out.mono fun _ _ q=>⟨q.1,q.2.1,Or.inl q.2.2⟩⟩
  ent:=⟨le,own_fewer he2 B1.out.size,HE.out.mono fun _ _ q=>⟨q.1,q.2.1,q.2.2.1,q.2.2.2.1,Or.inl q.2.2.2.2⟩⟩
  own:=⟨lo_,own_fewer ho2 B1.out.size,HO.out.mono fun _ _ q=>⟨q.1,Or.inl q.2⟩⟩ })
 have Q2:=Lib.hid (show q2≤900 from by rw [← own_row_len ha2]; exact LL1.out)
 have Q4:=Lib.hid (show q4≤900 from by rw [← own_row_len he2]; exact LL3.out)
 have Q5:=Lib.hid (show q5≤900 from by rw [← own_row_len ho2]; exact LL4.out)
 clear hb2 ha2 he2 ho2 hbel2 hsame2 XB1 ZB1 N1 J1 B1 S1 R0 R1 R2 R3 R4 HA HE HO LL0 LL1 LL2 LL3 LL4 B0
 have cf2:=CS.out.bx.cell 2
 simp only [List.getElem?_toArray,List.getElem?_cons_zero,List.getElem?_cons_succ] at cf2
 go_wp2
 go_loopw [29] (fun i wr=>∃ k:Nat,k≤q2∧i=.int .i64 k∧Cs w0 w wr b (p1,q1,s1) (p2,q2,s2) (p3,q3,s3) (p4,q4,s4) (p5,q5,s5)) (fun i _=>q2-(intOf i).toNat)
 case atStart=>exact⟨0,Nat.zero_le _,rfl,CS.out⟩
 case round =>
  obtain⟨k,hk,rfl,hcs⟩:=hrel
  have CS:=Lib.hid hcs
  have hq:=Q2.out
  clear hcs
  by_cases hlt:k<q2
  ·obtain⟨l,hl,hA⟩:=CS.out.adv
   have hln:l.length=q2:=own_row_len hl
   obtain⟨g,rfl,hBg⟩:∃ g,p2=some ⟨g,0,none⟩∧w.heap.size≤g:=own_some hl (show 0<q2 by omega)
   obtain⟨y,hy⟩:∃ y,l[k]?=some y:=⟨_,List.getElem?_eq_getElem (by omega)⟩
   obtain⟨a,ha⟩:∃ a,b.adv[k]?=some a:=⟨_,List.getElem?_eq_getElem (by have h:=hA.len; have h2:l.length=q2:=hln; omega)⟩
   obtain⟨y',hy',hym⟩:=hA.at k a ha
   rw [hy] at hy'
   obtain rfl:=Option.some.inj hy'
   obtain⟨y1,y2,⟨yo,yn,yc⟩,y4⟩:=y
   have HW:=Lib.hid hl
   have HAA:=Lib.hid hA
   have HYM:=Lib.hid hym
   have HYY:=Lib.hid hy
   have HAK:=Lib.hid ha
   have HBG:=Lib.hid hBg
   have hw3:IntKind.i64.wrap ((k:Int)+1)=(k:Int)+1:=IntWalk.i64_in _ (by omega)
   clear hl hA hln hy ha hy' hym hBg cf2
   go_upto_region 6 with fail
   refine cp6 _ wr w.heap.size l w.heap.size b.me (.slice p1 q1 s1) (.slice p3 q3 s3) (.slice p4 q4 s4) (.slice p5 q5 s5) g q2 s2 k y1 y2 yo yn yc y4 a.p _ _ _ _ _ _ _ _ _ _ _ _ _ _ _ _ _ _ _ _ _ _ _ _ _ _ _ _ _ _ _ _ _ _ _ _ _ _ _ _ _ _ _ _ _ _ _ _ _ _ _ _ _ _ _ _ _ _ _ _ _ _ _ _ _ _ _ _ _ _ _ _ _ _ _ _ _ _ _ _ CS.out.bx HW.out HYY.out (HYM.out.2.2.row (W0.out.trans (CS.out.bel.mono W0.out.size))) (HP.out.adv a (List.mem_of_getElem? HAK.out)) ?_
   intro x v32 v33 v34 v35 v36 v37 v38 v39 v40 v41 t1 t2 t3 hC hO hBut hBel
   have CS2:=Lib.hid (show Cs w0 w x b (p1,q1,s1) (some ⟨g,0,none⟩,q2,s2) (p3,q3,s3) (p4,q4,s4) (p5,q5,s5) from by
    obtain⟨cur,hg⟩:=own_tag HW.out
    exact CS.out.setD HW.out hO hBut (CS.out.bel.trans (hBel _ HBG.out CS.out.bel.size)) (All2.set k _ a (HAA.out.mono fun _ _ q=>q.but hBut hg (by decide)) HAK.out ⟨HYM.out.1,HYM.out.2.1,Or.inr (own_fewer hC CS.out.bel.size)⟩))
   clear hC hO hBut hBel CS HW HAA HYM HYY HAK HBG
   go_wp2
   go_roundw
   case rel=>exact⟨k+1,by omega,by go_num,CS2.out⟩
   case measure=>simp [intOf]; omega
  ·obtain rfl:q2=k:=by omega
   have cf4:=CS.out.bx.cell 4
   simp only [List.getElem?_toArray,List.getElem?_cons_zero,List.getElem?_cons_succ] at cf4
   clear hlt
   go_wp2
   go_loopw [46] (fun i wr=>∃ k:Nat,k≤q4∧i=.int .i64 k∧Cs w0 w wr b (p1,q1,s1) (p2,q2,s2) (p3,q3,s3) (p4,q4,s4) (p5,q5,s5)) (fun i _=>q4-(intOf i).toNat)
   case atStart=>exact⟨0,Nat.zero_le _,rfl,CS.out⟩
   case round =>
    obtain⟨k,hk,rfl,hcs⟩:=hrel
    have CS:=Lib.hid hcs
    have hq:=Q4.out
    clear hcs
    by_cases hlt:k<q4
    ·obtain⟨l,hl,hA⟩:=CS.out.ent
     have hln:l.length=q4:=own_row_len hl
     obtain⟨g,rfl,hBg⟩:∃ g,p4=some ⟨g,0,none⟩∧w.heap.size≤g:=own_some hl (show 0<q4 by omega)
     obtain⟨y,hy⟩:∃ y,l[k]?=some y:=⟨_,List.getElem?_eq_getElem (by omega)⟩
     obtain⟨a,ha⟩:∃ a,b.ent[k]?=some a:=⟨_,List.getElem?_eq_getElem (by have h:=hA.len; have h2:l.length=q4:=hln; omega)⟩
     obtain⟨y',hy',hym⟩:=hA.at k a ha
     rw [hy] at hy'
     obtain rfl:=Option.some.inj hy'
     obtain⟨y1,y2,y3,y4,⟨yo,yn,yc⟩,y6,y7⟩:=y
     have HW:=Lib.hid hl
     have HAA:=Lib.hid hA
     have HYM:=Lib.hid hym
     have HYY:=Lib.hid hy
     have HAK:=Lib.hid ha
     have HBG:=Lib.hid hBg
     have hw3:IntKind.i64.wrap ((k:Int)+1)=(k:Int)+1:=IntWalk.i64_in _ (by omega)
     clear hl hA hln hy ha hy' hym hBg cf4
     go_upto_region 11 with fail
     refine cp11 _ wr w.heap.size l w.heap.size b.me (.slice p1 q1 s1) (.slice p2 q2 s2) (.slice p3 q3 s3) (.slice p5 q5 s5) g q4 s4 k y1 y2 y3 y4 yo yn yc y6 y7 a.p _ _ _ _ _ _ _ _ _ _ _ _ _ _ _ _ _ _ _ _ _ _ _ _ _ _ _ _ _ _ _ _ _ _ _ _ _ _ _ _ _ _ _ _ _ _ _ _ _ _ _ _ _ _ _ _ _ _ _ _ _ _ _ _ _ _ _ _ _ _ _ _ _ _ _ _ _ _ _ _ CS.out.bx HW.out HYY.out (HYM.out.2.2.2.2.row (W0.out.trans (CS.out.bel.mono W0.out.size))) (HP.out.ent a (List.mem_of_getElem? HAK.out)) ?_
     intro x v49 v50 v51 v52 v53 v54 v55 v56 v57 v58 v59 v60 t1 t2 t3 hC hO hBut hBel
     have CS2:=Lib.hid (show Cs w0 w x b (p1,q1,s1) (p2,q2,s2) (p3,q3,s3) (some ⟨g,0,none⟩,q4,s4) (p5,q5,s5) from by
      obtain⟨cur,hg⟩:=own_tag HW.out
      exact CS.out.setN HW.out hO hBut (CS.out.bel.trans (hBel _ HBG.out CS.out.bel.size)) (All2.set k _ a (HAA.out.mono fun _ _ q=>q.but hBut hg (by decide)) HAK.out ⟨HYM.out.1,HYM.out.2.1,HYM.out.2.2.1,HYM.out.2.2.2.1,Or.inr (own_fewer hC CS.out.bel.size)⟩))
     clear hC hO hBut hBel CS HW HAA HYM HYY HAK HBG
     go_wp2
     go_roundw
     case rel=>exact⟨k+1,by omega,by go_num,CS2.out⟩
     case measure=>simp [intOf]; omega
    ·obtain rfl:q4=k:=by omega
     have cf5:=CS.out.bx.cell 5
     simp only [List.getElem?_toArray,List.getElem?_cons_zero,List.getElem?_cons_succ] at cf5
     clear hlt
     go_wp2
     go_loopw [65] (fun i wr=>∃ k:Nat,k≤q5∧i=.int .i64 k∧Cs w0 w wr b (p1,q1,s1) (p2,q2,s2) (p3,q3,s3) (p4,q4,s4) (p5,q5,s5)) (fun i _=>q5-(intOf i).toNat)
     case atStart=>exact⟨0,Nat.zero_le _,rfl,CS.out⟩
     case round =>
      obtain⟨k,hk,rfl,hcs⟩:=hrel
      have CS:=Lib.hid hcs
      have hq:=Q5.out
      clear hcs
      by_cases hlt:k<q5
      ·obtain⟨l,hl,hA⟩:=CS.out.own
       have hln:l.length=q5:=own_row_len hl
       obtain⟨g,rfl,hBg⟩:∃ g,p5=some ⟨g,0,none⟩∧w.heap.size≤g:=own_some hl (show 0<q5 by omega)
       obtain⟨y,hy⟩:∃ y,l[k]?=some y:=⟨_,List.getElem?_eq_getElem (by omega)⟩
       obtain⟨a,ha⟩:∃ a,b.own[k]?=some a:=⟨_,List.getElem?_eq_getElem (by have h:=hA.len; have h2:l.length=q5:=hln; omega)⟩
       obtain⟨y',hy',hym⟩:=hA.at k a ha
       rw [hy] at hy'
       obtain rfl:=Option.some.inj hy'
       obtain⟨y1,y2,⟨yo,yn,yc⟩⟩:=y
       have HW:=Lib.hid hl
       have HAA:=Lib.hid hA
       have HYM:=Lib.hid hym
       have HYY:=Lib.hid hy
       have HAK:=Lib.hid ha
       have HBG:=Lib.hid hBg
       have hw3:IntKind.i64.wrap ((k:Int)+1)=(k:Int)+1:=IntWalk.i64_in _ (by omega)
       clear hl hA hln hy ha hy' hym hBg cf5
       go_upto_region 16 with fail
       refine cp16 _ wr w.heap.size l w.heap.size b.me (.slice p1 q1 s1) (.slice p2 q2 s2) (.slice p3 q3 s3) (.slice p4 q4 s4) g q5 s5 k y1 y2 yo yn yc a.p _ _ _ _ _ _ _ _ _ _ _ _ _ _ _ _ _ _ _ _ _ _ _ _ _ _ _ _ _ _ _ _ _ _ _ _ _ _ _ _ _ _ _ _ _ _ _ _ _ _ _ _ _ _ _ _ _ _ _ _ _ _ _ _ _ _ _ _ _ _ _ _ _ _ _ _ _ _ _ _ CS.out.bx HW.out HYY.out (HYM.out.2.row (W0.out.trans (CS.out.bel.mono W0.out.size))) (HP.out.own a (List.mem_of_getElem? HAK.out)) ?_
       intro x v68 v69 v70 v71 v72 v73 v74 v75 v76 v77 v78 v79 t1 t2 t3 hC hO hBut hBel
       have CS2:=Lib.hid (show Cs w0 w x b (p1,q1,s1) (p2,q2,s2) (p3,q3,s3) (p4,q4,s4) (some ⟨g,0,none⟩,q5,s5) from by
        obtain⟨cur,hg⟩:=own_tag HW.out
        exact CS.out.setW HW.out hO hBut (CS.out.bel.trans (hBel _ HBG.out CS.out.bel.size)) (All2.set k _ a (HAA.out.mono fun _ _ q=>q.but hBut hg (by decide)) HAK.out ⟨HYM.out.1,Or.inr (own_fewer hC CS.out.bel.size)⟩))
       clear hC hO hBut hBel CS HW HAA HYM HYY HAK HBG
       go_wp2
       go_roundw
       case rel=>exact⟨k+1,by omega,by go_num,CS2.out⟩
       case measure=>simp [intOf]; omega
      ·obtain rfl:q5=k:=by omega
       have X1:=CS.out.bx
       have Z1:=CS.out.bz
       obtain⟨x0,x1,x2,x3,x4,x5⟩:=X1.cs6
       obtain⟨r0,r1,r2,r3,r4,r5⟩:=Z1.cs6
       obtain⟨t0,t1,t2,t3,t4,t5⟩:=Z1.fs6
       have zz:=Z1.lt
       have FB:=Lib.hid (setB_box Z1 (.int .i64 b.me) (.slice p1 q1 s1) (.slice p2 q2 s2) (.slice p3 q3 s3) (.slice p4 q4 s4) (.slice p5 q5 s5))
       have FD:=Lib.hid (CS.out.done (.int .i64 b.me) (.slice p1 q1 s1) (.slice p2 q2 s2) (.slice p3 q3 s3) (.slice p4 q4 s4) (.slice p5 q5 s5))
       clear X1 Z1 CS
       go_wp2_with fail
       obtain⟨v0,v1,v2,v3,v4,v5⟩:=FB.out.cs6
       refine bodyPost_ret (v:=.agg #[.int .i64 b.me,.slice p1 q1 s1,.slice p2 q2 s2,.slice p3 q3 s3,.slice p4 q4 s4,.slice p5 q5 s5]) (by simp [results,Tryz.results76,go_sem,v0,v1,v2,v3,v4,v5]) rfl ?_
       exact⟨⟨(p1,q1,s1),(p2,q2,s2),(p3,q3,s3),(p4,q4,s4),(p5,q5,s5),rfl,FD.out.1⟩,FD.out.2⟩
def findA (l:List Ad) (x:XID):Option Ad:=l.find? fun a=>decide (a.id=x)
theorem findA_none {l:List Ad} {x:XID} (h:∀ (j:Nat) (a:Ad),l[j]?=some a→a.id≠x):findA l x=none:=by
 unfold findA
 rw [List.find?_eq_none]
 intro a ha
 obtain⟨j,hj⟩:=List.mem_iff_getElem?.1 ha
 simpa using h j a hj
theorem findA_at:∀ {l:List Ad} {x:XID} {k:Nat} {a:Ad},l[k]?=some a→a.id=x→(∀ (j:Nat) (z:Ad),j<k→l[j]?=some z→z.id≠x)→findA l x=some a
 | [],_,_,_,h,_,_=>by simp at h
 | b::l,x,0,a,h,hx,_=>by
  obtain rfl:b=a:=by simpa using h
  simp [findA,hx]
 | b::l,x,k+1,a,h,hx,hall=>by
  have hb:=hall 0 b (by omega) rfl
  have ih:=findA_at (l:=l) (x:=x) (k:=k) (a:=a) (by simpa using h) hx fun j z hj hz=>hall (j+1) z (by omega) (by simpa using hz)
  unfold findA at *
  rw [List.find?_cons_of_neg (by simpa using hb)]
  exact ih
def FindQ (W:World) (o:Option Ad) (w:World) (e:Ending) (w':World):Prop:=(match o with
 | none=>e=.returned (.tuple #[valD (0,0,(none,0,0),0),.bool false])
 | some a=>∃ r:XAd,e=.returned (.tuple #[valD r,.bool true])∧AdIn w' r a)∧Below W.heap.size w w'
theorem find_any (me:Int) (nv sv ev ov:Value) (av:Sl) (l:List XAd) (al:List Ad) (x:XID) (w:World) (hs:RowD w (slv av) l) (hA:All2 (AdIn w) l al) (hf:∀ a∈al,a.p.length≤900) :
  Calls Tryz.prog 31 #[.agg #[.int .i64 me,nv,slv av,sv,ev,ov],idv x] w (FindQ w (findA al x) w):=by
 obtain⟨c,d⟩:=x
 obtain⟨so,sn,sc⟩:=av
 obtain⟨ao,ac,hv⟩:=hs.len
 have hv:Value.slice so sn sc=.slice ao l.length ac:=hv
 obtain⟨rfl,rfl,rfl⟩:so=ao∧sn=l.length∧sc=ac:=by simpa using hv
 obtain⟨h0,h1,h2⟩:=two_new w #[.int .i64 me,nv,.slice so l.length sc,sv,ev,ov] #[.int .i64 c,.int .i64 d] 31 38
 have h3:=newB ((w.alloc (.cells #[.int .i64 me,nv,.slice so l.length sc,sv,ev,ov] 31)).alloc (.cells #[.int .i64 c,.int .i64 d] 38)) (.cells #[.int .i64 0,.int .i64 0,.slice none 0 0,.int .i64 0] 41)
 have h4:=box_new ((w.alloc (.cells #[.int .i64 me,nv,.slice so l.length sc,sv,ev,ov] 31)).alloc (.cells #[.int .i64 c,.int .i64 d] 38)) #[.int .i64 0,.int .i64 0,.slice none 0 0,.int .i64 0] 41
 have hsz:((w.alloc (.cells #[.int .i64 me,nv,.slice so l.length sc,sv,ev,ov] 31)).alloc (.cells #[.int .i64 c,.int .i64 d] 38)).heap.size=w.heap.size+1+1:=by simp
 rw [hsz] at h4
 have B:=Lib.hid (h0.trans (h3.mono h0.size))
 have HS:=Lib.hid (hs.on B.out)
 have HA:=Lib.hid (hA.mono fun _ _ h=>h.on B.out)
 have X2:=Lib.hid (h1.on h3)
 have X3:=Lib.hid (h2.on h3)
 have X4:=Lib.hid h4
 have HF:=Lib.hid hf
 have lm:=hs.most
 unfold maxLen at lm
 obtain⟨n,hn⟩:∃ n,n=l.length:=⟨_,rfl⟩
 have q3:=X2.out.cell 2
 simp only [List.getElem?_toArray,List.getElem?_cons_zero,List.getElem?_cons_succ] at q3
 rw [← hn] at HS X2 X3 X4 HA lm q3 B ⊢
 have HN:=Lib.hid hn.symm
 obtain⟨fo,hfo⟩:∃ o,o=findA al (c,d):=⟨_,rfl⟩
 rw [← hfo]
 have FO:=Lib.hid hfo
 clear h0 h1 h2 h3 h4 hs hv hn hA hf hsz hfo
 go_enter Tryz.func31,Tryz.ntmps31
 go_upto_region 1 with fail
 generalize ((w.alloc (.cells #[.int .i64 me,nv,.slice so n sc,sv,ev,ov] 31)).alloc (.cells #[.int .i64 c,.int .i64 d] 38)).alloc (.cells #[.int .i64 0,.int .i64 0,.slice none 0 0,.int .i64 0] 41)=W at *
 go_wp2
 go_loopw [11] (fun i wr=>∃ k:Nat,k≤n∧i=.int .i64 k∧Below W.heap.size W wr∧∀ (j:Nat) (y:XAd),j<k→l[j]?=some y→(y.1,y.2.1)≠(c,d)) (fun i _=>n-(intOf i).toNat)
 case atStart=>exact⟨0,Nat.zero_le _,rfl,Below.refl _ _,fun j y h=>by omega⟩
 case round =>
  obtain⟨k,hk,rfl,hbe,hall⟩:=hrel
  have BE:=Lib.hid hbe
  have AL:=Lib.hid hall
  clear hbe hall
  by_cases hlt:k<n
  ·obtain⟨y,hy⟩:∃ y,l[k]?=some y:=⟨_,List.getElem?_eq_getElem (by rw [HN.out]; exact hlt)⟩
   obtain⟨p,ix,px⟩:=elD HS.out rfl HN.out hy
   obtain⟨p0,p1,p2,p3⟩:=px wr BE.out
   obtain⟨y1,y2,⟨yo,yn,yc⟩,y4⟩:=y
   simp only at p0 p1 p2 p3
   have NB:=Lib.hid (newB wr (.cells #[.int .i64 y1,.int .i64 y2,.slice yo yn yc,.int .i64 y4] 41))
   obtain⟨x0,x1⟩:=((X3.out.on BE.out).on NB.out).cs2
   have hw3:IntKind.i64.wrap ((k:Int)+1)=(k:Int)+1:=IntWalk.i64_in _ (by omega)
   obtain⟨r,hr⟩:∃ r,(y1 == c && y2 == d)=r:=⟨_,rfl⟩
   have he:=eqId y1 y2 c d r hr
   have HY:=Lib.hid hy
   have HR:=Lib.hid hr
   clear px hy hr
   cases r
   ·go_wp2
    go_roundw
    case rel=>exact⟨k+1,by omega,by go_num,BE.out.trans (NB.out.mono BE.out.size),fun j y' hj h1=>by
     rcases Nat.lt_or_ge j k with h3|h3
     ·exact AL.out j y' h3 h1
     ·obtain rfl:j=k:=by omega
      have e1:=HY.out
      rw [h1] at e1
      rw [Option.some.inj e1]
      intro e
      obtain⟨rfl,rfl⟩:y1=c∧y2=d:=by simpa using e
      have:=HR.out
      simp at this⟩
    case measure=>simp [intOf]; omega
   ·obtain⟨a,ha⟩:∃ a,al[k]?=some a:=⟨_,List.getElem?_eq_getElem (by rw [← HA.out.len,HN.out]; exact hlt)⟩
    obtain⟨z,hz1,hz2⟩:=HA.out.at k a ha
    rw [HY.out] at hz1
    obtain rfl:=Option.some.inj hz1
    have BA:=Lib.hid (BE.out.trans (NB.out.mono BE.out.size))
    have C:=Lib.hid (cpAd_any (y1,y2,(yo,yn,yc),y4) a.p _ (hz2.2.2.on BA.out) (HF.out a (List.mem_of_getElem? ha)))
    have HZ:=Lib.hid hz2
    have h8:=HR.out
    obtain⟨rfl,rfl⟩:y1=c∧y2=d:=by simpa using h8
    have FA:=Lib.hid (show fo=some a by
     rw [FO.out]
     refine findA_at ha hz2.1.symm fun j z hj hzz=>?_
     obtain⟨u,hu1,hu2⟩:=HA.out.at j z hzz
     rw [← hu2.1]
     exact AL.out j u hj hu1)
    have X4a:=(X4.out.on BE.out).on NB.out
    clear hz1 hz2 ha h8
    go_wp2_with fail
    refine C.out.mono ?_
    rintro e w1 ⟨⟨⟨u1,u2,u3⟩,rfl,ho⟩,hb⟩
    have Y1:=X4a.on hb
    have B1:=Lib.hid (BA.out.trans (hb.mono BA.out.size))
    obtain⟨r0,r1,r2,r3⟩:=Y1.cs4
    obtain⟨t0,t1,t2,t3⟩:=Y1.fs4
    have zz:=Y1.lt
    have hs2:w.heap.size+1+1<(wr.alloc (.cells #[.int .i64 y1,.int .i64 y2,.slice yo yn yc,.int .i64 y4] 41)).heap.size:=X4a.lt
    have FB:=Lib.hid (setD_box Y1 (.int .i64 y1) (.int .i64 y2) (.slice u1 u2 u3) (.int .i64 y4))
    have BL:=Lib.hid (setD_below (b:=w.heap.size+1+1) (B.out.trans (B1.out.mono B.out.size)) (by omega) (.int .i64 y1) (.int .i64 y2) (.slice u1 u2 u3) (.int .i64 y4))
    have FW:=Lib.hid (setD_own ho (w.heap.size+1+1) hs2 (.int .i64 y1) (.int .i64 y2) (.slice u1 u2 u3) (.int .i64 y4))
    clear Y1 ho hb hs2 X4a
    go_wp2_with fail
    obtain⟨v0,v1,v2,v3⟩:=FB.out.cs4
    refine bodyPost_ret (v:=.tuple #[.agg #[.int .i64 y1,.int .i64 y2,.slice u1 u2 u3,.int .i64 y4],.bool true]) (by simp [results,Tryz.results31,go_sem,v0,v1,v2,v3]) rfl ?_
    rw [FA.out]
    exact⟨⟨(y1,y2,(u1,u2,u3),y4),rfl,HZ.out.1,HZ.out.2.1,Row.of_own FW.out⟩,BL.out⟩
  ·obtain rfl:k=n:=by omega
   have FA:=Lib.hid (show fo=none by
    rw [FO.out]
    refine findA_none fun j z hzz=>?_
    obtain⟨u,hu1,hu2⟩:=HA.out.at j z hzz
    rw [← hu2.1]
    exact AL.out j u (by rw [← HN.out]; exact (List.getElem?_eq_some_iff.1 hu1).1) hu1)
   have Y1:=X4.out.on BE.out
   obtain⟨r0,r1,r2,r3⟩:=Y1.cs4
   obtain⟨t0,t1,t2,t3⟩:=Y1.fs4
   have zz:=Y1.lt
   have FB:=Lib.hid (setD_box Y1 (.int .i64 0) (.int .i64 0) (.slice none 0 0) (.int .i64 0))
   have BL:=Lib.hid (setD_below (b:=w.heap.size+1+1) (B.out.trans (BE.out.mono B.out.size)) (by omega) (.int .i64 0) (.int .i64 0) (.slice none 0 0) (.int .i64 0))
   clear Y1
   go_wp2_with fail
   obtain⟨v0,v1,v2,v3⟩:=FB.out.cs4
   refine bodyPost_ret (v:=.tuple #[.agg #[.int .i64 0,.int .i64 0,.slice none 0 0,.int .i64 0],.bool false]) (by simp [results,Tryz.results31,go_sem,v0,v1,v2,v3]) rfl ?_
   rw [FA.out]
   exact⟨rfl,BL.out⟩
end Go.Proofs.YtncogjpmboglhaaGreat.Av
namespace Go.Proofs.YtncogjpmboglhaaGreat.Bk
open Go.RowKit Rw YtncogjpmboglhaaGreat.Nm Pr
def cut5V (B b2 _:Nat) (so:Option Addr) (sn sc at_:Nat) (lo hiv:Value) (lt ld:List XEn) (i:Nat) (v:Value) (x:World):Prop :=
 match i with
 | 0=>∃ g,v=.slice (some ⟨g,0,none⟩) 0 0∧B≤g∧Box x g #[] 43
 | 1=>v=.pointer (some ⟨b2,4,none⟩)
 | 2=>v=.slice so sn sc
 | 3=>v=.int .i64 (at_:Int)
 | 4=>v=lo
 | 5=>OwnN x B v lt
 | 6=>v=.pointer (some ⟨b2,4,none⟩)
 | 7=>v=.slice so sn sc
 | 8=>v=.int .i64 (at_:Int)
 | 9=>v=.int .i64 ((at_:Int)+1)
 | 10=>v=hiv
 | 11=>OwnN x B v (lt++ld)
 | 12=>v=.pointer (some ⟨b2,4,none⟩)
 | _=>True
noncomputable def cutR5:Code:=((Tryz.f19.body.bind (findRegion 5)).getD .skip)
theorem cut5V_on (B b2 b3:Nat) (so:Option Addr) (sn sc at_:Nat) (lo hiv:Value) (lt ld:List XEn) (i:Nat) (v:Value) (x x':World) (h:cut5V B b2 b3 so sn sc at_ lo hiv lt ld i v x) (hb:Below x.heap.size x x'):cut5V B b2 b3 so sn sc at_ lo hiv lt ld i v x':=by
 by_cases hi:i<13
 ·rcases (by omega:i=0∨i=1∨i=2∨i=3∨i=4∨i=5∨i=6∨i=7∨i=8∨i=9∨i=10∨i=11∨i=12) with rfl|rfl|rfl|rfl|rfl|rfl|rfl|rfl|rfl|rfl|rfl|rfl|rfl
  ·obtain⟨g,h1,h2,h3⟩:=h
   exact⟨g,h1,h2,h3.on hb⟩
  ·exact h
  ·exact h
  ·exact h
  ·exact h
  ·exact own_on h hb
  ·exact h
  ·exact h
  ·exact h
  ·exact h
  ·exact h
  ·exact own_on h hb
  ·exact h
 ·unfold cut5V
  split <;> first | omega | trivial
theorem cut5 (Q:Exit→Act→World→Prop) (W:World) (b2 b3:Nat) (me:Int) (y1 y2 y3 y5:Value) (so:Option Addr) (sn sc at_:Nat) (l:List XEn) (u0 u1 u2 u3 u6 u7 u8 u9 u10 u12 u13 u14 u15 u16 u17 u18 u19 u20 u21 u22 u23 u24 u25 u26 u27 u28 u29 u30 u31 u32 u33 u34 u35 u36 u37 u38 u39 u40 u41 u42 u43 u44 u45 u46 u47 u48 u49 u50 u51 u52 u53 u54 u55 u56 u57 u58 u59 u60 u61 u62 u63 u64 u65 u66 u67 u68 u69 u70 u71 u72 u73 u74 u75 u76 u77 u78 u79 u80 u81 u82 u83 u84 u85 u86 u87 u88 u89 u90 u91 u92 u93 u94 u95 u96 u97 u98 u99 u100 u101 u102 u103:Value)
  (h2:Box W b2 #[.int .i64 me,y1,y2,y3,.slice so sn sc,y5] 31) (hs:RowN W (.slice so sn sc) l) (hat:at_+1≤l.length) (hlen:l.length≤900)
  (hQ:∀ (x:World) (v39 v40 v41 v42 v43 v44 v45 v46 v47 v48 v49 v50 v51:Value),Box x b2 #[.int .i64 me,y1,y2,y3,v50,y5] 31→OwnN x W.heap.size v50 (l.take at_++l.drop (at_+1))→(∀ B,B≤b2→Below B W x)→(∀ c cs t,c≠b2→Box W c cs t→Box x c cs t)→(∀ k,k<W.heap.size→k≠b2→x.heap[k]?=W.heap[k]?)→Q .normal ⟨(u0::u1::u2::u3::.pointer (some ⟨b2,0,none⟩)::.pointer (some ⟨b3,0,none⟩)::u6::u7::u8::u9::u10::.int .i64 (at_:Int)::u12::u13::u14::u15::u16::u17::u18::u19::u20::u21::u22::u23::u24::u25::u26::u27::u28::u29::u30::u31::u32::u33::u34::u35::u36::u37::u38::v39::v40::v41::v42::v43::v44::v45::v46::v47::v48::v49::v50::v51::u52::u53::u54::u55::u56::u57::u58::u59::u60::u61::u62::u63::u64::u65::u66::u67::u68::u69::u70::u71::u72::u73::u74::u75::u76::u77::u78::u79::u80::u81::u82::u83::u84::u85::u86::u87::u88::u89::u90::u91::u92::u93::u94::u95::u96::u97::u98::u99::u100::u101::u102::u103::[]).toArray,[]⟩ x) :
  Code.wp Tryz.prog cutR5 Q ⟨(u0::u1::u2::u3::.pointer (some ⟨b2,0,none⟩)::.pointer (some ⟨b3,0,none⟩)::u6::u7::u8::u9::u10::.int .i64 (at_:Int)::u12::u13::u14::u15::u16::u17::u18::u19::u20::u21::u22::u23::u24::u25::u26::u27::u28::u29::u30::u31::u32::u33::u34::u35::u36::u37::u38::u39::u40::u41::u42::u43::u44::u45::u46::u47::u48::u49::u50::u51::u52::u53::u54::u55::u56::u57::u58::u59::u60::u61::u62::u63::u64::u65::u66::u67::u68::u69::u70::u71::u72::u73::u74::u75::u76::u77::u78::u79::u80::u81::u82::u83::u84::u85::u86::u87::u88::u89::u90::u91::u92::u93::u94::u95::u96::u97::u98::u99::u100::u101::u102::u103::[]).toArray,[]⟩ W:=by
 have HQ:=Lib.hid hQ
 have H2:=Lib.hid h2
 have AT1:=Lib.hid (show at_≤900 by omega)
 obtain⟨lo,slo,rlo⟩:=row_lo okN hs at_ (by omega)
 obtain⟨hiv,shi,rhi⟩:=row_hi okN hs (at_+1) hat
 have LT:=Lib.hid (show (l.take at_).length≤1000 by rw [List.length_take]; omega)
 have LTD:=Lib.hid (show (l.take at_).length≤900 by rw [List.length_take]; omega)
 have LD:=Lib.hid (show (l.drop (at_+1)).length≤1000 by rw [List.length_drop]; omega)
 generalize l.take at_=lt at *
 generalize l.drop (at_+1)=ld at *
 have SL:=Lib.hid slo
 have SH:=Lib.hid (show ∀ w,(Instr.sliceAt 28 (.slice so sn sc) (some (.int .i64 ((at_:Int)+1))) none none).run Tryz.prog w=.ok hiv w from shi)
 have RL:=Lib.hid rlo
 have RH:=Lib.hid rhi
 clear hQ h2 hs slo shi rlo rhi hat hlen
 have stab:=cut5V_on W.heap.size b2 b3 so sn sc at_ lo hiv lt ld
 unfold cutR5
 conv=>arg 2; whnf
 have nd:∀ j,(j<39∨52≤j)→∀ i,i<13→(fun i=>39+i) i≠j:=by
  intro j hj i hi h
  simp only at h
  omega
 refine Rg.region_live 14 13 (fun i=>39+i) (fun i=>if i=0 then 5 else if i=5 then 11 else 13) (cut5V W.heap.size b2 b3 so sn sc at_ lo hiv lt ld) (by kernel_rfl) (by kernel_rfl) rfl (by decide) (fun i j _ _ h=>by have h2:39+i=39+j:=h; omega) (fun i hi=>by show 39+i<104; omega) ?_ (fun _=>Rg.hall_of 1 (by kernel_rfl)) (fun kk o h1 h2=>by omega) ?_
 ·intro i o hi ho a x D hnd hc hD hb seen K hK
  clear HQ
  rcases (by omega:i=0∨i=1∨i=2∨i=3∨i=4∨i=5∨i=6∨i=7∨i=8∨i=9∨i=10∨i=11∨i=12) with rfl|rfl|rfl|rfl|rfl|rfl|rfl|rfl|rfl|rfl|rfl|rfl|rfl
  ·obtain rfl:=Option.some.inj ho
   exact Rg.op_value rfl rfl (Rg.ex_build a.eval _ 28 0 #[] rfl rfl (by simp [go_sem])) (hK (.slice (some ⟨x.heap.size,0,none⟩) 0 0) (x.alloc (.cells #[] 43)) ⟨x.heap.size,rfl,hb.size,box_new x #[] 43⟩ ((Below.refl _ _).alloc hb.size _) fun j u _ _ _ _ _ h=>stab j u _ _ h ((Below.refl _ _).alloc (Nat.le_refl _) _))
  ·obtain rfl:=Option.some.inj ho
   have e4:a.eval (.tmp 4)=.pointer (some ⟨b2,0,none⟩):=seen.kp 4 _ (nd 4 (by omega)) rfl
   exact Rg.op_value rfl rfl (Rg.ex_field a.eval _ 31 (.tmp 4) 4 rfl (by rw [e4]; simp [go_sem])) (hK _ _ rfl (Below.refl _ _) fun _ _ _ _ _ _ _ h=>h)
  ·obtain rfl:=Option.some.inj ho
   have e40:a.eval (.tmp 40)=.pointer (some ⟨b2,4,none⟩):=seen.at_ ⟨1,.data⟩ (by simp) rfl (Or.inr (by decide))
   have y:=(H2.out.on hb).cell 4
   simp only [List.getElem?_toArray,List.getElem?_cons_zero,List.getElem?_cons_succ] at y
   exact Rg.op_value rfl rfl (Rg.ex_load a.eval _ 28 (.tmp 40) rfl (by rw [e40]; simp [go_sem,y])) (hK _ _ rfl (Below.refl _ _) fun _ _ _ _ _ _ _ h=>h)
  ·obtain rfl:=Option.some.inj ho
   have e11:a.eval (.tmp 11)=.int .i64 (at_:Int):=seen.kp 11 _ (nd 11 (by omega)) rfl
   exact Rg.op_value rfl rfl (Rg.ex_move a.eval _ (.tmp 11) rfl x) (hK _ _ e11 (Below.refl _ _) fun _ _ _ _ _ _ _ h=>h)
  ·obtain rfl:=Option.some.inj ho
   have e41:a.eval (.tmp 41)=.slice so sn sc:=seen.at_ ⟨2,.data⟩ (by simp) rfl (Or.inr (by decide))
   have e42:a.eval (.tmp 42)=.int .i64 (at_:Int):=seen.at_ ⟨3,.data⟩ (by simp) rfl (Or.inr (by decide))
   exact Rg.op_value rfl rfl (Rg.ex_slice a.eval _ 28 (.tmp 41) none (some (.tmp 42)) none rfl (by show (Instr.sliceAt 28 (a.eval (.tmp 41)) none (some (a.eval (.tmp 42))) none).run Tryz.prog x=.ok lo x; rw [e41,e42]; exact SL.out x)) (hK _ _ rfl (Below.refl _ _) fun _ _ _ _ _ _ _ h=>h)
  ·obtain rfl:=Option.some.inj ho
   obtain⟨g,q0,hBg,hbx⟩:=seen.at_ ⟨0,.data⟩ (by simp) rfl (Or.inl rfl)
   have q0:a.eval (.tmp 39)=.slice (some ⟨g,0,none⟩) 0 0:=q0
   have e43:a.eval (.tmp 43)=lo:=seen.at_ ⟨4,.data⟩ (by simp) rfl (Or.inr (by decide))
   obtain⟨v',x',r,o',gr⟩:=app_fresh okN W.heap.size hbx hBg (RL.out.on hb) LT.out 28
   exact Rg.op_value rfl rfl (Rg.ex_append a.eval _ (.tmp 39) (.tmp 43) 28 rfl q0 e43 r) (hK v' x' o' (gr.mono hb.size) fun j u _ _ _ _ _ h=>stab j u _ _ h gr)
  ·obtain rfl:=Option.some.inj ho
   have e4:a.eval (.tmp 4)=.pointer (some ⟨b2,0,none⟩):=seen.kp 4 _ (nd 4 (by omega)) rfl
   exact Rg.op_value rfl rfl (Rg.ex_field a.eval _ 31 (.tmp 4) 4 rfl (by rw [e4]; simp [go_sem])) (hK _ _ rfl (Below.refl _ _) fun _ _ _ _ _ _ _ h=>h)
  ·obtain rfl:=Option.some.inj ho
   have e45:a.eval (.tmp 45)=.pointer (some ⟨b2,4,none⟩):=seen.at_ ⟨6,.data⟩ (by simp) rfl (Or.inr (by decide))
   have y:=(H2.out.on hb).cell 4
   simp only [List.getElem?_toArray,List.getElem?_cons_zero,List.getElem?_cons_succ] at y
   exact Rg.op_value rfl rfl (Rg.ex_load a.eval _ 28 (.tmp 45) rfl (by rw [e45]; simp [go_sem,y])) (hK _ _ rfl (Below.refl _ _) fun _ _ _ _ _ _ _ h=>h)
  ·obtain rfl:=Option.some.inj ho
   have e11:a.eval (.tmp 11)=.int .i64 (at_:Int):=seen.kp 11 _ (nd 11 (by omega)) rfl
   exact Rg.op_value rfl rfl (Rg.ex_move a.eval _ (.tmp 11) rfl x) (hK _ _ e11 (Below.refl _ _) fun _ _ _ _ _ _ _ h=>h)
  ·obtain rfl:=Option.some.inj ho
   have e47:a.eval (.tmp 47)=.int .i64 (at_:Int):=seen.at_ ⟨8,.data⟩ (by simp) rfl (Or.inr (by decide))
   exact Rg.op_value rfl rfl (Rg.ex_bin a.eval _ .add 3 (.tmp 47) (.const (.int .i64 1)) 3 rfl (by rw [e47]; exact add_one _ _ _ _ at_ AT1.out)) (hK _ _ rfl (Below.refl _ _) fun _ _ _ _ _ _ _ h=>h)
  ·obtain rfl:=Option.some.inj ho
   have e46:a.eval (.tmp 46)=.slice so sn sc:=seen.at_ ⟨7,.data⟩ (by simp) rfl (Or.inr (by decide))
   have e48:a.eval (.tmp 48)=.int .i64 ((at_:Int)+1):=seen.at_ ⟨9,.data⟩ (by simp) rfl (Or.inr (by decide))
   exact Rg.op_value rfl rfl (Rg.ex_slice a.eval _ 28 (.tmp 46) (some (.tmp 48)) none none rfl (by show (Instr.sliceAt 28 (a.eval (.tmp 46)) (some (a.eval (.tmp 48))) none none).run Tryz.prog x=.ok hiv x; rw [e46,e48]; exact SH.out x)) (hK _ _ rfl (Below.refl _ _) fun _ _ _ _ _ _ _ h=>h)
  ·obtain rfl:=Option.some.inj ho
   have o44:OwnN x W.heap.size (a.eval (.tmp 44)) (lt):=seen.at_ ⟨5,.data⟩ (by simp) rfl (Or.inl rfl)
   have e49:a.eval (.tmp 49)=hiv:=seen.at_ ⟨10,.data⟩ (by simp) rfl (Or.inr (by decide))
   have ox:RowN x (a.eval (.tmp 49)) ld:=by rw [e49]; exact RH.out.on hb
   obtain⟨v',x',r,o',gr⟩:=app_row okN W.heap.size o44 ox (by have:=LTD.out; omega) LD.out hb.size 28
   exact Rg.op_value rfl rfl (Rg.ex_append a.eval _ (.tmp 44) (.tmp 49) 28 rfl rfl rfl r) (hK v' x' o' ((Below.refl _ x).grown gr hb.size fun j hj=>(o44.lt j hj).1) fun j u hj dj nl nx ni h=>by
    rcases (by omega:j=0∨j=1∨j=2∨j=3∨j=4∨j=5∨j=6∨j=7∨j=8∨j=9∨j=10∨j=11∨j=12) with rfl|rfl|rfl|rfl|rfl|rfl|rfl|rfl|rfl|rfl|rfl|rfl|rfl
    ·exact absurd rfl (fun _:(0:Nat)=0=>nl (hD ⟨5,.data⟩ (by simp) rfl))
    ·exact h
    ·exact h
    ·exact h
    ·exact h
    ·exact absurd rfl (fun _:(0:Nat)=0=>nx rfl)
    ·exact h
    ·exact h
    ·exact h
    ·exact h
    ·exact h
    ·exact absurd rfl (fun _:(0:Nat)=0=>ni rfl)
    ·exact h)
  ·obtain rfl:=Option.some.inj ho
   have e4:a.eval (.tmp 4)=.pointer (some ⟨b2,0,none⟩):=seen.kp 4 _ (nd 4 (by omega)) rfl
   exact Rg.op_value rfl rfl (Rg.ex_field a.eval _ 31 (.tmp 4) 4 rfl (by rw [e4]; simp [go_sem])) (hK _ _ rfl (Below.refl _ _) fun _ _ _ _ _ _ _ h=>h)
 ·intro a w' df sz kp ⟨vs,hv⟩ hb
  have gr:a.tmps[50]?=some (vs 11):=(hv 11 (by omega)).1
  have gp:a.tmps[51]?=some (.pointer (some ⟨b2,4,none⟩)):=by
   have h:vs 12=.pointer (some ⟨b2,4,none⟩):=(hv 12 (by omega)).2 (by decide)
   rw [← h]
   exact (hv 12 (by omega)).1
  have oR:OwnN w' W.heap.size (vs 11) (lt++ld):=(hv 11 (by omega)).2 (by decide)
  generalize vs 11=xR at *
  obtain⟨ca,cp,eR⟩:=(Row.of_own oR).len
  have hbx:=H2.out.on hb
  have hblt:=H2.out.lt
  have c5:=hbx.cell 4
  have f5:=hbx.fr 4
  simp only [List.getElem?_toArray,List.getElem?_cons_zero,List.getElem?_cons_succ] at c5
  have hb1:=box_set (k:=4) hbx xR
  show Rg.SeqFrom _ _ _ 1 13 a w'
  simp only [Rg.SeqFrom]
  refine Rg.op_store 28 (.tmp 51) (.tmp 50) rfl rfl rfl rfl (Rg.eval_some gp) (Rg.eval_some gr) (w':=w'.setCell ⟨b2,4,none⟩ xR) (by rw [eR]; simp [go_sem,c5,f5]) ?_
  have kp2:∀ j,(j<39∨52≤j)→a.tmps[j]?=(u0::u1::u2::u3::.pointer (some ⟨b2,0,none⟩)::.pointer (some ⟨b3,0,none⟩)::u6::u7::u8::u9::u10::.int .i64 (at_:Int)::u12::u13::u14::u15::u16::u17::u18::u19::u20::u21::u22::u23::u24::u25::u26::u27::u28::u29::u30::u31::u32::u33::u34::u35::u36::u37::u38::u39::u40::u41::u42::u43::u44::u45::u46::u47::u48::u49::u50::u51::u52::u53::u54::u55::u56::u57::u58::u59::u60::u61::u62::u63::u64::u65::u66::u67::u68::u69::u70::u71::u72::u73::u74::u75::u76::u77::u78::u79::u80::u81::u82::u83::u84::u85::u86::u87::u88::u89::u90::u91::u92::u93::u94::u95::u96::u97::u98::u99::u100::u101::u102::u103::[])[j]?:=fun j hj=>(kp j (nd j hj)).trans List.getElem?_toArray
  obtain⟨mid,hmid,rfl⟩:=Rg.frame_mid 39 13 df sz (by simp) kp2
  match mid,hmid with
  | [v39,v40,v41,v42,v43,v44,v45,v46,v47,v48,v49,v50,v51],_ =>
   have e1:some v50=some xR:=gr
   obtain rfl:=Option.some.inj e1
   refine HQ.out _ v39 v40 v41 v42 v43 v44 v45 v46 v47 v48 v49 v50 v51 ?_ ?_ ?_ ?_ ?_
   ·simpa using hb1
   ·exact own_cell oR b2 4 _ hblt
   ·exact fun B hB=>(hb.mono (Nat.le_of_lt (Nat.lt_of_le_of_lt hB hblt))).setCell hB _
   ·intro c cs t hc hbc
    exact (RowKit.Below.heap_setCell _ _ _ _ hc).trans (hbc.on hb)
   ·intro k hk hne
    exact (RowKit.Below.heap_setCell _ _ _ _ hne).trans (hb.block k hk)
end Go.Proofs.YtncogjpmboglhaaGreat.Bk
