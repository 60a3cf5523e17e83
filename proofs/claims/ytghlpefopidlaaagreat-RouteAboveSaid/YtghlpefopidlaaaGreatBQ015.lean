/-
  Rows that rise by an. Conditions as told.
-/
import Derived.Test.YtghlpefopidlaaaGreatBQ004
import Derived.Test.YtghlpefopidlaaaGreatBQ012
set_option maxRecDepth 100000
set_option maxHeartbeats 64000000
open _root_.Bool renaming true->aO
open _root_.Go renaming Value->aA,World->aF,Addr->aK,wpOp->bC,Act->bD
open Go.IntKind renaming i64->aJ
open Go.Lib renaming hid->ay
open Go.Operand renaming tmp->ak
open Go.Proofs.Tryz renaming prog->aQ
open Go.Proofs.YtghlpefopidlaaaGreat.Rg renaming dF->aD,get_put->aH,dU->aM,eD->aN,eH->aT,iJ->aY,fZ->aZ,gI->bf,size_put->bg,jv->bG,nU->bH,iA->bI,iZ->bJ,nu->bK
open Go.Region renaming binds->aG
open Go.RowKit.Below renaming refl->aj,heap_setCell->aC
open Go.Value renaming pointer->J,slice->O,int->aI
open _root_.List renaming getElem?_toArray->X,getElem?_cons_zero->Y,getElem?_cons_succ->Z,getElem?_eq_some_iff->au,getElem?_eq_getElem->aP,mem_iff_getElem?->aR,mem_of_getElem?->aS,getElem?_map->aU,mem_map->aV,all_eq_true->aW,length_map->aX
open _root_.Option renaming some->U,none->ah
open _root_.Or renaming inr->aB,inl->bF
namespace Go.Proofs.YtghlpefopidlaaaGreat
namespace Av
open Go.RowKit Go.Sort Rw YtghlpefopidlaaaGreat.Nm Pr Bk
def iN {α:Type} (key:α->dV) (l:List α):Prop:=l.Pairwise fun a b=>dP (key a) (key b)=aO
def eG {α:Type} (key:α->dV) (l:List α) (x:dV):Nat:=(l.takeWhile fun a=>dP (key a) x).length
def fO {α:Type} (key:α->dV) (l:List α) (x:dV):Bool:=match l[eG key l x]? with
 | some y=>decide (key y=x)
 | none=>false
theorem gu {α:Type} (key:α->dV) (l:List α) (x:dV):eG key l x=gQ (l.map key) x:=by
 unfold eG gQ;rw [List.takeWhile_map,aX]
 rfl
theorem yJ {α:Type} (key:α->dV) (l:List α) (x:dV) (k:Nat) (hall:∀ (j:Nat) (y:α),j<k->l[j]?=U y->dP (key y) x=aO) (hend:k=l.length\/∃ y,l[k]?=U y/\dP (key y) x=false):eG key l x=k:=by
 rw [gu];refine Lj _ _ k (fun j y hj h=>?_) ?_
 ·rw [aU] at h;cases hy:l[j]? with
  | none=>rw [hy] at h; cases h
  | some z=>rw [hy] at h; rw [<- Option.some.inj h]; exact hall j z hj hy
 ·rcases hend with h|⟨y,h1,h2⟩
  ·exact bF (by rw [aX]; exact h)
  ·exact aB ⟨key y,by rw [aU,h1]; rfl,h2⟩
theorem jy {α:Type} {key:α->dV} {l:List α} (h:iN key l) {i j:Nat} {x y:α} (hij:i<j) (hx:l[i]?=U x) (hy:l[j]?=U y):dP (key x) (key y)=aO:=by
 obtain⟨h1,rfl⟩:=au.1 hx;obtain⟨h2,rfl⟩:=au.1 hy;exact List.pairwise_iff_getElem.1 h i j h1 h2 hij
theorem yK (x y:dV):decide (jO x y<0)=dP x y:=by
 have h:=oU x y;cases hl:dP x y
 ·rw [hl] at h; simp at h; simpa using h
 ·rw [hl] at h; simp at h; simpa using h
theorem sK {α:Type} {key:α->dV} {l:List α} (h:iN key l) (x:dV):fO key l x=decide (x∈l.map key):=by
 unfold fO;have hp:eG key l x<=l.length:=by rw [gu]; exact Nat.le_trans (nC _ _) (by simp)
 have hlo:∀ (j:Nat) (y:α),j<eG key l x->l[j]?=U y->dP (key y) x=aO:=by
  intro j y hj hy;have ht:(l.takeWhile fun a=>dP (key a) x)[j]?=U y:=by
   have:=List.takeWhile_prefix (fun a=>dP (key a) x) (l:=l);obtain⟨t,ht⟩:=this;rw [<- ht,List.getElem?_append_left hj] at hy;exact hy
  exact aW.1 List.all_takeWhile y (aS ht)
 have hhi:∀ (y:α),l[eG key l x]?=U y->dP (key y) x=false:=by
  intro y hy;unfold eG at hy;cases hq:dP (key y) x with
  | false=>rfl
  | true =>
   exfalso;have:∀ (m:List α),m[(m.takeWhile fun a=>dP (key a) x).length]?=U y->False:=by
    intro m
    induction m with
    | nil=>intro h; simp at h
    | cons a m ih =>
     intro h;by_cases ha:dP (key a) x=aO
     ·exact ih (by simpa [List.takeWhile_cons,ha] using h)
     ·simp [ha] at h;subst h;exact ha hq
   exact this l hy
 cases hy:l[eG key l x]? with
 | none =>
  symm
  rw [decide_eq_false_iff_not];intro hm;obtain⟨z,hz,hzx⟩:=aV.1 hm;obtain⟨j,hj⟩:=aR.1 hz;have hjl:=(au.1 hj).1;have hpl:l.length<=eG key l x:=by
   rcases Nat.lt_or_ge (eG key l x) l.length with h0|h0
   ·rw [aP h0] at hy; cases hy
   ·exact h0
  have:=hlo j z (by omega) hj;rw [hzx,iV] at this;cases this
 | some y =>
  simp only;by_cases hk:key y=x
  ·rw [decide_eq_true hk]
   symm
   rw [decide_eq_true_eq];exact aV.2 ⟨y,aS hy,hk⟩
  ·rw [decide_eq_false hk]
   symm
   rw [decide_eq_false_iff_not];intro hm;obtain⟨z,hz,hzx⟩:=aV.1 hm;obtain⟨j,hj⟩:=aR.1 hz;rcases Nat.lt_trichotomy j (eG key l x) with h1|h1|h1
   ·have:=hlo j z h1 hj;rw [hzx,iV] at this;cases this
   ·subst h1;rw [hy] at hj;rw [Option.some.inj hj] at hk;exact hk hzx
   ·have h3:=jy h h1 hy hj;have h4:=hhi y hy;rw [hzx] at h3;rw [h3] at h4;cases h4
end Av
namespace Bk
open Go.RowKit Go.Sort Rw YtghlpefopidlaaaGreat.Nm Pr
theorem p8 {W:aF} {b:Nat} {z0 z1 z2 z3 z4 z5:aA} (h:dG W b #[z0,z1,z2,z3,z4,z5] 30) (me:Int) (o1 o2 o3 o4 o5:Option aK) (n1 c1 n2 c2 n3 c3 n4 c4 n5 c5:Nat) :
  (Instr.storeAt 30 (J (U ⟨b,0,ah⟩)) (.agg #[aI aJ me,O o1 n1 c1,O o2 n2 c2,O o3 n3 c3,O o4 n4 c4,O o5 n5 c5])).run aQ W=.ok () (iY W b (aI aJ me) (O o1 n1 c1) (O o2 n2 c2) (O o3 n3 c3) (O o4 n4 c4) (O o5 n5 c5)):=by
 obtain⟨x0,x1,x2,x3,x4,x5⟩:=h.ig;obtain⟨f0,f1,f2,f3,f4,f5⟩:=h.oJ;simp [go_sem,x0,x1,x2,x3,x4,x5,f0,f1,f2,f3,f4,f5]
theorem Aj {W:aF} {b:Nat} {z0 z1 z2 z3 z4 z5:aA} (h:dG W b #[z0,z1,z2,z3,z4,z5] 30):(Instr.loadAt 30 (J (U ⟨b,0,ah⟩))).run aQ W=.ok (.agg #[z0,z1,z2,z3,z4,z5]) W:=by
 obtain⟨x0,x1,x2,x3,x4,x5⟩:=h.ig;simp [go_sem,x0,x1,x2,x3,x4,x5]
theorem sM {P:Program} (ρ:Operand->aA) (o:Oper) (x y z:Operand) (t s r:TypeId) (f:FuncId) (ho:o.op=.call { callee:=.value (.func f),args:=#[x,y,z],argTypes:=#[t,s,r] }) {v u q:aA} (hx:ρ x=v) (hy:ρ y=u) (hz:ρ z=q) (hf:ρ (.func f)=.func (.func f) #[] #[]) (w:aF)
  (hc:(callFunc f #[v,u,q]).run P w=.ok (.enter f #[v,u,q]) w):(execOp ρ o).run P w=.ok (.enter f #[v,u,q]) w:=by
 simp [execOp,ho,resolve,invoke,hx,hy,hz,hf,Deferred.ofValue,hc]
end Bk
namespace Av
open Go.RowKit Go.Sort Rw YtghlpefopidlaaaGreat.Nm Pr Bk
def P8 (B:Nat) (b1:Nat) (_me:Int) (_z2 _z4 _z5:aA) (o1:Option aK) (n1 c1:Nat) (nl:List Int) (o3:Option aK) (n3 c3:Nat) (sl:List dV) (i:Nat) (v:aA) (x:aF):Prop :=
 match i with
 | 0=>v=J (U ⟨b1,1,ah⟩)
 | 1=>v=O o1 n1 c1
 | 2=>∃ s:Sl,v=dQ s/\uH x B v nl
 | 3=>v=J (U ⟨b1,3,ah⟩)
 | 4=>v=O o3 n3 c3
 | 5=>∃ s:Sl,v=dQ s/\Ca x B v sl
 | 6=>v=J (U ⟨b1,1,ah⟩)
 | _=>True
noncomputable def Wt:Code:=((Tryz.f33.body.bind (eU 1)).getD .skip)
theorem P9 (B:Nat) (b1:Nat) (me:Int) (z2 z4 z5:aA) (o1:Option aK) (n1 c1:Nat) (nl:List Int) (o3:Option aK) (n3 c3:Nat) (sl:List dV) (i:Nat) (v:aA) (x x':aF) (h:P8 B b1 me z2 z4 z5 o1 n1 c1 nl o3 n3 c3 sl i v x) (hb:Below x.heap.size x x'):P8 B b1 me z2 z4 z5 o1 n1 c1 nl o3 n3 c3 sl i v x':=by
 by_cases hi:i<7
 ·rcases (by omega:i=0\/i=1\/i=2\/i=3\/i=4\/i=5\/i=6) with rfl|rfl|rfl|rfl|rfl|rfl|rfl
  ·exact h
  ·exact h
  ·obtain⟨s,h1,h2⟩:=h; exact⟨s,h1,Bk.dL h2 hb⟩
  ·exact h
  ·exact h
  ·obtain⟨s,h1,h2⟩:=h; exact⟨s,h1,Bk.dL h2 hb⟩
  ·exact h
 ·unfold P8
  split <;> first | omega | trivial
theorem cp1 (Q:Exit->bD->aF->Prop) (W:aF) (b1:Nat) (me:Int) (z2 z4 z5:aA) (o1:Option aK) (n1 c1:Nat) (nl:List Int) (o3:Option aK) (n3 c3:Nat) (sl:List dV) (u0 u2 u3 u4 u5 u6 u7 u8 u9 u10 u11 u12 u13 u14 u15 u16 u17 u18 u19 u20 u21 u22 u23 u24 u25 u26 u27 u28 u29 u30 u31 u32 u33 u34 u35 u36 u37 u38 u39 u40 u41 u42 u43 u44 u45 u46 u47 u48 u49 u50 u51 u52 u53 u54 u55 u56 u57 u58 u59 u60 u61 u62 u63 u64 u65 u66 u67 u68 u69 u70 u71 u72 u73 u74 u75 u76 u77 u78 u79 u80 u81:aA)
  (h1:dG W b1 #[aI aJ me,O o1 n1 c1,z2,O o3 n3 c3,z4,z5] 30) (r1:Bw W (O o1 n1 c1) nl) (r3:Ac W (O o3 n3 c3) sl) (l1:nl.length<=900) (l3:sl.length<=900)
  (hQ:∀ (x:aF) (v6 v7 v8 v9 v10 v11 v12 v13:aA) (p1:Option aK) (q1 s1:Nat) (p3:Option aK) (q3 s3:Nat),dG x b1 #[aI aJ me,O p1 q1 s1,z2,O p3 q3 s3,z4,z5] 30->uH x W.heap.size (O p1 q1 s1) nl->Ca x W.heap.size (O p3 q3 s3) sl->(∀ B,B<=b1->Below B W x)->(∀ k,k<W.heap.size->k≠b1->x.heap[k]?=W.heap[k]?)->Q .normal ⟨(u0::J (U ⟨b1,0,ah⟩)::u2::u3::u4::u5::v6::v7::v8::v9::v10::v11::v12::v13::u14::u15::u16::u17::u18::u19::u20::u21::u22::u23::u24::u25::u26::u27::u28::u29::u30::u31::u32::u33::u34::u35::u36::u37::u38::u39::u40::u41::u42::u43::u44::u45::u46::u47::u48::u49::u50::u51::u52::u53::u54::u55::u56::u57::u58::u59::u60::u61::u62::u63::u64::u65::u66::u67::u68::u69::u70::u71::u72::u73::u74::u75::u76::u77::u78::u79::u80::u81::[]).toArray,[]⟩ x) :
  Code.wp aQ Wt Q ⟨(u0::J (U ⟨b1,0,ah⟩)::u2::u3::u4::u5::u6::u7::u8::u9::u10::u11::u12::u13::u14::u15::u16::u17::u18::u19::u20::u21::u22::u23::u24::u25::u26::u27::u28::u29::u30::u31::u32::u33::u34::u35::u36::u37::u38::u39::u40::u41::u42::u43::u44::u45::u46::u47::u48::u49::u50::u51::u52::u53::u54::u55::u56::u57::u58::u59::u60::u61::u62::u63::u64::u65::u66::u67::u68::u69::u70::u71::u72::u73::u74::u75::u76::u77::u78::u79::u80::u81::[]).toArray,[]⟩ W:=by
 have HQ:=ay hQ;have H1:=ay h1;have R1:=ay r1;have R3:=ay r3;have L1:=ay l1;have L3:=ay l3;clear hQ h1 r1 r3 l1 l3;have qo:=P9 W.heap.size b1 me z2 z4 z5 o1 n1 c1 nl o3 n3 c3 sl;unfold Wt
 conv=>arg 2; whnf
 have nd:∀ j,(j<6\/13<=j)->∀ i,i<7->(fun i=>6+i) i≠j:=by
  intro j hj i hi h;simp only at h;omega
 refine bG 10 7 (fun i=>6+i) (fun _=>7) (P8 W.heap.size b1 me z2 z4 z5 o1 n1 c1 nl o3 n3 c3 sl) (by kernel_rfl) (by kernel_rfl) rfl (by decide) (fun i j _ _ h=>by have h2:6+i=6+j:=h; omega) (fun i hi=>by show 6+i<82; omega) ?_ (fun _=>bH 14 (by kernel_rfl)) ?_ ?_
 ·intro i o hi ho a x D hnd hc hD hb seen K hK;clear HQ;rcases (by omega:i=0\/i=1\/i=2\/i=3\/i=4\/i=5\/i=6) with rfl|rfl|rfl|rfl|rfl|rfl|rfl
  ·cases ho;have e1:a.eval (ak 1)=J (U ⟨b1,0,ah⟩):=seen.kp 1 _ (nd 1 (by omega)) rfl;exact aD rfl rfl (aN a.eval _ 30 (ak 1) 1 rfl (by rw [e1]; simp [go_sem])) (hK _ _ rfl (aj _ _) fun _ _ _ _ _ _ _ h=>h)
  ·cases ho;have e6:a.eval (ak 6)=J (U ⟨b1,1,ah⟩):=seen.at_ ⟨0,.data⟩ (by simp) rfl (aB (by decide));have y1:=(H1.out.on hb).cell 1;simp only [X,Y,Z] at y1;exact aD rfl rfl (aT a.eval _ 24 (ak 6) rfl (by rw [e6]; simp [go_sem,y1])) (hK _ _ rfl (aj _ _) fun _ _ _ _ _ _ _ h=>h)
  ·cases ho;have e7:a.eval (ak 7)=O o1 n1 c1:=seen.at_ ⟨1,.data⟩ (by simp) rfl (aB (by decide));exact aZ rfl rfl (Rw.iT a.eval _ (ak 7) 24 39 rfl e7 rfl _ (fD Tryz.func39 rfl rfl _ _)) (vH (o1,n1,c1) nl x (R1.out.on hb) L1.out) fun e w1 h=>by
    obtain⟨⟨s,rfl,h1⟩,h3⟩:=h;exact⟨_,rfl,hK _ _ ⟨s,rfl,dK h1 hb.size⟩ (h3.mono hb.size) fun j u hj _ _ _ hne h=>qo j u _ _ h h3⟩
  ·cases ho;have e1:a.eval (ak 1)=J (U ⟨b1,0,ah⟩):=seen.kp 1 _ (nd 1 (by omega)) rfl;exact aD rfl rfl (aN a.eval _ 30 (ak 1) 3 rfl (by rw [e1]; simp [go_sem])) (hK _ _ rfl (aj _ _) fun _ _ _ _ _ _ _ h=>h)
  ·cases ho;have e9:a.eval (ak 9)=J (U ⟨b1,3,ah⟩):=seen.at_ ⟨3,.data⟩ (by simp) rfl (aB (by decide));have y3:=(H1.out.on hb).cell 3;simp only [X,Y,Z] at y3;exact aD rfl rfl (aT a.eval _ 26 (ak 9) rfl (by rw [e9]; simp [go_sem,y3])) (hK _ _ rfl (aj _ _) fun _ _ _ _ _ _ _ h=>h)
  ·cases ho;have e10:a.eval (ak 10)=O o3 n3 c3:=seen.at_ ⟨4,.data⟩ (by simp) rfl (aB (by decide));exact aZ rfl rfl (Rw.iT a.eval _ (ak 10) 26 99 rfl e10 rfl _ (fD Tryz.func99 rfl rfl _ _)) (Et (o3,n3,c3) sl x (R3.out.on hb) L3.out) fun e w1 h=>by
    obtain⟨⟨s,rfl,h1⟩,h3⟩:=h;exact⟨_,rfl,hK _ _ ⟨s,rfl,dK h1 hb.size⟩ (h3.mono hb.size) fun j u hj _ _ _ hne h=>qo j u _ _ h h3⟩
  ·cases ho;have e1:a.eval (ak 1)=J (U ⟨b1,0,ah⟩):=seen.kp 1 _ (nd 1 (by omega)) rfl;exact aD rfl rfl (aN a.eval _ 30 (ak 1) 1 rfl (by rw [e1]; simp [go_sem])) (hK _ _ rfl (aj _ _) fun _ _ _ _ _ _ _ h=>h)
 ·intro kk o h1 h2 ho;rcases (by omega:kk=8\/kk=9) with rfl|rfl
  ·cases ho;exact⟨⟨7,.phase⟩,by simp,rfl,rfl⟩
  ·cases ho;exact⟨⟨8,.data⟩,by simp,rfl,rfl⟩
 ·intro a w' df sz kp ⟨vs,hv⟩ hb;have sz':a.tmps.size=82:=sz;have g1:a.tmps[1]?=U (J (U ⟨b1,0,ah⟩)):=(kp 1 (nd 1 (by omega))).trans rfl;have g12:a.tmps[12]?=U (J (U ⟨b1,1,ah⟩)):=by
   have h:vs 6=J (U ⟨b1,1,ah⟩):=(hv 6 (by omega)).2 (by decide);rw [<- h];exact (hv 6 (by omega)).1
  obtain⟨⟨p1,q1,s1⟩,hs1,ho1⟩:=(hv 2 (by omega)).2 (by decide);have g8:a.tmps[8]?=U (O p1 q1 s1):=((hv 2 (by omega)).1).trans (congrArg U hs1);rw [hs1] at ho1;obtain⟨⟨p3,q3,s3⟩,hs3,ho3⟩:=(hv 5 (by omega)).2 (by decide);have g11:a.tmps[11]?=U (O p3 q3 s3):=((hv 5 (by omega)).1).trans (congrArg U hs3);rw [hs3] at ho3;have hB:=H1.out.on hb;have hlt:=H1.out.lt;show aY _ _ _ 3 7 a w';simp only [aY];have c1x:=hB.cell 1;have f1x:=hB.fr 1;simp only [X,Y,Z] at c1x;refine bf 24 (ak 12) (ak 8) rfl rfl rfl rfl (aM g12) (aM g8) (w':=(w').setCell ⟨b1,1,ah⟩ (O p1 q1 s1)) (by simp [go_sem,c1x,f1x]) ?_;have hB1:dG ((w').setCell ⟨b1,1,ah⟩ (O p1 q1 s1)) b1 #[aI aJ me,O p1 q1 s1,z2,O o3 n3 c3,z4,z5] 30:=by simpa using eu (k:=1) hB (O p1 q1 s1)
  refine aD rfl rfl (aN _ _ 30 (ak 1) 3 rfl (v:=J (U ⟨b1,3,ah⟩)) (by rw [aM g1]; simp [go_sem])) ?_;have ZU:((a).put (U 13) (J (U ⟨b1,3,ah⟩))).tmps[13]?=U (J (U ⟨b1,3,ah⟩)):=by simp [Act.put,sz']
  show bC _ _ _ 9 _ ((a).put (U 13) (J (U ⟨b1,3,ah⟩))) _;have c3x:=hB1.cell 3;have f3x:=hB1.fr 3;simp only [X,Y,Z] at c3x;refine bf 26 (ak 13) (ak 11) rfl rfl rfl rfl (aM ZU) (aM ((aH _ 13 _ 11 (by decide)).trans g11)) (w':=((w').setCell ⟨b1,1,ah⟩ (O p1 q1 s1)).setCell ⟨b1,3,ah⟩ (O p3 q3 s3)) (by simp [go_sem,c3x,f3x]) ?_;have hB3:dG (((w').setCell ⟨b1,1,ah⟩ (O p1 q1 s1)).setCell ⟨b1,3,ah⟩ (O p3 q3 s3)) b1 #[aI aJ me,O p1 q1 s1,z2,O p3 q3 s3,z4,z5] 30:=by simpa using eu (k:=3) hB1 (O p3 q3 s3)
  have uI:∀ j,(j<6\/14<=j)->((a).put (U 13) (J (U ⟨b1,3,ah⟩))).tmps[j]?=(u0::J (U ⟨b1,0,ah⟩)::u2::u3::u4::u5::u6::u7::u8::u9::u10::u11::u12::u13::u14::u15::u16::u17::u18::u19::u20::u21::u22::u23::u24::u25::u26::u27::u28::u29::u30::u31::u32::u33::u34::u35::u36::u37::u38::u39::u40::u41::u42::u43::u44::u45::u46::u47::u48::u49::u50::u51::u52::u53::u54::u55::u56::u57::u58::u59::u60::u61::u62::u63::u64::u65::u66::u67::u68::u69::u70::u71::u72::u73::u74::u75::u76::u77::u78::u79::u80::u81::[])[j]?:=fun j hj=>(aH _ 13 _ j (by omega)).trans ((kp j (nd j (by omega))).trans X);obtain⟨mid,hmid,hfr⟩:=bI (a:=(a).put (U 13) (J (U ⟨b1,3,ah⟩))) 6 8 df (by simp [bg,sz']) (by simp) uI;show Q .normal ((a).put (U 13) (J (U ⟨b1,3,ah⟩))) _;rw [hfr]
  match mid,hmid with
  | [v6,v7,v8,v9,v10,v11,v12,v13],_ =>
   exact HQ.out _ _ _ _ _ _ _ _ _ p1 q1 s1 p3 q3 s3 hB3 (eO (eO ho1 b1 1 (O p1 q1 s1) hlt) b1 3 (O p3 q3 s3) hlt) (eO (eO ho3 b1 1 (O p1 q1 s1) hlt) b1 3 (O p3 q3 s3) hlt) (fun B hBl=>(((hb.mono (Nat.le_of_lt (Nat.lt_of_le_of_lt hBl hlt))).setCell (p:=⟨b1,1,ah⟩) hBl (O p1 q1 s1)).setCell (p:=⟨b1,3,ah⟩) hBl (O p3 q3 s3))) (fun k hk hne=>((aC ((w').setCell ⟨b1,1,ah⟩ (O p1 q1 s1)) ⟨b1,3,ah⟩ (O p3 q3 s3) k hne).trans ((aC (w') ⟨b1,1,ah⟩ (O p1 q1 s1) k hne).trans (hb.block k hk))))
def Qa (B:Nat) (b1:Nat) (_me:Int) (_z1 _z3:aA) (o2:Option aK) (n2 c2:Nat) (al:List jS) (o4:Option aK) (n4 c4:Nat) (el:List jl) (o5:Option aK) (n5 c5:Nat) (ol:List lZ) (i:Nat) (v:aA) (x:aF):Prop :=
 match i with
 | 0=>v=J (U ⟨b1,2,ah⟩)
 | 1=>v=O o2 n2 c2
 | 2=>∃ s:Sl,v=dQ s/\qJ x B v al
 | 3=>v=J (U ⟨b1,4,ah⟩)
 | 4=>v=O o4 n4 c4
 | 5=>∃ s:Sl,v=dQ s/\jM x B v el
 | 6=>v=J (U ⟨b1,5,ah⟩)
 | 7=>v=O o5 n5 c5
 | 8=>∃ s:Sl,v=dQ s/\oP x B v ol
 | 9=>v=J (U ⟨b1,2,ah⟩)
 | _=>True
noncomputable def Wu:Code:=((Tryz.f33.body.bind (eU 2)).getD .skip)
theorem Qb (B:Nat) (b1:Nat) (me:Int) (z1 z3:aA) (o2:Option aK) (n2 c2:Nat) (al:List jS) (o4:Option aK) (n4 c4:Nat) (el:List jl) (o5:Option aK) (n5 c5:Nat) (ol:List lZ) (i:Nat) (v:aA) (x x':aF) (h:Qa B b1 me z1 z3 o2 n2 c2 al o4 n4 c4 el o5 n5 c5 ol i v x) (hb:Below x.heap.size x x'):Qa B b1 me z1 z3 o2 n2 c2 al o4 n4 c4 el o5 n5 c5 ol i v x':=by
 by_cases hi:i<10
 ·rcases (by omega:i=0\/i=1\/i=2\/i=3\/i=4\/i=5\/i=6\/i=7\/i=8\/i=9) with rfl|rfl|rfl|rfl|rfl|rfl|rfl|rfl|rfl|rfl
  ·exact h
  ·exact h
  ·obtain⟨s,h1,h2⟩:=h; exact⟨s,h1,Bk.dL h2 hb⟩
  ·exact h
  ·exact h
  ·obtain⟨s,h1,h2⟩:=h; exact⟨s,h1,Bk.dL h2 hb⟩
  ·exact h
  ·exact h
  ·obtain⟨s,h1,h2⟩:=h; exact⟨s,h1,Bk.dL h2 hb⟩
  ·exact h
 ·unfold Qa
  split <;> first | omega | trivial
theorem cp2 (Q:Exit->bD->aF->Prop) (W:aF) (b1:Nat) (me:Int) (z1 z3:aA) (o2:Option aK) (n2 c2:Nat) (al:List jS) (o4:Option aK) (n4 c4:Nat) (el:List jl) (o5:Option aK) (n5 c5:Nat) (ol:List lZ) (u0 u2 u3 u4 u5 u6 u7 u8 u9 u10 u11 u12 u13 u14 u15 u16 u17 u18 u19 u20 u21 u22 u23 u24 u25 u26 u27 u28 u29 u30 u31 u32 u33 u34 u35 u36 u37 u38 u39 u40 u41 u42 u43 u44 u45 u46 u47 u48 u49 u50 u51 u52 u53 u54 u55 u56 u57 u58 u59 u60 u61 u62 u63 u64 u65 u66 u67 u68 u69 u70 u71 u72 u73 u74 u75 u76 u77 u78 u79 u80 u81:aA)
  (h1:dG W b1 #[aI aJ me,z1,O o2 n2 c2,z3,O o4 n4 c4,O o5 n5 c5] 30) (r2:Er W (O o2 n2 c2) al) (r4:mP W (O o4 n4 c4) el) (r5:Es W (O o5 n5 c5) ol) (l2:al.length<=900) (l4:el.length<=900) (l5:ol.length<=900)
  (hQ:∀ (x:aF) (v14 v15 v16 v17 v18 v19 v20 v21 v22 v23 v24 v25:aA) (p2:Option aK) (q2 s2:Nat) (p4:Option aK) (q4 s4:Nat) (p5:Option aK) (q5 s5:Nat),dG x b1 #[aI aJ me,z1,O p2 q2 s2,z3,O p4 q4 s4,O p5 q5 s5] 30->qJ x W.heap.size (O p2 q2 s2) al->jM x W.heap.size (O p4 q4 s4) el->oP x W.heap.size (O p5 q5 s5) ol->(∀ B,B<=b1->Below B W x)->(∀ k,k<W.heap.size->k≠b1->x.heap[k]?=W.heap[k]?)->Q .normal ⟨(u0::J (U ⟨b1,0,ah⟩)::u2::u3::u4::u5::u6::u7::u8::u9::u10::u11::u12::u13::v14::v15::v16::v17::v18::v19::v20::v21::v22::v23::v24::v25::u26::u27::u28::u29::u30::u31::u32::u33::u34::u35::u36::u37::u38::u39::u40::u41::u42::u43::u44::u45::u46::u47::u48::u49::u50::u51::u52::u53::u54::u55::u56::u57::u58::u59::u60::u61::u62::u63::u64::u65::u66::u67::u68::u69::u70::u71::u72::u73::u74::u75::u76::u77::u78::u79::u80::u81::[]).toArray,[]⟩ x) :
  Code.wp aQ Wu Q ⟨(u0::J (U ⟨b1,0,ah⟩)::u2::u3::u4::u5::u6::u7::u8::u9::u10::u11::u12::u13::u14::u15::u16::u17::u18::u19::u20::u21::u22::u23::u24::u25::u26::u27::u28::u29::u30::u31::u32::u33::u34::u35::u36::u37::u38::u39::u40::u41::u42::u43::u44::u45::u46::u47::u48::u49::u50::u51::u52::u53::u54::u55::u56::u57::u58::u59::u60::u61::u62::u63::u64::u65::u66::u67::u68::u69::u70::u71::u72::u73::u74::u75::u76::u77::u78::u79::u80::u81::[]).toArray,[]⟩ W:=by
 have HQ:=ay hQ;have H1:=ay h1;have R2:=ay r2;have R4:=ay r4;have R5:=ay r5;have L2:=ay l2;have L4:=ay l4;have L5:=ay l5;clear hQ h1 r2 r4 r5 l2 l4 l5;have qo:=Qb W.heap.size b1 me z1 z3 o2 n2 c2 al o4 n4 c4 el o5 n5 c5 ol;unfold Wu
 conv=>arg 2; whnf
 have nd:∀ j,(j<14\/24<=j)->∀ i,i<10->(fun i=>14+i) i≠j:=by
  intro j hj i hi h;simp only at h;omega
 refine bG 15 10 (fun i=>14+i) (fun _=>10) (Qa W.heap.size b1 me z1 z3 o2 n2 c2 al o4 n4 c4 el o5 n5 c5 ol) (by kernel_rfl) (by kernel_rfl) rfl (by decide) (fun i j _ _ h=>by have h2:14+i=14+j:=h; omega) (fun i hi=>by show 14+i<82; omega) ?_ (fun _=>bH 14 (by kernel_rfl)) ?_ ?_
 ·intro i o hi ho a x D hnd hc hD hb seen K hK;clear HQ;rcases (by omega:i=0\/i=1\/i=2\/i=3\/i=4\/i=5\/i=6\/i=7\/i=8\/i=9) with rfl|rfl|rfl|rfl|rfl|rfl|rfl|rfl|rfl|rfl
  ·cases ho;have e1:a.eval (ak 1)=J (U ⟨b1,0,ah⟩):=seen.kp 1 _ (nd 1 (by omega)) rfl;exact aD rfl rfl (aN a.eval _ 30 (ak 1) 2 rfl (by rw [e1]; simp [go_sem])) (hK _ _ rfl (aj _ _) fun _ _ _ _ _ _ _ h=>h)
  ·cases ho;have e14:a.eval (ak 14)=J (U ⟨b1,2,ah⟩):=seen.at_ ⟨0,.data⟩ (by simp) rfl (aB (by decide));have y2:=(H1.out.on hb).cell 2;simp only [X,Y,Z] at y2;exact aD rfl rfl (aT a.eval _ 25 (ak 14) rfl (by rw [e14]; simp [go_sem,y2])) (hK _ _ rfl (aj _ _) fun _ _ _ _ _ _ _ h=>h)
  ·cases ho;have e15:a.eval (ak 15)=O o2 n2 c2:=seen.at_ ⟨1,.data⟩ (by simp) rfl (aB (by decide));exact aZ rfl rfl (Rw.iT a.eval _ (ak 15) 25 100 rfl e15 rfl _ (fD Tryz.func100 rfl rfl _ _)) (Eu (o2,n2,c2) al x (R2.out.on hb) L2.out) fun e w1 h=>by
    obtain⟨⟨s,rfl,h1⟩,h3⟩:=h;exact⟨_,rfl,hK _ _ ⟨s,rfl,dK h1 hb.size⟩ (h3.mono hb.size) fun j u hj _ _ _ hne h=>qo j u _ _ h h3⟩
  ·cases ho;have e1:a.eval (ak 1)=J (U ⟨b1,0,ah⟩):=seen.kp 1 _ (nd 1 (by omega)) rfl;exact aD rfl rfl (aN a.eval _ 30 (ak 1) 4 rfl (by rw [e1]; simp [go_sem])) (hK _ _ rfl (aj _ _) fun _ _ _ _ _ _ _ h=>h)
  ·cases ho;have e17:a.eval (ak 17)=J (U ⟨b1,4,ah⟩):=seen.at_ ⟨3,.data⟩ (by simp) rfl (aB (by decide));have y4:=(H1.out.on hb).cell 4;simp only [X,Y,Z] at y4;exact aD rfl rfl (aT a.eval _ 27 (ak 17) rfl (by rw [e17]; simp [go_sem,y4])) (hK _ _ rfl (aj _ _) fun _ _ _ _ _ _ _ h=>h)
  ·cases ho;have e18:a.eval (ak 18)=O o4 n4 c4:=seen.at_ ⟨4,.data⟩ (by simp) rfl (aB (by decide));exact aZ rfl rfl (Rw.iT a.eval _ (ak 18) 27 101 rfl e18 rfl _ (fD Tryz.func101 rfl rfl _ _)) (Ev (o4,n4,c4) el x (R4.out.on hb) L4.out) fun e w1 h=>by
    obtain⟨⟨s,rfl,h1⟩,h3⟩:=h;exact⟨_,rfl,hK _ _ ⟨s,rfl,dK h1 hb.size⟩ (h3.mono hb.size) fun j u hj _ _ _ hne h=>qo j u _ _ h h3⟩
  ·cases ho;have e1:a.eval (ak 1)=J (U ⟨b1,0,ah⟩):=seen.kp 1 _ (nd 1 (by omega)) rfl;exact aD rfl rfl (aN a.eval _ 30 (ak 1) 5 rfl (by rw [e1]; simp [go_sem])) (hK _ _ rfl (aj _ _) fun _ _ _ _ _ _ _ h=>h)
  ·cases ho;have e20:a.eval (ak 20)=J (U ⟨b1,5,ah⟩):=seen.at_ ⟨6,.data⟩ (by simp) rfl (aB (by decide));have y5:=(H1.out.on hb).cell 5;simp only [X,Y,Z] at y5;exact aD rfl rfl (aT a.eval _ 28 (ak 20) rfl (by rw [e20]; simp [go_sem,y5])) (hK _ _ rfl (aj _ _) fun _ _ _ _ _ _ _ h=>h)
  ·cases ho;have e21:a.eval (ak 21)=O o5 n5 c5:=seen.at_ ⟨7,.data⟩ (by simp) rfl (aB (by decide));exact aZ rfl rfl (Rw.iT a.eval _ (ak 21) 28 102 rfl e21 rfl _ (fD Tryz.func102 rfl rfl _ _)) (Ew (o5,n5,c5) ol x (R5.out.on hb) L5.out) fun e w1 h=>by
    obtain⟨⟨s,rfl,h1⟩,h3⟩:=h;exact⟨_,rfl,hK _ _ ⟨s,rfl,dK h1 hb.size⟩ (h3.mono hb.size) fun j u hj _ _ _ hne h=>qo j u _ _ h h3⟩
  ·cases ho;have e1:a.eval (ak 1)=J (U ⟨b1,0,ah⟩):=seen.kp 1 _ (nd 1 (by omega)) rfl;exact aD rfl rfl (aN a.eval _ 30 (ak 1) 2 rfl (by rw [e1]; simp [go_sem])) (hK _ _ rfl (aj _ _) fun _ _ _ _ _ _ _ h=>h)
 ·intro kk o h1 h2 ho;rcases (by omega:kk=11\/kk=12\/kk=13\/kk=14) with rfl|rfl|rfl|rfl
  ·cases ho;exact⟨⟨10,.phase⟩,by simp,rfl,rfl⟩
  ·cases ho;exact⟨⟨11,.data⟩,by simp,rfl,rfl⟩
  ·cases ho;exact⟨⟨12,.phase⟩,by simp,rfl,rfl⟩
  ·cases ho;exact⟨⟨13,.data⟩,by simp,rfl,rfl⟩
 ·intro a w' df sz kp ⟨vs,hv⟩ hb;have sz':a.tmps.size=82:=sz;have g1:a.tmps[1]?=U (J (U ⟨b1,0,ah⟩)):=(kp 1 (nd 1 (by omega))).trans rfl;have g23:a.tmps[23]?=U (J (U ⟨b1,2,ah⟩)):=by
   have h:vs 9=J (U ⟨b1,2,ah⟩):=(hv 9 (by omega)).2 (by decide);rw [<- h];exact (hv 9 (by omega)).1
  obtain⟨⟨p2,q2,s2⟩,hs2,ho2⟩:=(hv 2 (by omega)).2 (by decide);have g16:a.tmps[16]?=U (O p2 q2 s2):=((hv 2 (by omega)).1).trans (congrArg U hs2);rw [hs2] at ho2;obtain⟨⟨p4,q4,s4⟩,hs4,ho4⟩:=(hv 5 (by omega)).2 (by decide);have g19:a.tmps[19]?=U (O p4 q4 s4):=((hv 5 (by omega)).1).trans (congrArg U hs4);rw [hs4] at ho4;obtain⟨⟨p5,q5,s5⟩,hs5,Wv⟩:=(hv 8 (by omega)).2 (by decide);have g22:a.tmps[22]?=U (O p5 q5 s5):=((hv 8 (by omega)).1).trans (congrArg U hs5);rw [hs5] at Wv;have hB:=H1.out.on hb;have hlt:=H1.out.lt;show aY _ _ _ 5 10 a w';simp only [aY];have c2x:=hB.cell 2;have f2x:=hB.fr 2;simp only [X,Y,Z] at c2x;refine bf 25 (ak 23) (ak 16) rfl rfl rfl rfl (aM g23) (aM g16) (w':=(w').setCell ⟨b1,2,ah⟩ (O p2 q2 s2)) (by simp [go_sem,c2x,f2x]) ?_;have hB2:dG ((w').setCell ⟨b1,2,ah⟩ (O p2 q2 s2)) b1 #[aI aJ me,z1,O p2 q2 s2,z3,O o4 n4 c4,O o5 n5 c5] 30:=by simpa using eu (k:=2) hB (O p2 q2 s2)
  refine aD rfl rfl (aN _ _ 30 (ak 1) 4 rfl (v:=J (U ⟨b1,4,ah⟩)) (by rw [aM g1]; simp [go_sem])) ?_;have ZV:((a).put (U 24) (J (U ⟨b1,4,ah⟩))).tmps[24]?=U (J (U ⟨b1,4,ah⟩)):=by simp [Act.put,sz']
  show bC _ _ _ 12 _ ((a).put (U 24) (J (U ⟨b1,4,ah⟩))) _;have c4x:=hB2.cell 4;have f4x:=hB2.fr 4;simp only [X,Y,Z] at c4x;refine bf 27 (ak 24) (ak 19) rfl rfl rfl rfl (aM ZV) (aM ((aH _ 24 _ 19 (by decide)).trans g19)) (w':=((w').setCell ⟨b1,2,ah⟩ (O p2 q2 s2)).setCell ⟨b1,4,ah⟩ (O p4 q4 s4)) (by simp [go_sem,c4x,f4x]) ?_;have hB4:dG (((w').setCell ⟨b1,2,ah⟩ (O p2 q2 s2)).setCell ⟨b1,4,ah⟩ (O p4 q4 s4)) b1 #[aI aJ me,z1,O p2 q2 s2,z3,O p4 q4 s4,O o5 n5 c5] 30:=by simpa using eu (k:=4) hB2 (O p4 q4 s4)
  refine aD rfl rfl (aN _ _ 30 (ak 1) 5 rfl (v:=J (U ⟨b1,5,ah⟩)) (by rw [aM ((aH _ 24 _ 1 (by decide)).trans g1)]; simp [go_sem])) ?_;have ZW:(((a).put (U 24) (J (U ⟨b1,4,ah⟩))).put (U 25) (J (U ⟨b1,5,ah⟩))).tmps[25]?=U (J (U ⟨b1,5,ah⟩)):=by simp [Act.put,sz']
  show bC _ _ _ 14 _ (((a).put (U 24) (J (U ⟨b1,4,ah⟩))).put (U 25) (J (U ⟨b1,5,ah⟩))) _;have c5x:=hB4.cell 5;have f5x:=hB4.fr 5;simp only [X,Y,Z] at c5x;refine bf 28 (ak 25) (ak 22) rfl rfl rfl rfl (aM ZW) (aM ((aH _ 25 _ 22 (by decide)).trans ((aH _ 24 _ 22 (by decide)).trans g22))) (w':=(((w').setCell ⟨b1,2,ah⟩ (O p2 q2 s2)).setCell ⟨b1,4,ah⟩ (O p4 q4 s4)).setCell ⟨b1,5,ah⟩ (O p5 q5 s5)) (by simp [go_sem,c5x,f5x]) ?_;have hB5:dG ((((w').setCell ⟨b1,2,ah⟩ (O p2 q2 s2)).setCell ⟨b1,4,ah⟩ (O p4 q4 s4)).setCell ⟨b1,5,ah⟩ (O p5 q5 s5)) b1 #[aI aJ me,z1,O p2 q2 s2,z3,O p4 q4 s4,O p5 q5 s5] 30:=by simpa using eu (k:=5) hB4 (O p5 q5 s5)
  have uI:∀ j,(j<14\/26<=j)->(((a).put (U 24) (J (U ⟨b1,4,ah⟩))).put (U 25) (J (U ⟨b1,5,ah⟩))).tmps[j]?=(u0::J (U ⟨b1,0,ah⟩)::u2::u3::u4::u5::u6::u7::u8::u9::u10::u11::u12::u13::u14::u15::u16::u17::u18::u19::u20::u21::u22::u23::u24::u25::u26::u27::u28::u29::u30::u31::u32::u33::u34::u35::u36::u37::u38::u39::u40::u41::u42::u43::u44::u45::u46::u47::u48::u49::u50::u51::u52::u53::u54::u55::u56::u57::u58::u59::u60::u61::u62::u63::u64::u65::u66::u67::u68::u69::u70::u71::u72::u73::u74::u75::u76::u77::u78::u79::u80::u81::[])[j]?:=fun j hj=>(aH _ 25 _ j (by omega)).trans ((aH _ 24 _ j (by omega)).trans ((kp j (nd j (by omega))).trans X));obtain⟨mid,hmid,hfr⟩:=bI (a:=((a).put (U 24) (J (U ⟨b1,4,ah⟩))).put (U 25) (J (U ⟨b1,5,ah⟩))) 14 12 df (by simp [bg,sz']) (by simp) uI;show Q .normal (((a).put (U 24) (J (U ⟨b1,4,ah⟩))).put (U 25) (J (U ⟨b1,5,ah⟩))) _;rw [hfr]
  match mid,hmid with
  | [v14,v15,v16,v17,v18,v19,v20,v21,v22,v23,v24,v25],_ =>
   exact HQ.out _ _ _ _ _ _ _ _ _ _ _ _ _ p2 q2 s2 p4 q4 s4 p5 q5 s5 hB5 (eO (eO (eO ho2 b1 2 (O p2 q2 s2) hlt) b1 4 (O p4 q4 s4) hlt) b1 5 (O p5 q5 s5) hlt) (eO (eO (eO ho4 b1 2 (O p2 q2 s2) hlt) b1 4 (O p4 q4 s4) hlt) b1 5 (O p5 q5 s5) hlt) (eO (eO (eO Wv b1 2 (O p2 q2 s2) hlt) b1 4 (O p4 q4 s4) hlt) b1 5 (O p5 q5 s5) hlt) (fun B hBl=>((((hb.mono (Nat.le_of_lt (Nat.lt_of_le_of_lt hBl hlt))).setCell (p:=⟨b1,2,ah⟩) hBl (O p2 q2 s2)).setCell (p:=⟨b1,4,ah⟩) hBl (O p4 q4 s4)).setCell (p:=⟨b1,5,ah⟩) hBl (O p5 q5 s5))) (fun k hk hne=>((aC (((w').setCell ⟨b1,2,ah⟩ (O p2 q2 s2)).setCell ⟨b1,4,ah⟩ (O p4 q4 s4)) ⟨b1,5,ah⟩ (O p5 q5 s5) k hne).trans ((aC ((w').setCell ⟨b1,2,ah⟩ (O p2 q2 s2)) ⟨b1,4,ah⟩ (O p4 q4 s4) k hne).trans ((aC (w') ⟨b1,2,ah⟩ (O p2 q2 s2) k hne).trans (hb.block k hk)))))
def Qc (B:Nat) (b1:Nat) (_me:Int) (_z1 _z3 _z4 _z5:aA) (g n cap k:Nat) (y1 y2:Int) (yo:Option aK) (yn yc:Nat) (y4:Int) (p:List C5) (i:Nat) (v:aA) (x:aF):Prop :=
 match i with
 | 0=>v=J (U ⟨b1,2,ah⟩)
 | 1=>v=O (U ⟨g,0,ah⟩) n cap
 | 2=>v=aI aJ (k:Int)
 | 3=>v=J (U ⟨b1,2,ah⟩)
 | 4=>v=O (U ⟨g,0,ah⟩) n cap
 | 5=>v=aI aJ (k:Int)
 | 6=>v=J (U ⟨g,k * 4,ah⟩)
 | 7=>v=lJ (y1,y2,(yo,yn,yc),y4)
 | 8=>∃ s:Sl,v=lJ (y1,y2,s,y4)/\iE x B (dQ s) p
 | 9=>v=J (U ⟨g,k * 4,ah⟩)
 | _=>True
noncomputable def Ww:Code:=((Tryz.f33.body.bind (eU 6)).getD .skip)
theorem Qd (B:Nat) (b1:Nat) (me:Int) (z1 z3 z4 z5:aA) (g n cap k:Nat) (y1 y2:Int) (yo:Option aK) (yn yc:Nat) (y4:Int) (p:List C5) (i:Nat) (v:aA) (x x':aF) (h:Qc B b1 me z1 z3 z4 z5 g n cap k y1 y2 yo yn yc y4 p i v x) (hb:Below x.heap.size x x'):Qc B b1 me z1 z3 z4 z5 g n cap k y1 y2 yo yn yc y4 p i v x':=by
 by_cases hi:i<10
 ·rcases (by omega:i=0\/i=1\/i=2\/i=3\/i=4\/i=5\/i=6\/i=7\/i=8\/i=9) with rfl|rfl|rfl|rfl|rfl|rfl|rfl|rfl|rfl|rfl
  ·exact h
  ·exact h
  ·exact h
  ·exact h
  ·exact h
  ·exact h
  ·exact h
  ·exact h
  ·obtain⟨s,h1,h2⟩:=h; exact⟨s,h1,Bk.dL h2 hb⟩
  ·exact h
 ·unfold Qc
  split <;> first | omega | trivial
theorem cp6 (Q:Exit->bD->aF->Prop) (W:aF) (B0:Nat) (l:List jS) (b1:Nat) (me:Int) (z1 z3 z4 z5:aA) (g n cap k:Nat) (y1 y2:Int) (yo:Option aK) (yn yc:Nat) (y4:Int) (p:List C5) (u0 u2 u4 u5 u6 u7 u8 u9 u10 u11 u12 u13 u14 u15 u16 u17 u18 u19 u20 u21 u22 u23 u24 u25 u26 u27 u28 u29 u30 u31 u32 u33 u34 u35 u36 u37 u38 u39 u40 u41 u42 u43 u44 u45 u46 u47 u48 u49 u50 u51 u52 u53 u54 u55 u56 u57 u58 u59 u60 u61 u62 u63 u64 u65 u66 u67 u68 u69 u70 u71 u72 u73 u74 u75 u76 u77 u78 u79 u80 u81:aA)
  (h1:dG W b1 #[aI aJ me,z1,O (U ⟨g,0,ah⟩) n cap,z3,z4,z5] 30) (ho:qJ W B0 (O (U ⟨g,0,ah⟩) n cap) l) (hy:l[k]?=U (y1,y2,(yo,yn,yc),y4)) (hp:fF W (O yo yn yc) p) (lp:p.length<=900)
  (hQ:∀ (x:aF) (v32 v33 v34 v35 v36 v37 v38 v39 v40 v41:aA) (s1:Option aK) (s2 s3:Nat),iE x W.heap.size (O s1 s2 s3) p->qJ x B0 (O (U ⟨g,0,ah⟩) n cap) (l.set k (y1,y2,(s1,s2,s3),y4))->But g W x->(∀ B1,B1<=g->B1<=W.heap.size->Below B1 W x)->Q .normal ⟨(u0::J (U ⟨b1,0,ah⟩)::u2::aI aJ (k:Int)::u4::u5::u6::u7::u8::u9::u10::u11::u12::u13::u14::u15::u16::u17::u18::u19::u20::u21::u22::u23::u24::u25::u26::u27::u28::u29::u30::u31::v32::v33::v34::v35::v36::v37::v38::v39::v40::v41::u42::u43::u44::u45::u46::u47::u48::u49::u50::u51::u52::u53::u54::u55::u56::u57::u58::u59::u60::u61::u62::u63::u64::u65::u66::u67::u68::u69::u70::u71::u72::u73::u74::u75::u76::u77::u78::u79::u80::u81::[]).toArray,[]⟩ x) :
  Code.wp aQ Ww Q ⟨(u0::J (U ⟨b1,0,ah⟩)::u2::aI aJ (k:Int)::u4::u5::u6::u7::u8::u9::u10::u11::u12::u13::u14::u15::u16::u17::u18::u19::u20::u21::u22::u23::u24::u25::u26::u27::u28::u29::u30::u31::u32::u33::u34::u35::u36::u37::u38::u39::u40::u41::u42::u43::u44::u45::u46::u47::u48::u49::u50::u51::u52::u53::u54::u55::u56::u57::u58::u59::u60::u61::u62::u63::u64::u65::u66::u67::u68::u69::u70::u71::u72::u73::u74::u75::u76::u77::u78::u79::u80::u81::[]).toArray,[]⟩ W:=by
 have HQ:=ay hQ;have H1:=ay h1;have HO:=ay ho;have HY:=ay hy;have HP:=ay hp;have LP:=ay lp;have IX:=ay (mZ okD g k n cap (by obtain⟨_,_,hv⟩:=(Row.dH ho).len; have h:=(au.1 hy).1; simp at hv; omega));have EL:=ay (je okD ho hy);clear hQ h1 ho hy hp lp;have qo:=Qd W.heap.size b1 me z1 z3 z4 z5 g n cap k y1 y2 yo yn yc y4 p;unfold Ww
 conv=>arg 2; whnf
 have nd:∀ j,(j<32\/42<=j)->∀ i,i<10->(fun i=>32+i) i≠j:=by
  intro j hj i hi h;simp only at h;omega
 refine bG 11 10 (fun i=>32+i) (fun _=>10) (Qc W.heap.size b1 me z1 z3 z4 z5 g n cap k y1 y2 yo yn yc y4 p) (by kernel_rfl) (by kernel_rfl) rfl (by decide) (fun i j _ _ h=>by have h2:32+i=32+j:=h; omega) (fun i hi=>by show 32+i<82; omega) ?_ (fun _=>bH 14 (by kernel_rfl)) ?_ ?_
 ·intro i o hi ho a x D hnd hc hD hb seen K hK;clear HQ;rcases (by omega:i=0\/i=1\/i=2\/i=3\/i=4\/i=5\/i=6\/i=7\/i=8\/i=9) with rfl|rfl|rfl|rfl|rfl|rfl|rfl|rfl|rfl|rfl
  ·cases ho;have e1:a.eval (ak 1)=J (U ⟨b1,0,ah⟩):=seen.kp 1 _ (nd 1 (by omega)) rfl;exact aD rfl rfl (aN a.eval _ 30 (ak 1) 2 rfl (by rw [e1]; simp [go_sem])) (hK _ _ rfl (aj _ _) fun _ _ _ _ _ _ _ h=>h)
  ·cases ho;have e32:a.eval (ak 32)=J (U ⟨b1,2,ah⟩):=seen.at_ ⟨0,.data⟩ (by simp) rfl (aB (by decide));have y2:=(H1.out.on hb).cell 2;simp only [X,Y,Z] at y2;exact aD rfl rfl (aT a.eval _ 25 (ak 32) rfl (by rw [e32]; simp [go_sem,y2])) (hK _ _ rfl (aj _ _) fun _ _ _ _ _ _ _ h=>h)
  ·cases ho;have e3:a.eval (ak 3)=aI aJ (k:Int):=seen.kp 3 _ (nd 3 (by omega)) rfl;exact aD rfl rfl (bJ a.eval _ (ak 3) rfl x) (hK _ _ e3 (aj _ _) fun _ _ _ _ _ _ _ h=>h)
  ·cases ho;have e1:a.eval (ak 1)=J (U ⟨b1,0,ah⟩):=seen.kp 1 _ (nd 1 (by omega)) rfl;exact aD rfl rfl (aN a.eval _ 30 (ak 1) 2 rfl (by rw [e1]; simp [go_sem])) (hK _ _ rfl (aj _ _) fun _ _ _ _ _ _ _ h=>h)
  ·cases ho;have e35:a.eval (ak 35)=J (U ⟨b1,2,ah⟩):=seen.at_ ⟨3,.data⟩ (by simp) rfl (aB (by decide));have y2:=(H1.out.on hb).cell 2;simp only [X,Y,Z] at y2;exact aD rfl rfl (aT a.eval _ 25 (ak 35) rfl (by rw [e35]; simp [go_sem,y2])) (hK _ _ rfl (aj _ _) fun _ _ _ _ _ _ _ h=>h)
  ·cases ho;have e3:a.eval (ak 3)=aI aJ (k:Int):=seen.kp 3 _ (nd 3 (by omega)) rfl;exact aD rfl rfl (bJ a.eval _ (ak 3) rfl x) (hK _ _ e3 (aj _ _) fun _ _ _ _ _ _ _ h=>h)
  ·cases ho;have e36:a.eval (ak 36)=O (U ⟨g,0,ah⟩) n cap:=seen.at_ ⟨4,.data⟩ (by simp) rfl (aB (by decide));have e37:a.eval (ak 37)=aI aJ (k:Int):=seen.at_ ⟨5,.data⟩ (by simp) rfl (aB (by decide));exact aD rfl rfl (bK a.eval _ 25 (ak 36) (ak 37) rfl (by rw [e36,e37]; exact IX.out x)) (hK _ _ rfl (aj _ _) fun _ _ _ _ _ _ _ h=>h)
  ·cases ho;have e38:a.eval (ak 38)=J (U ⟨g,k * 4,ah⟩):=seen.at_ ⟨6,.data⟩ (by simp) rfl (aB (by decide));exact aD rfl rfl (aT a.eval _ 36 (ak 38) rfl (by rw [e38]; exact Rn x _ (y1,y2,(yo,yn,yc),y4) (EL.out x hb))) (hK _ _ rfl (aj _ _) fun _ _ _ _ _ _ _ h=>h)
  ·cases ho;have e39:a.eval (ak 39)=lJ (y1,y2,(yo,yn,yc),y4):=seen.at_ ⟨7,.data⟩ (by simp) rfl (aB (by decide));exact aZ rfl rfl (Rw.iT a.eval _ (ak 39) 36 35 rfl e39 rfl _ (fD Tryz.func35 rfl rfl _ _)) (vL (y1,y2,(yo,yn,yc),y4) p x (HP.out.on hb) LP.out) fun e w1 h=>by
    obtain⟨⟨s,rfl,h1⟩,h3⟩:=h;exact⟨_,rfl,hK _ _ ⟨s,rfl,dK h1 hb.size⟩ (h3.mono hb.size) fun j u hj _ _ _ hne h=>qo j u _ _ h h3⟩
  ·cases ho;have e33:a.eval (ak 33)=O (U ⟨g,0,ah⟩) n cap:=seen.at_ ⟨1,.data⟩ (by simp) rfl (aB (by decide));have e34:a.eval (ak 34)=aI aJ (k:Int):=seen.at_ ⟨2,.data⟩ (by simp) rfl (aB (by decide));exact aD rfl rfl (bK a.eval _ 25 (ak 33) (ak 34) rfl (by rw [e33,e34]; exact IX.out x)) (hK _ _ rfl (aj _ _) fun _ _ _ _ _ _ _ h=>h)
 ·intro kk o h1 h2 ho;omega
 ·intro a w' df sz kp ⟨vs,hv⟩ hb;have sz':a.tmps.size=82:=sz;have g41:a.tmps[41]?=U (J (U ⟨g,k * 4,ah⟩)):=by
   have h:vs 9=J (U ⟨g,k * 4,ah⟩):=(hv 9 (by omega)).2 (by decide);rw [<- h];exact (hv 9 (by omega)).1
  obtain⟨⟨s1,s2,s3⟩,hs,hc⟩:=(hv 8 (by omega)).2 (by decide);have g40:a.tmps[40]?=U (lJ (y1,y2,(s1,s2,s3),y4)):=((hv 8 (by omega)).1).trans (congrArg U hs);obtain⟨w2,hr,st1,st2,Wx⟩:=Ua (k:=k) (y1,y2,(s1,s2,s3),y4) (Bk.dL HO.out hb) (au.1 HY.out).1;obtain⟨cur,hg⟩:=iD (Bk.dL HO.out hb);show aY _ _ _ 1 10 a w';simp only [aY];refine bf 36 (ak 41) (ak 40) rfl rfl rfl rfl (aM g41) (aM g40) (w':=w2) hr ?_;have uI:∀ j,(j<32\/42<=j)->(a).tmps[j]?=(u0::J (U ⟨b1,0,ah⟩)::u2::aI aJ (k:Int)::u4::u5::u6::u7::u8::u9::u10::u11::u12::u13::u14::u15::u16::u17::u18::u19::u20::u21::u22::u23::u24::u25::u26::u27::u28::u29::u30::u31::u32::u33::u34::u35::u36::u37::u38::u39::u40::u41::u42::u43::u44::u45::u46::u47::u48::u49::u50::u51::u52::u53::u54::u55::u56::u57::u58::u59::u60::u61::u62::u63::u64::u65::u66::u67::u68::u69::u70::u71::u72::u73::u74::u75::u76::u77::u78::u79::u80::u81::[])[j]?:=fun j hj=>(kp j (nd j (by omega))).trans X;obtain⟨mid,hmid,hfr⟩:=bI (a:=a) 32 10 df (by simp [sz']) (by simp) uI;show Q .normal (a) _;rw [hfr]
  match mid,hmid with
  | [v32,v33,v34,v35,v36,v37,v38,v39,v40,v41],_ =>
   exact HQ.out _ _ _ _ _ _ _ _ _ _ _ s1 s2 s3 (st2.own hc hg (by decide)) st1 ((But.of_below hb).trans st2) fun B1 hB hl=>Wx B1 W hB (hb.mono hl)
def GI (B:Nat) (b1:Nat) (_me:Int) (_z1 _z2 _z3 _z5:aA) (g n cap k:Nat) (_y1 _y2 _y3 _y4:Int) (yo:Option aK) (yn yc:Nat) (_y6:Int) (_y7:Bool) (p:List C5) (i:Nat) (v:aA) (x:aF):Prop :=
 match i with
 | 0=>v=J (U ⟨b1,4,ah⟩)
 | 1=>v=O (U ⟨g,0,ah⟩) n cap
 | 2=>v=aI aJ (k:Int)
 | 3=>v=J (U ⟨b1,4,ah⟩)
 | 4=>v=O (U ⟨g,0,ah⟩) n cap
 | 5=>v=aI aJ (k:Int)
 | 6=>v=J (U ⟨g,k * 7,ah⟩)
 | 7=>v=J (U ⟨g,k * 7+4,ah⟩)
 | 8=>v=O yo yn yc
 | 9=>∃ s:Sl,v=dQ s/\iE x B v p
 | 10=>v=J (U ⟨g,k * 7,ah⟩)
 | 11=>v=J (U ⟨g,k * 7+4,ah⟩)
 | _=>True
noncomputable def Ro:Code:=((Tryz.f33.body.bind (eU 11)).getD .skip)
theorem Lx (B:Nat) (b1:Nat) (me:Int) (z1 z2 z3 z5:aA) (g n cap k:Nat) (y1 y2 y3 y4:Int) (yo:Option aK) (yn yc:Nat) (y6:Int) (y7:Bool) (p:List C5) (i:Nat) (v:aA) (x x':aF) (h:GI B b1 me z1 z2 z3 z5 g n cap k y1 y2 y3 y4 yo yn yc y6 y7 p i v x) (hb:Below x.heap.size x x'):GI B b1 me z1 z2 z3 z5 g n cap k y1 y2 y3 y4 yo yn yc y6 y7 p i v x':=by
 by_cases hi:i<12
 ·rcases (by omega:i=0\/i=1\/i=2\/i=3\/i=4\/i=5\/i=6\/i=7\/i=8\/i=9\/i=10\/i=11) with rfl|rfl|rfl|rfl|rfl|rfl|rfl|rfl|rfl|rfl|rfl|rfl
  ·exact h
  ·exact h
  ·exact h
  ·exact h
  ·exact h
  ·exact h
  ·exact h
  ·exact h
  ·exact h
  ·obtain⟨s,h1,h2⟩:=h; exact⟨s,h1,Bk.dL h2 hb⟩
  ·exact h
  ·exact h
 ·unfold GI
  split <;> first | omega | trivial
theorem ZX (Q:Exit->bD->aF->Prop) (W:aF) (B0:Nat) (l:List jl) (b1:Nat) (me:Int) (z1 z2 z3 z5:aA) (g n cap k:Nat) (y1 y2 y3 y4:Int) (yo:Option aK) (yn yc:Nat) (y6:Int) (y7:Bool) (p:List C5) (u0 u2 u3 u5 u6 u7 u8 u9 u10 u11 u12 u13 u14 u15 u16 u17 u18 u19 u20 u21 u22 u23 u24 u25 u26 u27 u28 u29 u30 u31 u32 u33 u34 u35 u36 u37 u38 u39 u40 u41 u42 u43 u44 u45 u46 u47 u48 u49 u50 u51 u52 u53 u54 u55 u56 u57 u58 u59 u60 u61 u62 u63 u64 u65 u66 u67 u68 u69 u70 u71 u72 u73 u74 u75 u76 u77 u78 u79 u80 u81:aA)
  (h1:dG W b1 #[aI aJ me,z1,z2,z3,O (U ⟨g,0,ah⟩) n cap,z5] 30) (ho:jM W B0 (O (U ⟨g,0,ah⟩) n cap) l) (hy:l[k]?=U (y1,y2,y3,y4,(yo,yn,yc),y6,y7)) (hp:fF W (O yo yn yc) p) (lp:p.length<=900)
  (hQ:∀ (x:aF) (v49 v50 v51 v52 v53 v54 v55 v56 v57 v58 v59 v60:aA) (s1:Option aK) (s2 s3:Nat),iE x W.heap.size (O s1 s2 s3) p->jM x B0 (O (U ⟨g,0,ah⟩) n cap) (l.set k (y1,y2,y3,y4,(s1,s2,s3),y6,y7))->But g W x->(∀ B1,B1<=g->B1<=W.heap.size->Below B1 W x)->Q .normal ⟨(u0::J (U ⟨b1,0,ah⟩)::u2::u3::aI aJ (k:Int)::u5::u6::u7::u8::u9::u10::u11::u12::u13::u14::u15::u16::u17::u18::u19::u20::u21::u22::u23::u24::u25::u26::u27::u28::u29::u30::u31::u32::u33::u34::u35::u36::u37::u38::u39::u40::u41::u42::u43::u44::u45::u46::u47::u48::v49::v50::v51::v52::v53::v54::v55::v56::v57::v58::v59::v60::u61::u62::u63::u64::u65::u66::u67::u68::u69::u70::u71::u72::u73::u74::u75::u76::u77::u78::u79::u80::u81::[]).toArray,[]⟩ x) :
  Code.wp aQ Ro Q ⟨(u0::J (U ⟨b1,0,ah⟩)::u2::u3::aI aJ (k:Int)::u5::u6::u7::u8::u9::u10::u11::u12::u13::u14::u15::u16::u17::u18::u19::u20::u21::u22::u23::u24::u25::u26::u27::u28::u29::u30::u31::u32::u33::u34::u35::u36::u37::u38::u39::u40::u41::u42::u43::u44::u45::u46::u47::u48::u49::u50::u51::u52::u53::u54::u55::u56::u57::u58::u59::u60::u61::u62::u63::u64::u65::u66::u67::u68::u69::u70::u71::u72::u73::u74::u75::u76::u77::u78::u79::u80::u81::[]).toArray,[]⟩ W:=by
 have HQ:=ay hQ;have H1:=ay h1;have HO:=ay ho;have HY:=ay hy;have HP:=ay hp;have LP:=ay lp;have IX:=ay (mZ lY g k n cap (by obtain⟨_,_,hv⟩:=(Row.dH ho).len; have h:=(au.1 hy).1; simp at hv; omega));have EL:=ay (je lY ho hy);clear hQ h1 ho hy hp lp;have qo:=Lx W.heap.size b1 me z1 z2 z3 z5 g n cap k y1 y2 y3 y4 yo yn yc y6 y7 p;unfold Ro
 conv=>arg 2; whnf
 have nd:∀ j,(j<49\/61<=j)->∀ i,i<12->(fun i=>49+i) i≠j:=by
  intro j hj i hi h;simp only at h;omega
 refine bG 13 12 (fun i=>49+i) (fun _=>12) (GI W.heap.size b1 me z1 z2 z3 z5 g n cap k y1 y2 y3 y4 yo yn yc y6 y7 p) (by kernel_rfl) (by kernel_rfl) rfl (by decide) (fun i j _ _ h=>by have h2:49+i=49+j:=h; omega) (fun i hi=>by show 49+i<82; omega) ?_ (fun _=>bH 14 (by kernel_rfl)) ?_ ?_
 ·intro i o hi ho a x D hnd hc hD hb seen K hK;clear HQ;rcases (by omega:i=0\/i=1\/i=2\/i=3\/i=4\/i=5\/i=6\/i=7\/i=8\/i=9\/i=10\/i=11) with rfl|rfl|rfl|rfl|rfl|rfl|rfl|rfl|rfl|rfl|rfl|rfl
  ·cases ho;have e1:a.eval (ak 1)=J (U ⟨b1,0,ah⟩):=seen.kp 1 _ (nd 1 (by omega)) rfl;exact aD rfl rfl (aN a.eval _ 30 (ak 1) 4 rfl (by rw [e1]; simp [go_sem])) (hK _ _ rfl (aj _ _) fun _ _ _ _ _ _ _ h=>h)
  ·cases ho;have e49:a.eval (ak 49)=J (U ⟨b1,4,ah⟩):=seen.at_ ⟨0,.data⟩ (by simp) rfl (aB (by decide));have y4:=(H1.out.on hb).cell 4;simp only [X,Y,Z] at y4;exact aD rfl rfl (aT a.eval _ 27 (ak 49) rfl (by rw [e49]; simp [go_sem,y4])) (hK _ _ rfl (aj _ _) fun _ _ _ _ _ _ _ h=>h)
  ·cases ho;have e4:a.eval (ak 4)=aI aJ (k:Int):=seen.kp 4 _ (nd 4 (by omega)) rfl;exact aD rfl rfl (bJ a.eval _ (ak 4) rfl x) (hK _ _ e4 (aj _ _) fun _ _ _ _ _ _ _ h=>h)
  ·cases ho;have e1:a.eval (ak 1)=J (U ⟨b1,0,ah⟩):=seen.kp 1 _ (nd 1 (by omega)) rfl;exact aD rfl rfl (aN a.eval _ 30 (ak 1) 4 rfl (by rw [e1]; simp [go_sem])) (hK _ _ rfl (aj _ _) fun _ _ _ _ _ _ _ h=>h)
  ·cases ho;have e52:a.eval (ak 52)=J (U ⟨b1,4,ah⟩):=seen.at_ ⟨3,.data⟩ (by simp) rfl (aB (by decide));have y4:=(H1.out.on hb).cell 4;simp only [X,Y,Z] at y4;exact aD rfl rfl (aT a.eval _ 27 (ak 52) rfl (by rw [e52]; simp [go_sem,y4])) (hK _ _ rfl (aj _ _) fun _ _ _ _ _ _ _ h=>h)
  ·cases ho;have e4:a.eval (ak 4)=aI aJ (k:Int):=seen.kp 4 _ (nd 4 (by omega)) rfl;exact aD rfl rfl (bJ a.eval _ (ak 4) rfl x) (hK _ _ e4 (aj _ _) fun _ _ _ _ _ _ _ h=>h)
  ·cases ho;have e53:a.eval (ak 53)=O (U ⟨g,0,ah⟩) n cap:=seen.at_ ⟨4,.data⟩ (by simp) rfl (aB (by decide));have e54:a.eval (ak 54)=aI aJ (k:Int):=seen.at_ ⟨5,.data⟩ (by simp) rfl (aB (by decide));exact aD rfl rfl (bK a.eval _ 27 (ak 53) (ak 54) rfl (by rw [e53,e54]; exact IX.out x)) (hK _ _ rfl (aj _ _) fun _ _ _ _ _ _ _ h=>h)
  ·cases ho;have e55:a.eval (ak 55)=J (U ⟨g,k * 7,ah⟩):=seen.at_ ⟨6,.data⟩ (by simp) rfl (aB (by decide));exact aD rfl rfl (aN a.eval _ 67 (ak 55) 2 rfl (by rw [e55]; simp [go_sem])) (hK _ _ rfl (aj _ _) fun _ _ _ _ _ _ _ h=>h)
  ·cases ho;have e56:a.eval (ak 56)=J (U ⟨g,k * 7+4,ah⟩):=seen.at_ ⟨7,.data⟩ (by simp) rfl (aB (by decide));have y:=EL.out x hb 4 _ rfl;simp [Addr.add,EN] at y;exact aD rfl rfl (aT a.eval _ 34 (ak 56) rfl (by rw [e56]; simp [go_sem,y])) (hK _ _ rfl (aj _ _) fun _ _ _ _ _ _ _ h=>h)
  ·cases ho;have e57:a.eval (ak 57)=O yo yn yc:=seen.at_ ⟨8,.data⟩ (by simp) rfl (aB (by decide));exact aZ rfl rfl (Rw.iT a.eval _ (ak 57) 34 44 rfl e57 rfl _ (fD Tryz.func44 rfl rfl _ _)) (jW (yo,yn,yc) p x (HP.out.on hb) LP.out) fun e w1 h=>by
    obtain⟨⟨s,rfl,h1⟩,h3⟩:=h;exact⟨_,rfl,hK _ _ ⟨s,rfl,dK h1 hb.size⟩ (h3.mono hb.size) fun j u hj _ _ _ hne h=>qo j u _ _ h h3⟩
  ·cases ho;have e50:a.eval (ak 50)=O (U ⟨g,0,ah⟩) n cap:=seen.at_ ⟨1,.data⟩ (by simp) rfl (aB (by decide));have e51:a.eval (ak 51)=aI aJ (k:Int):=seen.at_ ⟨2,.data⟩ (by simp) rfl (aB (by decide));exact aD rfl rfl (bK a.eval _ 27 (ak 50) (ak 51) rfl (by rw [e50,e51]; exact IX.out x)) (hK _ _ rfl (aj _ _) fun _ _ _ _ _ _ _ h=>h)
  ·cases ho;have e59:a.eval (ak 59)=J (U ⟨g,k * 7,ah⟩):=seen.at_ ⟨10,.data⟩ (by simp) rfl (aB (by decide));exact aD rfl rfl (aN a.eval _ 67 (ak 59) 2 rfl (by rw [e59]; simp [go_sem])) (hK _ _ rfl (aj _ _) fun _ _ _ _ _ _ _ h=>h)
 ·intro kk o h1 h2 ho;omega
 ·intro a w' df sz kp ⟨vs,hv⟩ hb;have sz':a.tmps.size=82:=sz;have g60:a.tmps[60]?=U (J (U ⟨g,k * 7+4,ah⟩)):=by
   have h:vs 11=J (U ⟨g,k * 7+4,ah⟩):=(hv 11 (by omega)).2 (by decide);rw [<- h];exact (hv 11 (by omega)).1
  obtain⟨⟨s1,s2,s3⟩,hs,hc⟩:=(hv 9 (by omega)).2 (by decide);have g58:a.tmps[58]?=U (O s1 s2 s3):=((hv 9 (by omega)).1).trans (congrArg U hs);rw [hs] at hc;obtain⟨w2,hr,st1,st2,Wx⟩:=Ub (k:=k) s1 s2 s3 (Bk.dL HO.out hb) HY.out;obtain⟨cur,hg⟩:=iD (Bk.dL HO.out hb);show aY _ _ _ 1 12 a w';simp only [aY];refine bf 34 (ak 60) (ak 58) rfl rfl rfl rfl (aM g60) (aM g58) (w':=w2) hr ?_;have uI:∀ j,(j<49\/61<=j)->(a).tmps[j]?=(u0::J (U ⟨b1,0,ah⟩)::u2::u3::aI aJ (k:Int)::u5::u6::u7::u8::u9::u10::u11::u12::u13::u14::u15::u16::u17::u18::u19::u20::u21::u22::u23::u24::u25::u26::u27::u28::u29::u30::u31::u32::u33::u34::u35::u36::u37::u38::u39::u40::u41::u42::u43::u44::u45::u46::u47::u48::u49::u50::u51::u52::u53::u54::u55::u56::u57::u58::u59::u60::u61::u62::u63::u64::u65::u66::u67::u68::u69::u70::u71::u72::u73::u74::u75::u76::u77::u78::u79::u80::u81::[])[j]?:=fun j hj=>(kp j (nd j (by omega))).trans X;obtain⟨mid,hmid,hfr⟩:=bI (a:=a) 49 12 df (by simp [sz']) (by simp) uI;show Q .normal (a) _;rw [hfr]
  match mid,hmid with
  | [v49,v50,v51,v52,v53,v54,v55,v56,v57,v58,v59,v60],_ =>
   exact HQ.out _ _ _ _ _ _ _ _ _ _ _ _ _ s1 s2 s3 (st2.own hc hg (by decide)) st1 ((But.of_below hb).trans st2) fun B1 hB hl=>Wx B1 W hB (hb.mono hl)
end Av
namespace At
open Go.RowKit Go.Sort Va In
end At
namespace Rl
open Go.RowKit Pu Rw Pr Va
end Rl
namespace Rg
open Go.RowKit Rw
structure Rp (i N A S:Nat) (d last:Nat->Nat) (V:Nat->aA->aF->Prop) (base:bD) (o:Oper) (a:bD) (x:aF):Prop where
 kp:∀ j u,(∀ i,i<N->d i≠j)->base.tmps[j]?=U u->a.eval (ak j)=u
 at_:∀ e∈o.after,aG .any e=aO->e.on≠A->e.on≠S->(last e.on=i\/N<=last e.on)->V e.on (a.eval (ak (d e.on))) x
structure InX (l:List Oper) (N A S C:Nat) (d last:Nat->Nat) (V:Nat->aA->aF->Prop) (t:TypeId) (zero:Array aA) (Km:aA->Array aA) (base:bD) (W:aF) (L:Array Bool) (a:bD) (x:aF):Prop where
 cl:∀ i o,done L i->l[i]?=U o->∀ e∈o.after,aG .any e=aO->done L e.on
 no:∀ i,N<=i->¬ done L i
 df:a.defers=base.defers
 sz:a.tmps.size=base.tmps.size
 kp:∀ j,(∀ i,i<N->d i≠j)->a.tmps[j]?=base.tmps[j]?
 qm:Below W.heap.size W x
 val:∃ vs:Nat->aA,∀ i,i<N->i≠S->done L i->a.tmps[d i]?=U (vs i)/\(i≠A->¬ done L (last i)->V i (vs i) x)
 box:done L A->¬ done L S->∃ bb,a.tmps[d A]?=U (J (U ⟨bb,0,ah⟩))/\W.heap.size<=bb/\dG x bb zero t
 fin:done L S->∃ bb v,a.tmps[d A]?=U (J (U ⟨bb,0,ah⟩))/\a.tmps[d C]?=U v/\W.heap.size<=bb/\dG x bb (Km v) t/\V C v x
theorem sN {P:Program} {Q:Exit->bD->aF->Prop} {id:Nat} {base:bD} {W:aF} {l:List Oper} (N A S C:Nat) (d last:Nat->Nat) (V:Nat->aA->aF->Prop) (t:TypeId) (zero:Array aA) (Km:aA->Array aA)
  (hm:P.follows .mixedOrders=aO) (hf:El l.toArray=aO) (hN:l.length=N) (hA:A<N) (hS:S<N) (hC:C<N) (hAS:A≠S) (hCS:C≠S) (hAC:A≠C) (Wy:N<=last C)
  (hinj:∀ i j,i<N->j<N->i≠S->j≠S->d i=d j->i=j) (hs:∀ i,i<N->d i<base.tmps.size)
  (hV:∀ i v x x',i<N->V i v x->Below x.heap.size x x'->V i v x')
  (hw:∀ o,l[S]?=U o->(∃ e∈o.after,aG .any e=aO/\e.on=A)/\∃ e∈o.after,aG .any e=aO/\e.on=C)
  (hop:∀ i o,i<N->i≠A->i≠S->l[i]?=U o->∀ a x,Below W.heap.size W x->Rp i N A S d last V base o a x->∀ K:bD->aF->Prop,(∀ v x',V i v x'->Below x.heap.size x x'->K (a.put (U (d i)) v) x')->wpOp P l.toArray Q i K a x)
  (hoA:∀ o,l[A]?=U o->∀ a x,∀ K:bD->aF->Prop,K (a.put (U (d A)) (J (U ⟨x.heap.size,0,ah⟩))) (x.alloc (.cells zero t))->wpOp P l.toArray Q A K a x)
  (ZY:∀ o,l[S]?=U o->∀ a x bb v (D:Nat->Prop),(∀ j oj,D j->l[j]?=U oj->∀ e∈oj.after,aG .any e=aO->D e.on)->(∀ e∈o.after,aG .any e=aO->D e.on)->Below W.heap.size W x->a.eval (ak (d A))=J (U ⟨bb,0,ah⟩)->a.eval (ak (d C))=v->V C v x->W.heap.size<=bb->dG x bb zero t->∀ K:bD->aF->Prop,(∀ x',Below W.heap.size W x'->dG x' bb (Km v) t->(∀ j u,j<N->j≠A->j≠S->D j->¬ D (last j)->last j≠S->V j u x->V j u x')->K a x')->wpOp P l.toArray Q S K a x)
  (hend:∀ a x bb v,a.defers=base.defers->a.tmps.size=base.tmps.size->(∀ j,(∀ i,i<N->d i≠j)->a.tmps[j]?=base.tmps[j]?)->a.tmps[d A]?=U (J (U ⟨bb,0,ah⟩))->a.tmps[d C]?=U v->W.heap.size<=bb->dG x bb (Km v) t->V C v x->Below W.heap.size W x->(∃ vs:Nat->aA,∀ i,i<N->i≠S->i≠A->a.tmps[d i]?=U (vs i)/\(N<=last i->V i (vs i) x))->Q .normal a x):(Code.region id l.toArray aO).wp P Q base W:=by
 refine nT (fun L a x=>InX l N A S C d last V t zero Km base W L a x) hm hf ?_ ?_ ?_
 ·exact⟨fun i o h=>absurd h (gD _ _),fun i _=>gD _ _,rfl,rfl,fun _ _=>rfl,(aj _ _).drew,⟨fun _=>.bool aO,fun i _ _ h=>absurd h (gD _ _)⟩,fun h=>absurd h (gD _ _),fun h=>absurd h (gD _ _)⟩
 ·intro L a x i o hsz I ho hnd lI;have hi:i<l.length:=(au.1 ho).1;have Pt:i<N:=by omega
  have vD:i<L.size:=by omega
  obtain⟨vs,hvs⟩:=I.val;have hon:∀ e∈o.after,aG .any e=aO->e.on<i:=fun e he hb=>by
   have h7:=aW.1 hf i (List.mem_range.2 (by simpa using hi));have ho':(l.toArray)[i]?=U o:=by simpa using ho
   rw [ho'] at h7;have h8:=Array.all_eq_true'.1 h7 e he;rw [hb] at h8;simpa using h8
  have dd:∀ {k},k≠i->done (L.setIfInBounds i aO) k->done L k:=fun {k} h h5=>((fV vD k).1 h5).resolve_left h;have du:∀ {k},done L k->done (L.setIfInBounds i aO) k:=fun {k} h=>(fV vD k).2 (aB h);have cl':∀ k q,done (L.setIfInBounds i aO) k->l[k]?=U q->∀ e∈q.after,aG .any e=aO->done (L.setIfInBounds i aO) e.on:=fun k q hk hq e he hb=>by
   by_cases e2:k=i
   ·subst e2;rw [hq] at ho;cases ho;exact du (lI e he hb)
   ·exact du (I.cl k q (dd e2 hk) hq e he hb)
  have no':∀ k,N<=k->¬ done (L.setIfInBounds i aO) k:=fun k hk h=>I.no k hk (dd (by omega) h);have seen:Rp i N A S d last V base o a x:=⟨fun j u hj hu=>dU (by rw [I.kp j hj]; exact hu),fun e he hb hA' hS' hl=>by
   obtain⟨h1,h2⟩:=hvs e.on (by have:=hon e he hb; omega) hS' (lI e he hb);rw [dU h1];refine h2 hA' ?_;rcases hl with hl|hl
   ·rw [hl]; exact hnd
   ·exact I.no _ hl⟩
  have Wz:i≠S->∀ v x',Below x.heap.size x x'->(i≠A->V i v x')->(i=A->∃ bb,v=J (U ⟨bb,0,ah⟩)/\W.heap.size<=bb/\dG x' bb zero t)->InX l N A S C d last V t zero Km base W (L.setIfInBounds i aO) (a.put (U (d i)) v) x':=by
   intro uJ v x' hb hpv hpa;have self:(a.put (U (d i)) v).tmps[d i]?=U v:=by
    have h5:d i<a.tmps.size:=by rw [I.sz]; exact hs i Pt
    simp [Act.put,h5]
   have keep:∀ k,k<N->k≠S->k≠i->(a.put (U (d i)) v).tmps[d k]?=a.tmps[d k]?:=fun k hk xV hki=>get_put _ _ _ _ (fun e=>hki (hinj _ _ hk Pt xV uJ e));refine⟨cl',no',I.df,by rw [size_put]; exact I.sz,fun j hj=>?_,I.qm.trans (hb.mono I.qm.size),⟨fun k=>if k=i then v else vs k,fun k hk xV hdn=>?_⟩,fun h1 h2=>?_,fun h1=>?_⟩
   ·rw [get_put _ _ _ _ (fun e=>hj i Pt e.symm)];exact I.kp j hj
   ·by_cases e:k=i
    ·subst e;simp only [if_true];exact⟨self,fun h3 _=>hpv h3⟩
    ·simp only [if_neg e];obtain⟨h3,h4⟩:=hvs k hk xV (dd e hdn);exact⟨by rw [keep k hk xV e]; exact h3,fun h5 h6=>hV k _ _ _ hk (h4 h5 (fun h=>h6 (du h))) hb⟩
   ·by_cases e:A=i
    ·subst e;obtain⟨bb,rfl,h4,h5⟩:=hpa rfl;exact⟨bb,self,h4,h5⟩
    ·obtain⟨bb,h3,h4,h5⟩:=I.box (dd e h1) (fun h=>h2 (du h));exact⟨bb,by rw [keep A hA hAS e]; exact h3,h4,h5.on hb⟩
   ·have h2:=dd (Ne.symm uJ) h1;obtain⟨bb,u,h5,h6,h7,h8,h9⟩:=I.fin h2;obtain⟨oS,Cy⟩:∃ oS,l[S]?=U oS:=⟨_,aP (by omega)⟩;obtain⟨⟨ea,k1,k2,k3⟩,ec,k4,k5,k6⟩:=hw oS Cy;have dA:=I.cl S oS h2 Cy ea k1 k2;have dC:=I.cl S oS h2 Cy ec k4 k5;rw [k3] at dA;rw [k6] at dC;have eA:A≠i:=fun e=>hnd (e ▸ dA);have eC:C≠i:=fun e=>hnd (e ▸ dC);exact⟨bb,u,by rw [keep A hA hAS eA]; exact h5,by rw [keep C hC hCS eC]; exact h6,h7,h8.on hb,hV C _ _ _ hC h9 hb⟩
  by_cases uJ:i=S
  ·subst uJ;obtain⟨⟨ea,h1,h2,h3⟩,ec,h4,h5,h6⟩:=hw o ho;have dA:=lI ea h1 h2;have dC:=lI ec h4 h5;rw [h3] at dA;rw [h6] at dC;obtain⟨v1,v2⟩:=hvs C hC hCS dC;obtain⟨bb,b1,b2,b3⟩:=I.box dA hnd;have vC:=v2 (Ne.symm hAC) (I.no _ Wy);refine ZY o ho a x bb (vs C) (done L) I.cl lI I.qm (dU b1) (dU v1) vC b2 b3 _ (fun x' q1 q2 q3=>⟨cl',no',I.df,I.sz,I.kp,q1,⟨vs,fun k hk xV hdn=>?_⟩,fun _ hn=>absurd ((fV vD _).2 (bF rfl)) hn,fun _=>⟨bb,vs C,b1,v1,b2,q2,?_⟩⟩)
   ·obtain⟨w1,w2⟩:=hvs k hk xV (dd xV hdn);refine⟨w1,fun hkA hnl=>?_⟩;have n1:last k≠i:=fun e=>hnl ((fV vD _).2 (bF e));have n2:¬ done L (last k):=fun e=>hnl (du e);exact q3 k _ hk hkA xV (dd xV hdn) n2 n1 (w2 hkA n2)
   ·exact q3 C _ hC (Ne.symm hAC) hCS dC (I.no _ Wy) (by omega) vC
  ·by_cases Rq:i=A
   ·subst Rq;refine hoA o ho a x _ (Wz uJ _ _ ((aj _ _).alloc (Nat.le_refl _) _) (fun h=>absurd rfl h) (fun _=>⟨x.heap.size,rfl,I.qm.size,dO x zero t⟩))
   ·refine hop i o Pt Rq uJ ho a x I.qm seen _ (fun v x' q1 q2=>Wz uJ v x' q2 (fun _=>q1) (fun e=>absurd e Rq))
 ·intro L a x I hd;have dS:=hd S (by omega);obtain⟨bb,v,h1,h2,h3,h4,h5⟩:=I.fin dS;obtain⟨vs,hvs⟩:=I.val;exact hend a x bb v I.df I.sz I.kp h1 h2 h3 h4 h5 I.qm ⟨vs,fun i hi uJ Rq=>by
   obtain⟨k1,k2⟩:=hvs i hi uJ (hd i (by omega));exact⟨k1,fun hl=>k2 Rq (I.no _ hl)⟩⟩
end Rg
end Go.Proofs.YtghlpefopidlaaaGreat
