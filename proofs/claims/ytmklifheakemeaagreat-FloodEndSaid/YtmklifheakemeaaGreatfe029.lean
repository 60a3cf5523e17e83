/-
  Right of package adv. Conditions as told.
-/
import Derived.Test.YtmklifheakemeaaGreatfe024
import Derived.Test.YtmklifheakemeaaGreatfe027
import Derived.Test.YtmklifheakemeaaGreatfe028
import Derived.Shelf.Abstract
set_option maxRecDepth 100000
set_option maxHeartbeats 64000000
open _root_.Bool renaming true->aG,false->aO,eq_false_iff->bS
open _root_.Go renaming World->aZ,Value->bG,Calls->bV,Addr->bX
open Go.Ending renaming returned->aC
open Go.IntKind renaming i64->ah
open Go.Lib renaming hid->U
open Go.Obj renaming cells->bf
open Go.Operand renaming tmp->aK
open Go.Proofs.Tryz renaming prog->aD,ntmps125->bW,func125->bZ,func124->cu,func119->cB
open Go.RowKit.Below renaming refl->aX
open Go.Value renaming slice->J,int->V,pointer->aj,bool->bg,agg->bY
open _root_.List renaming getElem?_eq_some_iff->O,getElem?_eq_getElem->au,takeWhile_cons->aF,mem_filter->aH,getElem?_map->aI,getElem?_cons_zero->aJ,mem_iff_getElem?->aL,getElem?_toArray->aM,length_cons->aN,dropWhile_cons->aP,mem_append->aQ,pairwise_cons->aR,getElem?_cons_succ->aT,takeWhile_append_dropWhile->aU,take_append_drop->aV,mem_cons->aY,pairwise_iff_getElem->bD,singleton_append->bH,mem_cons_of_mem->bI,filter_sublist->bK,all_takeWhile->bL,filter_append->bM,append_assoc->bP,all_eq_true->bU
open _root_.Nat renaming le_trans->aA,le_refl->aS,lt_of_lt_of_le->bn,lt_or_ge->bF,le_of_lt->bR
open _root_.Option renaming some->L,none->ay
open Option.some renaming inj->ak
open _root_.Or renaming inr->aB,inl->aW
namespace Go.Proofs.YtmklifheakemeaaGreat
namespace Av
open Go.RowKit Go.Sort Rw YtmklifheakemeaaGreat.Nm Pr Bk
abbrev Ab (a b:En):Int:=Rm (qz a.tree b.tree) (qz a.sub b.sub)
theorem uR (a b:En):Ab a b<0↔(eH a.tree b.tree=aG\/(a.tree=b.tree/\eH a.sub b.sub=aG)):=by
 unfold Ab Rm;by_cases h:qz a.tree b.tree=0
 ·rw [if_pos h,wK];have e:=(uJ _ _).1 h;constructor
  ·exact fun q=>aB ⟨e,q⟩
  ·rintro (q|⟨_,q⟩)
   ·rw [e,lD] at q; cases q
   ·exact q
 ·rw [if_neg h,wK];constructor
  ·exact aW
  ·rintro (q|⟨q,_⟩)
   ·exact q
   ·exact absurd ((uJ _ _).2 q) h
theorem Ls (x y z:En) (h1:Ab x y<0) (h2:Ab y z<0):Ab x z<0:=by
 rw [uR] at *;rcases h1 with h1|⟨e1,h1⟩ <;> rcases h2 with h2|⟨e2,h2⟩
 ·exact aW (iX h1 h2)
 ·exact aW (by rw [<- e2]; exact h1)
 ·exact aW (by rw [e1]; exact h2)
 ·exact aB ⟨e1.trans e2,iX h1 h2⟩
structure jc (b:Br):Prop where
 near:b.near.Pairwise (·<·)
 seen:TW b.seen
 dQ:tu b.dQ
 ent:b.ent.Pairwise fun x y=>Ab x y<0
 own:lF Ow.id b.own
 oks:∀ a∈b.dQ,a.id∈b.seen/\kW b.near a.par=aG/\Wr.jP a.p=aG
 Rn:∀ e∈b.ent,Bh b e=aG
 YV:∀ o∈b.own,Wr.jP o.p=aG
theorem kD {α:Type} (l:List α) (k:Nat) (x y:α):y∈gG l k x↔y=x\/y∈l:=by
 unfold gG;rw [aQ,aQ,List.mem_singleton]
 conv=>rhs; rw [<- aV k l,aQ]
 constructor
 ·rintro ((h|h)|h)
  ·exact aB (aW h)
  ·exact aW h
  ·exact aB (aB h)
 ·rintro (h|h|h)
  ·exact aW (aB h)
  ·exact aW (aW h)
  ·exact aB h
theorem I9 {α:Type} (key:α->fC):∀ (l:List α) (x:fC),∀ y∈l.take (gN key l x),eH (key y) x=aG
 | [],_,y,h=>by simp at h
 | a::l,x,y,h=>by
  unfold gN at h;by_cases ha:eH (key a) x=aG
  ·simp only [aF,ha,if_true,aN,List.take_succ_cons,aY] at h;rcases h with rfl|h
   ·exact ha
   ·exact I9 key l x y h
  ·simp [ha] at h
theorem xA {α:Type} {key:α->fC}:∀ {l:List α} (_:lF key l) (x:fC) (_:∀ y∈l,key y≠x),∀ y∈l.drop (gN key l x),eH x (key y)=aG
 | [],_,_,_,y,h=>by simp at h
 | a::l,hr,x,hn,y,h=>by
  unfold gN at h;have hr':=aR.1 hr;by_cases ha:eH (key a) x=aG
  ·simp only [aF,ha,if_true,aN,List.drop_succ_cons] at h;exact xA hr'.2 x (fun y hy=>hn y (bI _ hy)) y h
  ·simp [ha] at h;have hax:eH x (key a)=aG:=by
    rcases pY (key a) x with q|q|q
    ·exact absurd q ha
    ·exact absurd q (hn a (by simp))
    ·exact q
   rcases h with rfl|h
   ·exact hax
   ·exact iX hax (hr'.1 y h)
theorem kG {α:Type} {key:α->fC} {l:List α} (hr:lF key l) (x:α) (hn:∀ y∈l,key y≠key x):lF key (gG l (gN key l (key x)) x):=by
 unfold gG;have h1:lF key (l.take (gN key l (key x))):=hr.sublist (List.take_sublist _ _);have h2:lF key (l.drop (gN key l (key x))):=hr.sublist (List.drop_sublist _ _);have lo:=I9 key l (key x);have hi:=xA hr (key x) hn;unfold lF at *;rw [bP,List.pairwise_append];refine⟨h1,?_,fun a ha b hb=>?_⟩
 ·rw [bH,aR];exact⟨fun b hb=>hi b hb,h2⟩
 ·rw [bH,aY] at hb;rcases hb with rfl|hb
  ·exact lo a ha
  ·exact iX (lo a ha) (hi b hb)
theorem ny {l:List Ad} {x:fC} {a:Ad} (h:gD l x=L a):a∈l/\a.id=x:=by
 unfold gD at h;exact⟨List.mem_of_find?_eq_some h,by simpa using List.find?_some h⟩
theorem o7 {l:List Ad} (hr:tu l) {a:Ad} (ha:a∈l):gD l a.id=L a:=by
 obtain⟨k,hk⟩:=aL.1 ha;refine sU hk rfl fun j z hj hz e=>?_;have:=nH hr hj hz hk;rw [e,lD] at this;cases this
theorem Ja {l m:List Ad} (hl:tu l) (hm:tu m) {x:fC} (h:∀ a,a.id=x->(a∈l↔a∈m)):gD l x=gD m x:=by
 cases h1:gD l x with
 | none =>
  cases h2:gD m x with
  | none=>rfl
  | some a =>
   obtain⟨q1,q2⟩:=ny h2;have:=o7 hl ((h a q2).2 q1);rw [q2,h1] at this;cases this
 | some a =>
  obtain⟨q1,q2⟩:=ny h1;have:=o7 hm ((h a q2).1 q1);rw [q2] at this;exact this.symm
theorem uS {b c:Br} {e:En} (hn:c.near=b.near) (hf:gD c.dQ e.tree=gD b.dQ e.tree) (h:Bh b e=aG):Bh c e=aG:=by
 unfold Bh at *;rw [hf,hn];exact h
theorem Bu {b:Br} (h:jc b) (a:Ad) (hp:kW b.near a.par=aG) (hq:Wr.jP a.p=aG):jc (eX b a).1:=by
 by_cases hin:a.id∈b.seen
 ·rw [uO hin]; exact h
 ·rw [vZ hin];have hna:∀ y∈b.dQ,y.id≠a.id:=fun y hy e=>hin (by rw [<- e]; exact (h.oks y hy).1);have hns:∀ y∈b.seen,y≠a.id:=fun y hy e=>hin (by rw [<- e]; exact hy);have ra:tu (gG b.dQ (fT (b.dQ.map Ad.id) a.id) a):=by
   rw [<- jg];exact kG h.dQ a hna
  have rs:TW (gG b.seen (fT b.seen a.id) a.id):=by
   have:=kG (key:=fun x:fC=>x) h.seen a.id hns;rw [jg,List.map_id'] at this;exact this
  refine⟨h.near,rs,ra,h.ent,h.own,fun y hy=>?_,fun e he=>?_,h.YV⟩
  ·rcases (kD _ _ _ _).1 hy with rfl|hy
   ·exact⟨(kD _ _ _ _).2 (aW rfl),hp,hq⟩
   ·exact⟨(kD _ _ _ _).2 (aB (h.oks y hy).1),(h.oks y hy).2⟩
  ·refine uS (b:=b) rfl (Ja ra h.dQ fun y hy=>?_) (h.Rn e he);rw [kD];refine⟨fun q=>q.resolve_left fun e2=>?_,aB⟩;have hk:=h.Rn e he;unfold Bh at hk;cases hf:gD b.dQ e.tree with
   | none=>rw [hf] at hk; cases hk
   | some z =>
    obtain⟨z1,z2⟩:=ny hf;exact hna z z1 (by rw [z2,<- hy,e2])
theorem El {b:Br} (h:jc b) (x:fC) (f:Int):jc (gL b x f).1:=by
 unfold gL;cases gD b.dQ x with
 | none=>exact h
 | some a =>
  simp only
  split
  ·have ra:tu (b.dQ.filter fun e=>decide (e.id≠x)):=h.dQ.sublist bK;refine⟨h.near,h.seen,ra,h.ent.sublist bK,h.own,fun y hy=>h.oks y ((aH.1 hy).1),fun e he=>?_,h.YV⟩;have ht:e.tree≠x:=of_decide_eq_true (aH.1 he).2;refine uS (b:=b) rfl (Ja ra h.dQ fun y hy=>?_) (h.Rn e (aH.1 he).1);rw [aH];exact⟨fun q=>q.1,fun q=>⟨q,decide_eq_true (by rw [hy]; exact ht)⟩⟩
  ·exact h
theorem QD {α:Type} (l:List α) (k:Nat) (x:α):(gG l k x).length=l.length+1:=by
 unfold gG;simp only [List.length_append,aN,List.length_nil,List.length_take,List.length_drop];omega
theorem yD.pa {b:Br} (h:yD b):∀ p,(∃ x∈b.dQ,x.p=p)\/(∃ x∈b.ent,x.p=p)\/(∃ x∈b.own,x.p=p)->p.length<=1000000:=by
 rintro p (⟨x,hx,rfl⟩|⟨x,hx,rfl⟩|⟨x,hx,rfl⟩)
 ·exact aA (h.dQ x hx) (by decide)
 ·exact aA (h.ent x hx) (by decide)
 ·exact aA (h.own x hx) (by decide)
theorem Em (b:Br):Bq b b=aG:=(Bt b b).2 rfl
theorem Ac {α β:Type} {E:Ek α} {F:Ek β} {W W':aZ} {B B':Nat} {v u:bG} {l:List β} {m:List α} (ho:Own F W B v l) (gr:W.grownBy W' v.ownBlock) (h:Own E W B' u m) (hne:(E.t == F.t)=aO):Own E W' B' u m:=by
 rcases gM ho with⟨h1,_⟩|⟨g,c,cur,h1,_,h2,_⟩
 ·rw [h1] at gr;exact Bk.dI h ((aX _ _).grown gr (aS _) (fun j hj=>by cases hj))
 ·rw [h1] at gr;exact (yM (b:=g) gr).own h h2 hne
theorem Gj {β:Type} {F:Ek β} {W W':aZ} {B k:Nat} {v:bG} {l:List β} {cs:Array bG} {t:TypeId} (ho:Own F W B v l) (gr:W.grownBy W' v.ownBlock) (h:dK W k cs t) (hne:(t == F.t)=aO):dK W' k cs t:=by
 rcases gM ho with⟨h1,_⟩|⟨g,c,cur,h1,_,h2,_⟩
 ·rw [h1] at gr;exact h.on ((aX _ _).grown gr (aS _) (fun j hj=>by cases hj))
 ·rw [h1] at gr;exact (yM (b:=g) gr).box h (qy h h2 hne)
end Av
namespace Bk
open Go.RowKit Go.Sort Rw YtmklifheakemeaaGreat.Nm Pr
def oV (W:Nat) (bv:bG) (c d c2 d2:Int) (av:bG) (ki:Nat) (p:bX) (iD:Int) (po:Option bX) (pn pc:Nat) (fr:Int) (up:Bool) (b3 b5:Nat) (i:Nat) (v:bG) (x:aZ):Prop :=
 match i with
 | 0=>v=bv
 | 1=>v=aj (L ⟨b3,2,ay⟩)
 | 2=>v=av
 | 3=>v=bv
 | 4=>v=aj (L ⟨b5,1,ay⟩)
 | 5=>v=mM (c,d)
 | 6=>v=V ah (ki:Int)
 | 7=>v=aj (L p)
 | 8=>v=aj (L ⟨p.block,p.off+3,ay⟩)
 | 9=>v=V ah iD
 | 10=>v=pF (c,d,c2,d2,(po,pn,pc),fr,up)
 | 11=>v=bY #[V ah 3,V ah c,V ah d,V ah c2,V ah d2,J po pn pc,J ay 0 0]
 | 12=>v=wM (iD,3,c,d,c2,d2,(po,pn,pc),(ay,0,0))
 | 13=>jI x W v [(iD,3,c,d,c2,d2,(po,pn,pc),(ay,0,0))]
 | 15=>jI x W v [(iD,3,c,d,c2,d2,(po,pn,pc),(ay,0,0))]
 | _=>True
def oF (W:aZ) (b6:Nat) (bc:Array bG) (D:Nat->Prop) (x:aZ):Prop :=
 (∀ j,j<W.heap.size->j≠b6->x.heap[j]?=W.heap[j]?)/\(∀ B,B<=b6->Below B W x)/\(¬ D 14->Below W.heap.size W x)/\(D 14->dK x b6 bc 28)/\W.heap.size<=x.heap.size
noncomputable def aal:Code:=((Tryz.f101.body.bind (eO 5)).getD .skip)
theorem acZ (Q:Exit->Act->aZ->Prop) (W:aZ) (b3 b5 b6 b8:Nat) (me mk c d c2 d2 fr iD:Int) (up:Bool) (o1 o2 o3 o4 o5:Option bX) (n1 k1 n2 k2 n3 k3 n4 k4 n5 k5:Nat) (po qo:Option bX) (pn pc qn qc:Nat) (ad:List jD) (ki:Nat) (p:bX) (z0 z1 z2 z3 z4 z5:bG) (u0 u1 u2 u4 u7 u9 u10 u11 u12 u13 u14 u15 u16 u17 u18 u19 u20 u21 u22 u23 u24 u25 u26 u27 u28 u29 u30 u31 u32 u33 u34 u35 u36 u37 u38 u39 u40:bG)
  (h3:dK W b3 #[V ah me,J o1 n1 k1,J o2 n2 k2,J o3 n3 k3,J o4 n4 k4,J o5 n5 k5] 28) (h5:dK W b5 #[V ah mk,V ah c,V ah d,V ah c2,V ah d2,J po pn pc,J qo qn qc] 41) (h6:dK W b6 #[z0,z1,z2,z3,z4,z5] 28) (h8:dK W b8 #[V ah c,V ah d,V ah c2,V ah d2,J po pn pc,V ah fr,bg up] 66) (n3_:b3≠b6) (n5_:b5≠b6) (n8_:b8≠b6) (hd:wG W (J o2 n2 k2) ad) (fk:fJ (ad.map fun y=>(y.1,y.2.1)) (c,d)=ki) (ix:∀ w,(Instr.indexAt 23 (J o2 n2 k2) (V ah (ki:Int))).run aD w=.ok (aj (L p)) w) (px:W.cell? ⟨p.block,p.off+3,ay⟩=L (V ah iD)) (pl:p.block<W.heap.size) (pn_:p.block≠b6)
  (hQ:∀ (a:Act) (x:aZ) (sl:Sl),a.defers=[]->a.tmps[6]?=L (aj (L ⟨b6,0,ay⟩))->a.tmps[7]?=L (dU sl)->dK x b6 #[V ah me,J o1 n1 k1,J o2 n2 k2,J o3 n3 k3,J o4 n4 k4,J o5 n5 k5] 28->jI x W.heap.size (dU sl) [(iD,3,c,d,c2,d2,(po,pn,pc),(ay,0,0))]->(∀ k,k<W.heap.size->k≠b6->x.heap[k]?=W.heap[k]?)->(∀ B,B<=b6->Below B W x)->Q .normal a x) :
  Code.wp aD aal Q ⟨(u0::u1::u2::aj (L ⟨b3,0,ay⟩)::u4::aj (L ⟨b5,0,ay⟩)::aj (L ⟨b6,0,ay⟩)::u7::aj (L ⟨b8,0,ay⟩)::u9::u10::u11::u12::u13::u14::u15::u16::u17::u18::u19::u20::u21::u22::u23::u24::u25::u26::u27::u28::u29::u30::u31::u32::u33::u34::u35::u36::u37::u38::u39::u40::[]).toArray,[]⟩ W:=by
 have HQ:=U hQ;have H3:=U h3;have H5:=U h5;have H6:=U h6;have H8:=U h8;have N3:=U n3_;have N5:=U n5_;have N8:=U n8_;have HD:=U hd;have FK:=U fk;have IX:=U ix;have PX:=U px;have PL:=U pl;have PN:=U pn_;clear hQ h3 h5 h6 h8 n3_ n5_ n8_ hd fk ix px pl pn_;unfold aal
 conv=>arg 2; whnf
 have nd:∀ j,(∀ i,i<16->[L 27,L 28,L 29,L 30,L 31,L 32,L 33,L 34,L 35,L 36,L 37,L 38,L 39,L 40,ay,L 7].getD i ay≠L j)->∀ i,i<16->(fun i=>[L 27,L 28,L 29,L 30,L 31,L 32,L 33,L 34,L 35,L 36,L 37,L 38,L 39,L 40,ay,L 7].getD i ay) i≠L j:=fun j h=>h;refine Rg.p9 16 (fun i=>[L 27,L 28,L 29,L 30,L 31,L 32,L 33,L 34,L 35,L 36,L 37,L 38,L 39,L 40,ay,L 7].getD i ay) (fun _=>16) (oV W.heap.size (bY #[V ah me,J o1 n1 k1,J o2 n2 k2,J o3 n3 k3,J o4 n4 k4,J o5 n5 k5]) c d c2 d2 (J o2 n2 k2) ki p iD po pn pc fr up b3 b5) (oF W b6 #[V ah me,J o1 n1 k1,J o2 n2 k2,J o3 n3 k3,J o4 n4 k4,J o5 n5 k5]) (by kernel_rfl) (by kernel_rfl) rfl (fun i j e hi hj h1 h2=>(by decide:∀ i,i<16->∀ j,j<16->([L 27,L 28,L 29,L 30,L 31,L 32,L 33,L 34,L 35,L 36,L 37,L 38,L 39,L 40,ay,L 7].getD i ay).isSome=aG->[L 27,L 28,L 29,L 30,L 31,L 32,L 33,L 34,L 35,L 36,L 37,L 38,L 39,L 40,ay,L 7].getD i ay=[L 27,L 28,L 29,L 30,L 31,L 32,L 33,L 34,L 35,L 36,L 37,L 38,L 39,L 40,ay,L 7].getD j ay->i=j) i hi j hj (by have h1:[L 27,L 28,L 29,L 30,L 31,L 32,L 33,L 34,L 35,L 36,L 37,L 38,L 39,L 40,ay,L 7].getD i ay=L e:=h1; rw [h1]; rfl) (h1.trans h2.symm)) (fun i e hi h=>(by decide:∀ i,i<16->∀ q∈[L 27,L 28,L 29,L 30,L 31,L 32,L 33,L 34,L 35,L 36,L 37,L 38,L 39,L 40,ay,L 7].getD i ay,q<41) i hi e h) ⟨fun _ _ _=>rfl,fun _ _=>(aX _ _).drew,fun _=>(aX _ _).drew,False.elim,aS _⟩ ?_ ?_
 ·intro i o hi ho a x D hnd hc hD hF seen K hK;clear HQ;have still:∀ i,i≠14->oF W b6 #[V ah me,J o1 n1 k1,J o2 n2 k2,J o3 n3 k3,J o4 n4 k4,J o5 n5 k5] (fun j=>j=i\/D j) x:=fun i h9=>⟨hF.1,hF.2.1,fun h=>hF.2.2.1 fun h2=>h (aB h2),fun h=>hF.2.2.2.1 (h.resolve_left (Ne.symm h9)),hF.2.2.2.2⟩;rcases (by omega:i=0\/i=1\/i=2\/i=3\/i=4\/i=5\/i=6\/i=7\/i=8\/i=9\/i=10\/i=11\/i=12\/i=13\/i=14\/i=15) with rfl|rfl|rfl|rfl|rfl|rfl|rfl|rfl|rfl|rfl|rfl|rfl|rfl|rfl|rfl|rfl
  ·cases ho;have e3:a.eval (aK 3)=aj (L ⟨b3,0,ay⟩):=seen.kp 3 _ (nd 3 (by decide)) rfl;have Un:=show dK x _ _ _ from (hF.1 _ H3.out.lt N3.out).trans H3.out;exact Rg.dD rfl rfl (Rg.dX a.eval _ 28 (aK 3) rfl (by rw [e3]; exact yx Un)) (hK _ _ rfl (still 0 (by decide)) fun _ _ _ _ _ _ _ h=>h)
  ·cases ho;have e3:a.eval (aK 3)=aj (L ⟨b3,0,ay⟩):=seen.kp 3 _ (nd 3 (by decide)) rfl;exact Rg.dD rfl rfl (Rg.dR a.eval _ 28 (aK 3) 2 rfl (by rw [e3]; simp [go_sem])) (hK _ _ rfl (still 1 (by decide)) fun _ _ _ _ _ _ _ h=>h)
  ·cases ho;have e28:a.eval (aK 28)=aj (L ⟨b3,2,ay⟩):=seen.at_ ⟨1,.data⟩ (by simp) rfl (aB (by decide)) _ rfl;have Un:=show dK x _ _ _ from (hF.1 _ H3.out.lt N3.out).trans H3.out;have y:=Un.cell 2;simp only [aM,aJ,aT] at y;exact Rg.dD rfl rfl (Rg.dX a.eval _ 23 (aK 28) rfl (by rw [e28]; simp [go_sem,y])) (hK _ _ rfl (still 2 (by decide)) fun _ _ _ _ _ _ _ h=>h)
  ·cases ho;have e3:a.eval (aK 3)=aj (L ⟨b3,0,ay⟩):=seen.kp 3 _ (nd 3 (by decide)) rfl;have Un:=show dK x _ _ _ from (hF.1 _ H3.out.lt N3.out).trans H3.out;exact Rg.dD rfl rfl (Rg.dX a.eval _ 28 (aK 3) rfl (by rw [e3]; exact yx Un)) (hK _ _ rfl (still 3 (by decide)) fun _ _ _ _ _ _ _ h=>h)
  ·cases ho;have e5:a.eval (aK 5)=aj (L ⟨b5,0,ay⟩):=seen.kp 5 _ (nd 5 (by decide)) rfl;exact Rg.dD rfl rfl (Rg.dR a.eval _ 41 (aK 5) 1 rfl (by rw [e5]; simp [go_sem])) (hK _ _ rfl (still 4 (by decide)) fun _ _ _ _ _ _ _ h=>h)
  ·cases ho;have e31:a.eval (aK 31)=aj (L ⟨b5,1,ay⟩):=seen.at_ ⟨4,.data⟩ (by simp) rfl (aB (by decide)) _ rfl;have aeR:=show dK x _ _ _ from (hF.1 _ H5.out.lt N5.out).trans H5.out;have y1:=aeR.cell 1;have y2:=aeR.cell 2;simp only [aM,aJ,aT] at y1 y2;exact Rg.dD rfl rfl (Rg.dX a.eval _ 31 (aK 31) rfl (by rw [e31]; simp [go_sem,y1,y2])) (hK _ _ rfl (still 5 (by decide)) fun _ _ _ _ _ _ _ h=>h)
  ·cases ho;have e30:a.eval (aK 30)=bY #[V ah me,J o1 n1 k1,J o2 n2 k2,J o3 n3 k3,J o4 n4 k4,J o5 n5 k5]:=seen.at_ ⟨3,.data⟩ (by simp) rfl (aB (by decide)) _ rfl;have e32:a.eval (aK 32)=mM (c,d):=seen.at_ ⟨5,.data⟩ (by simp) rfl (aB (by decide)) _ rfl;have nS:¬ D 14:=fun h=>hnd (hc 11 _ (hc 14 _ h rfl ⟨11,.chain⟩ (by simp) rfl) rfl ⟨6,.chain⟩ (by simp) rfl);have hb:=hF.2.2.1 nS;have n13:¬ D 13:=fun h=>hnd (hc 11 _ (hc 12 _ (hc 13 _ h rfl ⟨12,.data⟩ (by simp) rfl) rfl ⟨11,.data⟩ (by simp) rfl) rfl ⟨6,.chain⟩ (by simp) rfl);exact Rg.gU rfl rfl (sM a.eval _ (aK 30) (aK 32) 28 31 104 rfl e30 e32 rfl _ (gF Tryz.func104 rfl rfl _ _)) (uG me _ _ _ _ (o2,n2,k2) ad (c,d) x (HD.out.on hb)) fun e w1 h=>by
    obtain⟨rfl,h3⟩:=h;refine⟨_,rfl,hK _ _ (by rw [FK.out]; rfl) ⟨fun j hj hne=>(h3.block j (bn hj hb.size)).trans (hF.1 j hj hne),fun B hB=>(hF.2.1 B hB).trans (h3.mono (aA (aA hB (bR H6.out.lt)) hb.size)),fun _=>hb.trans (h3.mono hb.size),fun h=>absurd (h.resolve_left (by decide)) nS,aA hb.size h3.size⟩ fun j u hj dj _ _ _ h=>?_⟩;rcases (by omega:j=0\/j=1\/j=2\/j=3\/j=4\/j=5\/j=6\/j=7\/j=8\/j=9\/j=10\/j=11\/j=12\/j=13\/j=14\/j=15) with rfl|rfl|rfl|rfl|rfl|rfl|rfl|rfl|rfl|rfl|rfl|rfl|rfl|rfl|rfl|rfl
    ·exact h
    ·exact h
    ·exact h
    ·exact h
    ·exact h
    ·exact h
    ·exact h
    ·exact h
    ·exact h
    ·exact h
    ·exact h
    ·exact h
    ·exact h
    ·exact absurd dj n13
    ·exact h
    ·exact absurd (hc 15 _ dj rfl ⟨13,.data⟩ (by simp) rfl) n13
  ·cases ho;have e29:a.eval (aK 29)=J o2 n2 k2:=seen.at_ ⟨2,.data⟩ (by simp) rfl (aB (by decide)) _ rfl;have e33:a.eval (aK 33)=V ah (ki:Int):=seen.at_ ⟨6,.data⟩ (by simp) rfl (aB (by decide)) _ rfl;exact Rg.dD rfl rfl (Rg.oJ a.eval _ 23 (aK 29) (aK 33) rfl (by rw [e29,e33]; exact IX.out x)) (hK _ _ rfl (still 7 (by decide)) fun _ _ _ _ _ _ _ h=>h)
  ·cases ho;have e34:a.eval (aK 34)=aj (L p):=seen.at_ ⟨7,.data⟩ (by simp) rfl (aB (by decide)) _ rfl;exact Rg.dD rfl rfl (Rg.dR a.eval _ 74 (aK 34) 2 rfl (by rw [e34]; simp [go_sem])) (hK _ _ rfl (still 8 (by decide)) fun _ _ _ _ _ _ _ h=>h)
  ·cases ho;have e35:a.eval (aK 35)=aj (L ⟨p.block,p.off+3,ay⟩):=seen.at_ ⟨8,.data⟩ (by simp) rfl (aB (by decide)) _ rfl;have y:x.cell? ⟨p.block,p.off+3,ay⟩=L (V ah iD):=by
    have h:=PX.out;unfold World.cell? at h ⊢;rw [hF.1 _ PL.out PN.out];exact h
   exact Rg.dD rfl rfl (Rg.dX a.eval _ 3 (aK 35) rfl (by rw [e35]; simp [go_sem,y])) (hK _ _ rfl (still 9 (by decide)) fun _ _ _ _ _ _ _ h=>h)
  ·cases ho;have e8:a.eval (aK 8)=aj (L ⟨b8,0,ay⟩):=seen.kp 8 _ (nd 8 (by decide)) rfl;have ag5:=show dK x _ _ _ from (hF.1 _ H8.out.lt N8.out).trans H8.out;obtain⟨y0,y1,y2,y3,y4,y5,y6⟩:=ag5.mI;exact Rg.dD rfl rfl (Rg.dX a.eval _ 66 (aK 8) rfl (by rw [e8]; simp [go_sem,y0,y1,y2,y3,y4,y5,y6])) (hK _ _ rfl (still 10 (by decide)) fun _ _ _ _ _ _ _ h=>h)
  ·cases ho;have e37:a.eval (aK 37)=pF (c,d,c2,d2,(po,pn,pc),fr,up):=seen.at_ ⟨10,.data⟩ (by simp) rfl (aB (by decide)) _ rfl;have nS:¬ D 14:=fun h=>hnd (hc 14 _ h rfl ⟨11,.chain⟩ (by simp) rfl);have hb:=hF.2.2.1 nS;have n13:¬ D 13:=fun h=>hnd (hc 12 _ (hc 13 _ h rfl ⟨12,.data⟩ (by simp) rfl) rfl ⟨11,.data⟩ (by simp) rfl);exact Rg.gU rfl rfl (iG a.eval _ (aK 37) 66 48 rfl e37 rfl _ (gF Tryz.func48 rfl rfl _ _)) (z8 (c,d,c2,d2,(po,pn,pc),fr,up) x) fun e w1 h=>by
    obtain⟨rfl,h3⟩:=h;refine⟨_,rfl,hK _ _ rfl ⟨fun j hj hne=>(h3.block j (bn hj hb.size)).trans (hF.1 j hj hne),fun B hB=>(hF.2.1 B hB).trans (h3.mono (aA (aA hB (bR H6.out.lt)) hb.size)),fun _=>hb.trans (h3.mono hb.size),fun h=>absurd (h.resolve_left (by decide)) nS,aA hb.size h3.size⟩ fun j u hj dj _ _ _ h=>?_⟩;rcases (by omega:j=0\/j=1\/j=2\/j=3\/j=4\/j=5\/j=6\/j=7\/j=8\/j=9\/j=10\/j=11\/j=12\/j=13\/j=14\/j=15) with rfl|rfl|rfl|rfl|rfl|rfl|rfl|rfl|rfl|rfl|rfl|rfl|rfl|rfl|rfl|rfl
    ·exact h
    ·exact h
    ·exact h
    ·exact h
    ·exact h
    ·exact h
    ·exact h
    ·exact h
    ·exact h
    ·exact h
    ·exact h
    ·exact h
    ·exact h
    ·exact absurd dj n13
    ·exact h
    ·exact absurd (hc 15 _ dj rfl ⟨13,.data⟩ (by simp) rfl) n13
  ·cases ho;have e36:a.eval (aK 36)=V ah iD:=seen.at_ ⟨9,.data⟩ (by simp) rfl (aB (by decide)) _ rfl;have e38:a.eval (aK 38)=bY #[V ah 3,V ah c,V ah d,V ah c2,V ah d2,J po pn pc,J ay 0 0]:=seen.at_ ⟨11,.data⟩ (by simp) rfl (aB (by decide)) _ rfl;exact Rg.dD rfl rfl (Rg.jM a.eval _ 43 #[(0,aK 36),(1,aK 38)] rfl (ps:=#[(0,V ah iD),(1,bY #[V ah 3,V ah c,V ah d,V ah c2,V ah d2,J po pn pc,J ay 0 0])]) (by simp only [List.map_toArray,List.map_cons,List.map_nil,e36,e38]) (by simp [go_sem])) (hK _ _ rfl (still 12 (by decide)) fun _ _ _ _ _ _ _ h=>h)
  ·cases ho;have e39:a.eval (aK 39)=wM (iD,3,c,d,c2,d2,(po,pn,pc),(ay,0,0)):=seen.at_ ⟨12,.data⟩ (by simp) rfl (aB (by decide)) _ rfl;have n15:¬ D 15:=fun h=>hnd (hc 15 _ h rfl ⟨13,.data⟩ (by simp) rfl);have hl:=iF D7 x [((iD,3,c,d,c2,d2,(po,pn,pc),(ay,0,0)):mO)] 1 rfl (by simp) (kV (iD,3,c,d,c2,d2,(po,pn,pc),(ay,0,0))).toArray (by simp [flat,EU]);have nb:=fM x (bf (kV (iD,3,c,d,c2,d2,(po,pn,pc),(ay,0,0))).toArray 43);have sz:=hF.2.2.2.2;have ff:oF W b6 #[V ah me,J o1 n1 k1,J o2 n2 k2,J o3 n3 k3,J o4 n4 k4,J o5 n5 k5] (fun j=>j=13\/D j) (x.alloc (bf (kV (iD,3,c,d,c2,d2,(po,pn,pc),(ay,0,0))).toArray 43)):=⟨fun j hj hne=>(nb.block j (bn hj sz)).trans (hF.1 j hj hne),fun B hB=>(hF.2.1 B hB).trans (nb.mono (aA (aA hB (bR H6.out.lt)) sz)),fun h=>(hF.2.2.1 fun q=>h (aB q)).trans (nb.mono sz),fun h=>(hF.2.2.2.1 (h.resolve_left (by decide))).on nb,aA sz nb.size⟩;have st:∀ j u,j<16->D j->j≠13->oV W.heap.size (bY #[V ah me,J o1 n1 k1,J o2 n2 k2,J o3 n3 k3,J o4 n4 k4,J o5 n5 k5]) c d c2 d2 (J o2 n2 k2) ki p iD po pn pc fr up b3 b5 j u x->oV W.heap.size (bY #[V ah me,J o1 n1 k1,J o2 n2 k2,J o3 n3 k3,J o4 n4 k4,J o5 n5 k5]) c d c2 d2 (J o2 n2 k2) ki p iD po pn pc fr up b3 b5 j u (x.alloc (bf (kV (iD,3,c,d,c2,d2,(po,pn,pc),(ay,0,0))).toArray 43)):=fun j u hj dj ni h=>by
    rcases (by omega:j=0\/j=1\/j=2\/j=3\/j=4\/j=5\/j=6\/j=7\/j=8\/j=9\/j=10\/j=11\/j=12\/j=13\/j=14\/j=15) with rfl|rfl|rfl|rfl|rfl|rfl|rfl|rfl|rfl|rfl|rfl|rfl|rfl|rfl|rfl|rfl
    ·exact h
    ·exact h
    ·exact h
    ·exact h
    ·exact h
    ·exact h
    ·exact h
    ·exact h
    ·exact h
    ·exact h
    ·exact h
    ·exact h
    ·exact h
    ·exact absurd rfl ni
    ·exact h
    ·exact absurd dj n15
   have q:=hK (J (L ⟨x.heap.size,0,ay⟩) 1 1) (x.alloc (bf (kV (iD,3,c,d,c2,d2,(po,pn,pc),(ay,0,0))).toArray 43)) (dO hl sz) ff fun j u hj dj _ _ ni h=>st j u hj dj ni h;exact Rg.dD rfl rfl (Rg.iU a.eval _ 35 1 #[(0,aK 39)] rfl (ps:=#[(0,wM (iD,3,c,d,c2,d2,(po,pn,pc),(ay,0,0)))]) (by simp [e39]) (by simp [go_sem])) q
  ·cases ho;have e27:a.eval (aK 27)=bY #[V ah me,J o1 n1 k1,J o2 n2 k2,J o3 n3 k3,J o4 n4 k4,J o5 n5 k5]:=seen.at_ ⟨0,.data⟩ (by simp) rfl (aB (by decide)) _ rfl;have e6:a.eval (aK 6)=aj (L ⟨b6,0,ay⟩):=seen.kp 6 _ (nd 6 (by decide)) rfl;have hb:=hF.2.2.1 hnd;have H6x:=H6.out.on hb;have s4:=dL x b6 (V ah me) (J o1 n1 k1) (J o2 n2 k2) (J o3 n3 k3) (J o4 n4 k4) (J o5 n5 k5);have hx:=dM H6x (V ah me) (J o1 n1 k1) (J o2 n2 k2) (J o3 n3 k3) (J o4 n4 k4) (J o5 n5 k5);have hs:=p8 H6x me o1 o2 o3 o4 o5 n1 k1 n2 k2 n3 k3 n4 k4 n5 k5;have hy:∀ B,B<=b6->Below B W (gH x b6 (V ah me) (J o1 n1 k1) (J o2 n2 k2) (J o3 n3 k3) (J o4 n4 k4) (J o5 n5 k5)):=fun B hB=>dG (hF.2.1 B hB) hB _ _ _ _ _ _;have so:∀ v l,jI x W.heap.size v l->jI (gH x b6 (V ah me) (J o1 n1 k1) (J o2 n2 k2) (J o3 n3 k3) (J o4 n4 k4) (J o5 n5 k5)) W.heap.size v l:=fun v l h=>fO h b6 H6.out.lt _ _ _ _ _ _;have sz:x.heap.size<=(gH x b6 (V ah me) (J o1 n1 k1) (J o2 n2 k2) (J o3 n3 k3) (J o4 n4 k4) (J o5 n5 k5)).heap.size:=by simp [gH]
   generalize gH x b6 (V ah me) (J o1 n1 k1) (J o2 n2 k2) (J o3 n3 k3) (J o4 n4 k4) (J o5 n5 k5)=x2 at *;have n15:¬ D 15:=fun h=>hnd (hc 15 _ h rfl ⟨14,.chain⟩ (by simp) rfl);have ff:oF W b6 #[V ah me,J o1 n1 k1,J o2 n2 k2,J o3 n3 k3,J o4 n4 k4,J o5 n5 k5] (fun j=>j=14\/D j) x2:=⟨fun j hj hne=>(s4 j hne).trans (hF.1 j hj hne),hy,fun h=>absurd (aW rfl) h,fun _=>hx,aA hF.2.2.2.2 sz⟩;have st:∀ j u,j<16->D j->oV W.heap.size (bY #[V ah me,J o1 n1 k1,J o2 n2 k2,J o3 n3 k3,J o4 n4 k4,J o5 n5 k5]) c d c2 d2 (J o2 n2 k2) ki p iD po pn pc fr up b3 b5 j u x->oV W.heap.size (bY #[V ah me,J o1 n1 k1,J o2 n2 k2,J o3 n3 k3,J o4 n4 k4,J o5 n5 k5]) c d c2 d2 (J o2 n2 k2) ki p iD po pn pc fr up b3 b5 j u x2:=fun j u hj dj h=>by
    rcases (by omega:j=0\/j=1\/j=2\/j=3\/j=4\/j=5\/j=6\/j=7\/j=8\/j=9\/j=10\/j=11\/j=12\/j=13\/j=14\/j=15) with rfl|rfl|rfl|rfl|rfl|rfl|rfl|rfl|rfl|rfl|rfl|rfl|rfl|rfl|rfl|rfl
    ·exact h
    ·exact h
    ·exact h
    ·exact h
    ·exact h
    ·exact h
    ·exact h
    ·exact h
    ·exact h
    ·exact h
    ·exact h
    ·exact h
    ·exact h
    ·exact so _ _ h
    ·exact h
    ·exact absurd dj n15
   have q:=hK (bg aG) x2 trivial ff fun j u hj dj _ _ _ h=>st j u hj dj h;have q2:K a x2:=q;exact Rg.fP 28 (aK 6) (aK 27) rfl rfl rfl rfl e6 e27 hs q2
  ·cases ho;have o40:jI x W.heap.size (a.eval (aK 40)) [(iD,3,c,d,c2,d2,(po,pn,pc),(ay,0,0))]:=seen.at_ ⟨13,.data⟩ (by simp) rfl (aB (by decide)) _ rfl;exact Rg.dD rfl rfl (Rg.kM a.eval _ (aK 40) rfl x) (hK _ _ o40 (still 15 (by decide)) fun _ _ _ _ _ _ _ h=>h)
 ·intro a x df sz kp ⟨vs,hv⟩ ⟨D,hall,hF⟩;have h2:jI x W.heap.size (vs 15) [(iD,3,c,d,c2,d2,(po,pn,pc),(ay,0,0))]:=(hv 15 (by omega)).2 (by decide);have g9:a.tmps[7]?=L (vs 15):=(hv 15 (by omega)).1 7 rfl;obtain⟨sa,sc,hs⟩:=(Row.dH h2).len;rw [hs] at h2 g9;exact HQ.out a x (sa,_,sc) df ((kp 6 (nd 6 (by decide))).trans rfl) g9 (hF.2.2.2.1 (hall 14 (by omega))) h2 hF.1 hF.2.1
end Bk
namespace Sb
open Go.RowKit Go.Sort Rw YtmklifheakemeaaGreat.Nm Pr Bk Av
abbrev mQ (m:List En):Prop:=m.Pairwise fun x y=>Ab x y<0
def jY (m:List En) (t:fC):Nat:=(m.takeWhile fun e=>eH e.tree t).length
def wC (m:List En) (t:fC):List En:=(m.drop (jY m t)).takeWhile fun e=>decide (e.tree=t)
def Uo (r:List En) (p:List C5):Bool:=r.any fun e=>e.up && nD e.p p
theorem Bv:∀ (l:List fC) (x:fC),fJ l x=iA l x
 | [],_=>rfl
 | a::l,x=>by rw [fJ,iA,Bv l x]
theorem nA (x y:En):jB (fB x) (fB y)=aG↔Ab x y<0:=by
 rw [uR];unfold jB;simp [oh]
theorem qW (x:fC×fC):jB x x=aO:=by simp [jB,lD]
def lg (m:List En) (t s:fC):Bool:=match m[eT (m.map fB) (t,s)]? with
 | none=>aO
 | some e=>decide (fB e=(t,s))
theorem qX:∀ (l:List (fC×fC)) (x:fC×fC) (j:Nat) (y:fC×fC),j<eT l x->l[j]?=L y->jB y x=aG
 | [],_,_,_,_,h=>by simp at h
 | a::l,x,j,y,hj,h=>by
  unfold eT at hj;by_cases ha:jB a x=aG
  ·rw [aF,if_pos ha,aN] at hj;cases j with
   | zero=>rw [<- ak (show L a=L y from h)]; exact ha
   | succ j=>exact qX l x j y (by unfold eT; omega) (by simpa using h)
  ·rw [aF,if_neg ha] at hj;simp at hj
theorem yN:∀ (l:List (fC×fC)) (x y:fC×fC),l[eT l x]?=L y->jB y x=aO
 | [],_,_,h=>by simp [eT] at h
 | a::l,x,y,h=>by
  unfold eT at h;by_cases ha:jB a x=aG
  ·rw [aF,if_pos ha,aN] at h;exact yN l x y (by unfold eT; simpa using h)
  ·rw [aF,if_neg ha] at h;rw [<- ak (show L a=L y from h)];simpa using ha
theorem Bw {m:List En} (hr:mQ m) (t s:fC):iA (m.map fB) (t,s)=if lg m t s=aG then (eT (m.map fB) (t,s):Int) else -1:=by
 unfold lg;cases hp:m[eT (m.map fB) (t,s)]? with
 | none =>
  rw [if_neg (by simp)];refine vX _ _ fun j y hj e=>?_;have hl:m.length<=eT (m.map fB) (t,s):=List.getElem?_eq_none_iff.1 hp;have hj2:=(O.1 hj).1;rw [List.length_map] at hj2;have h:=qX _ (t,s) j y (by omega) hj;rw [e,qW] at h;cases h
 | some e =>
  have hpk:(m.map fB)[eT (m.map fB) (t,s)]?=L (fB e):=by rw [aI,hp]; rfl
  by_cases he:fB e=(t,s)
  ·simp only [he,decide_true,if_true];rw [he] at hpk;refine Ij _ _ _ hpk fun j z hj hz q=>?_;have h:=qX _ (t,s) j z hj hz;rw [q,qW] at h;cases h
  ·rw [if_neg (by simpa using he)];refine vX _ _ fun j y hj q=>?_;rcases Nat.lt_trichotomy j (eT (m.map fB) (t,s)) with h|h|h
   ·have h:=qX _ (t,s) j y h hj;rw [q,qW] at h;cases h
   ·subst h;rw [hpk] at hj;exact he ((ak hj).trans q)
   ·rw [aI] at hj;cases hz:m[j]? with
    | none=>rw [hz] at hj; cases hj
    | some z =>
     rw [hz] at hj;have h1:=bD.1 hr _ _ (O.1 hp).1 (O.1 hz).1 h;rw [(O.1 hp).2,(O.1 hz).2,<- nA] at h1;have h2:=yN _ _ _ hpk;rw [show fB z=(t,s) from (ak hj).trans q] at h1;rw [h1] at h2;cases h2
theorem N7 {x y:En} (h:Ab x y<0):eH x.tree y.tree=aG\/x.tree=y.tree:=by
 rcases (uR x y).1 h with q|q
 ·exact aW q
 ·exact aB q.1
theorem Bz {α:Type} (p:α->Bool):∀ l:List α,l.drop (l.takeWhile p).length=l.dropWhile p
 | []=>rfl
 | a::l=>by
  by_cases h:p a=aG
  ·simp [h,Bz p l]
  ·simp [h]
theorem Lu:∀ {m:List En} (t:fC) (_:mQ m),∀ e∈m.dropWhile (fun e=>eH e.tree t),eH e.tree t=aO
 | [],_,_,e,h=>by simp at h
 | a::m,t,hr,e,h=>by
  have hr':=aR.1 hr;by_cases ha:eH a.tree t=aG
  ·rw [aP,if_pos ha] at h;exact Lu t hr'.2 e h
  ·rw [aP,if_neg ha] at h;rcases aY.1 h with rfl|h
   ·simpa using ha
   ·cases hq:eH e.tree t with
    | false=>rfl
    | true =>
     exfalso;rcases N7 (hr'.1 e h) with q|q
     ·exact ha (iX q hq)
     ·exact ha (by rw [q]; exact hq)
theorem Uq:∀ {m:List En} (t:fC) (_:mQ m) (_:∀ e∈m,eH e.tree t=aO),∀ e∈m.dropWhile (fun e=>decide (e.tree=t)),eH t e.tree=aG
 | [],_,_,_,e,h=>by simp at h
 | a::m,t,hr,hl,e,h=>by
  have hr':=aR.1 hr;by_cases ha:a.tree=t
  ·rw [aP,if_pos (by simpa using ha)] at h;exact Uq t hr'.2 (fun e he=>hl e (bI _ he)) e h
  ·rw [aP,if_neg (by simpa using ha)] at h;have hta:eH t a.tree=aG:=by
    rcases pY a.tree t with q|q|q
    ·rw [hl a (by simp)] at q; cases q
    ·exact absurd q ha
    ·exact q
   rcases aY.1 h with rfl|h
   ·exact hta
   ·rcases N7 (hr'.1 e h) with q|q
    ·exact iX hta q
    ·rw [<- q]; exact hta
theorem Oa {x t:fC} (h:eH x t=aG):x≠t:=by rintro rfl; rw [lD] at h; cases h
theorem Ur {m:List En} (hr:mQ m) (t:fC):∃ c,m=m.take (jY m t)++wC m t++c/\(m.take (jY m t)).length=jY m t/\(∀ e∈m.take (jY m t),e.tree≠t)/\(∀ e∈wC m t,e.tree=t)/\(∀ e∈c,e.tree≠t):=by
 have e1:m.take (jY m t)=m.takeWhile fun e=>eH e.tree t:=by
  unfold jY
  conv=>lhs; arg 2; rw [<- aU (p:=fun e:En=>eH e.tree t) (l:=m)]
  rw [List.take_left]
 have e2:m.drop (jY m t)=m.dropWhile fun e=>eH e.tree t:=Bz _ _;refine⟨(m.drop (jY m t)).dropWhile fun e=>decide (e.tree=t),?_,?_,?_,?_,?_⟩
 ·unfold wC;rw [bP,aU,aV]
 ·rw [e1]; rfl
 ·rw [e1];intro e he;exact Oa (bU.1 bL e he)
 ·intro e he;unfold wC at he;exact of_decide_eq_true (bU.1 (bL (p:=fun e:En=>decide (e.tree=t))) e he)
 ·rw [e2];intro e he;have h1:mQ (m.dropWhile fun e=>eH e.tree t):=hr.sublist (List.dropWhile_sublist _);exact (Oa (Uq t h1 (Lu t hr) e he)).symm
theorem Jb {α:Type} {p:α->Bool} {l:List α} (h:∀ e∈l,p e=aO):l.filter p=[]:=by
 rw [List.filter_eq_nil_iff];intro e he;rw [h e he];simp
theorem Eo {m:List En} (hr:mQ m) (t:fC):wC m t=m.filter fun e=>decide (e.tree=t):=by
 obtain⟨c,h1,_,h2,h3,h4⟩:=Ur hr t;generalize wC m t=r at *;generalize m.take (jY m t)=a at *;subst h1;rw [bM,bM,Jb (l:=a) fun e he=>by simpa using h2 e he,Jb (l:=c) fun e he=>by simpa using h4 e he,List.nil_append,List.append_nil];exact (List.filter_eq_self.2 fun e he=>by simpa using h3 e he).symm
theorem ac0 {m:List En} (hr:mQ m) (t:fC) (p:List C5):Uo (wC m t) p=fD m t p:=by
 rw [Eo hr,Uo,List.any_filter]
 rfl
def iE (b:Br):Prop:=∀ a∈b.dQ,a.par≠-1->∀ e∈b.ent,e.tree=a.id->e.up=aO->fD b.ent a.id e.p=aG
theorem nE (m:List En) (t:fC) (p:List C5):fD m t p=aG↔∃ e∈m,e.tree=t/\e.up=aG/\nD e.p p=aG:=by
 unfold fD;rw [List.any_eq_true];simp [Ub]
theorem Jc {b:Br} (h:jc b) (a:Ad) (ht:iE b):iE (eX b a).1:=by
 by_cases hin:a.id∈b.seen
 ·rw [uO hin]; exact ht
 ·rw [vZ hin];intro y hy hp e he hte hu;rcases (kD _ _ _ _).1 hy with rfl|hy
  ·exfalso;have hk:=h.Rn e he;unfold Bh at hk;cases hf:gD b.dQ e.tree with
   | none=>rw [hf] at hk; cases hk
   | some z =>
    obtain⟨z1,z2⟩:=ny hf;exact hin (by rw [<- hte,<- z2]; exact (h.oks z z1).1)
  ·exact ht y hy hp e he hte hu
theorem Gl {b:Br} (x:fC) (f:Int) (ht:iE b):iE (gL b x f).1:=by
 unfold gL;cases gD b.dQ x with
 | none=>exact ht
 | some a =>
  simp only
  split
  ·intro y hy hp e he hte hu;have hy':=aH.1 hy;have he':=aH.1 he;obtain⟨z,h1,h2,h3,h4⟩:=(nE _ _ _).1 (ht y hy'.1 hp e he'.1 hte hu);refine (nE _ _ _).2 ⟨z,aH.2 ⟨h1,?_⟩,h2,h3,h4⟩;rw [h2];exact hy'.2
  ·exact ht
theorem Ep {b:Br} (h:jc b) (e:En) (ht:iE b):iE (ig b e).1:=by
 unfold ig
 split
 ·exact ht
 ·rename_i a ha
  split
  ·exact ht
  ·rename_i h1
   split
   ·exact ht
   ·split
    ·exact ht
    ·have hid:a.id=e.tree:=by
      rcases lQ (b.dQ.map Ad.id) e.tree with q|⟨k,q,r⟩
      ·exact absurd (Bv _ _ ▸ q) h1
      ·rw [Bv,q,Int.toNat_natCast] at ha;rw [aI,ha] at r;exact ak r
     have hA:a∈b.dQ:=List.mem_of_getElem? ha;intro y hy hp z hz hte hu;have more:∀ p,fD b.ent y.id p=aG->fD (gG b.ent (eT (b.ent.map fB) (fB e)) { e with up:=decide (a.par≠-1) && !fD b.ent e.tree e.p }) y.id p=aG:=fun p hp=>by
      obtain⟨q,q1,q2⟩:=(nE _ _ _).1 hp;exact (nE _ _ _).2 ⟨q,(kD _ _ _ _).2 (aB q1),q2⟩
     rcases (kD _ _ _ _).1 hz with rfl|hz
     ·have hya:y=a:=by
       have g1:=o7 h.dQ hA;have g2:=o7 h.dQ hy;rw [show y.id=a.id from hte.symm.trans hid.symm,g1] at g2;exact (ak g2).symm
      have hu':(decide (a.par≠-1) && !fD b.ent e.tree e.p)=aO:=hu;rw [<- hya,decide_eq_true hp,Bool.true_and] at hu';refine more _ ?_;rw [<- show e.tree=y.id from hte];simpa using hu'
     ·exact more _ (ht y hy hp z hz hte hu)
theorem BP {α:Type} {l:List α} {k:Nat} {x y:α} (hk:l[k]?=L x) (hy:y∈l):y=x\/y∈cutAt l k:=by
 have hlt:=(O.1 hk).1;have e:l=l.take k++x::l.drop (k+1):=by
  conv=>lhs; rw [<- aV k l]
  rw [List.drop_eq_getElem_cons hlt,(O.1 hk).2]
 rw [e] at hy;unfold cutAt;rcases aQ.1 hy with h|h
 ·exact aB (List.mem_append_left _ h)
 ·rcases aY.1 h with h|h
  ·exact aW h
  ·exact aB (List.mem_append_right _ h)
theorem Ob {α:Type} {l:List α} {k:Nat} {y:α} (h:y∈cutAt l k):y∈l:=by
 unfold cutAt at h;rcases aQ.1 h with h|h
 ·exact List.mem_of_mem_take h
 ·exact List.mem_of_mem_drop h
theorem YW {α:Type} {l:List α} {k:Nat} {x y z:α} (hk:l[k]?=L x) (hz:z∈l):z=x\/z∈l.set k y:=by
 obtain⟨j,hj⟩:=aL.1 hz;by_cases hjk:k=j
 ·subst hjk;rw [hk] at hj;exact aW (ak hj).symm
 ·right;refine aL.2 ⟨j,?_⟩;rw [List.getElem?_set_ne hjk];exact hj
theorem Jd {t:fC} {s:List En×List En} {k:Nat} (u:fC) (p:List C5) (h:fD s.1 u p=aG):fD (iJ t s k).1 u p=aG:=by
 unfold iJ
 split
 ·exact h
 ·rename_i e he
  split
  ·obtain⟨z,h1,h2,h3,h4⟩:=(nE _ _ _).1 h;rcases YW (y:=XY e) he h1 with rfl|h5
   ·rename_i hq
    rw [hq.2.1] at h3;cases h3
   ·exact (nE _ _ _).2 ⟨z,h5,h2,h3,h4⟩
  ·exact h
theorem Er (t:fC) (m:List En):∀ k,k<=m.length->(∀ j,j<k->∀ e,(iV t m k).1[j]?=L e->e.tree=t->e.up=aO->fD (iV t m k).1 t e.p=aG)/\(∀ u p,fD m u p=aG->fD (iV t m k).1 u p=aG)/\(∀ e,e∈(iV t m k).1->e.tree≠t->e∈m)
 | 0,_=>⟨fun j hj=>absurd hj (Nat.not_lt_zero _),fun _ _ h=>h,fun _ h _=>h⟩
 | k+1,hk=>by
  obtain⟨h1,h2,h3⟩:=Er t m k (by omega);rw [nk];refine⟨fun j hj e he htr hu=>?_,fun u p h=>Jd u p (h2 u p h),fun e he hne=>?_⟩
  ·have hl:=(oH t m k).1;generalize iV t m k=s at *;obtain⟨z,hz⟩:∃ z,s.1[k]?=L z:=⟨_,au (by omega)⟩;by_cases hc:z.tree=t/\z.up=aO/\fD s.1 t z.p=aO
   ·have e1:iJ t s k=(s.1.set k (XY z),s.2++[XY z]):=by unfold iJ; rw [hz]; simp only; rw [if_pos hc]
    have mono:=Jd (t:=t) (s:=s) (k:=k) t;rw [e1] at he mono ⊢;rw [List.getElem?_set] at he
    split at he
    ·split at he
     ·rw [<- ak he] at hu;cases hu
     ·cases he
    ·exact mono _ (h1 j (by omega) e he htr hu)
   ·have e1:iJ t s k=s:=by unfold iJ; rw [hz]; simp only; rw [if_neg hc]
    rw [e1] at he ⊢;rcases bF j k with h0|h0
    ·exact h1 j h0 e he htr hu
    ·obtain rfl:j=k:=by omega
     rw [hz] at he;obtain rfl:=ak he;cases hv:fD s.1 t z.p with
     | true=>rfl
     | false=>exact absurd ⟨htr,hu,hv⟩ hc
  ·unfold iJ at he
   split at he
   ·exact h3 e he hne
   ·rename_i z hz
    split at he
    ·rename_i hq
     rcases List.mem_or_eq_of_mem_set he with h5|h5
     ·exact h3 e h5 hne
     ·rw [h5] at hne;exact absurd hq.1 hne
    ·exact h3 e he hne
theorem Ca {b:Br} (t x:fC) (f:Int) (ht:iE b):iE (takeB b t x f).1:=by
 unfold takeB
 split
 ·exact ht
 ·rename_i e0 he0
  split
  ·exact ht
  ·rename_i h1
   split
   ·exact ht
   ·have h5:e0.tree=t:=by
     rcases lQ (b.ent.map fB) (t,x) with q|⟨k,q,r⟩
     ·exact absurd q h1
     ·rw [q,Int.toNat_natCast] at he0;rw [aI,he0] at r;exact congrArg Prod.fst (ak r)
    generalize (iA (b.ent.map fB) (t,x)).toNat=k at *
    split
    ·rename_i hup
     intro y hy hp z hz hte hu;obtain⟨q,q1,q2,q3,q4⟩:=(nE _ _ _).1 (ht y hy hp z (Ob hz) hte hu);refine (nE _ _ _).2 ⟨q,(BP he0 q1).resolve_left ?_,q2,q3,q4⟩;rintro rfl;rw [hup] at q3;cases q3
    ·intro y hy hp z hz hte hu;obtain⟨g1,g2,g3⟩:=Er t (cutAt b.ent k) (cutAt b.ent k).length (aS _);by_cases hyt:y.id=t
     ·obtain⟨j,hj⟩:=aL.1 hz;have hlt:=(O.1 hj).1;rw [(oH t (cutAt b.ent k) _).1] at hlt;rw [hyt] at hte ⊢;exact g1 j hlt z hj hte hu
     ·have hzt:z.tree≠t:=by rw [hte]; exact hyt
      obtain⟨q,q1,q2,q3,q4⟩:=(nE _ _ _).1 (ht y hy hp z (Ob (g3 z hz hzt)) hte hu);refine g2 _ _ ((nE _ _ _).2 ⟨q,(BP he0 q1).resolve_left ?_,q2,q3,q4⟩);rintro rfl;exact hyt (q2.symm.trans h5)
theorem QE (x:iq) (t s:fC) (r:Bool) (hr:jB (iR x) (t,s)=r) (w:aZ):bV aD 125 #[pF x,mM t,mM s] w fun e w'=>e=aC (bg r)/\Below w.heap.size w w':=by
 obtain⟨y1,y2,y3,y4,⟨yo,yn,yc⟩,y6,y7⟩:=x;obtain⟨c,d⟩:=t;obtain⟨g,h⟩:=s;obtain⟨h0,X,Y,Z⟩:=gK w #[V ah y1,V ah y2,V ah y3,V ah y4,J yo yn yc,V ah y6,bg y7] #[V ah c,V ah d] #[V ah g,V ah h] 66 31 31;have x1:=X.cell 1;have x0:=X.cell 0;have x2:=X.cell 2;have x3:=X.cell 3;obtain⟨c0,c1⟩:=Y.cs2;obtain⟨d0,d1⟩:=Z.cs2;simp only [aM,aJ,aT] at x0 x1 x2 x3;have C1:=yB (y1,y2) (c,d);have C2:=yB (y3,y4) (g,h);have B:=U h0;have he:jB ((y1,y2),(y3,y4)) ((c,d),(g,h))=if ((y1,y2):fC)=(c,d) then eH (y3,y4) (g,h) else eH (y1,y2) (c,d):=by
  unfold jB;by_cases q:((y1,y2):fC)=(c,d)
  ·rw [if_pos q,q,lD,(oh _ _).2 rfl]; rfl
  ·rw [if_neg q,bS.2 fun q2=>q ((oh _ _).1 q2)]; simp
 clear h0 X Y Z;by_cases q:((y1,y2):fC)=(c,d)
 ·have hr2:=U (show eH (y3,y4) (g,h)=r by rw [<- hr]; show _=jB ((y1,y2),(y3,y4)) ((c,d),(g,h)); rw [he,if_pos q]);obtain⟨rfl,rfl⟩:y1=c/\y2=d:=by simpa using q
  have hne:=P6 y1 y2 y1 y2 aO (by simp);clear he hr q;go_enter bZ,bW;go_wp2_with fail;refine (C2 _).mono ?_;rintro e w1 ⟨rfl,hb⟩;go_wp2;go_ret;exact⟨congrArg (fun b=>aC (bg b)) hr2.out,B.out.trans (hb.mono B.out.size)⟩
 ·have hr2:=U (show eH (y1,y2) (c,d)=r by rw [<- hr]; show _=jB ((y1,y2),(y3,y4)) ((c,d),(g,h)); rw [he,if_neg q]);have hne:=P6 y1 y2 c d aG (by rw [show (y1 == c && y2 == d)=aO from bS.2 fun h=>q (by simp at h; rw [h.1,h.2])]; rfl);clear he hr q;go_enter bZ,bW;go_wp2_with fail;refine (C1 _).mono ?_;rintro e w1 ⟨rfl,hb⟩;go_wp2;go_ret;exact⟨congrArg (fun b=>aC (bg b)) hr2.out,B.out.trans (hb.mono B.out.size)⟩
theorem Cb (g:Nat) (cb:Array bG) (eg:∀ args w,(callFunc g args).run aD w=.ok (.enter g args) w) (n k:Nat) (p:Nat->Bool) (w:aZ) (hn:n<=1000000)
  (hf:∀ i,i<n->∀ W,Below w.heap.size w W->bV aD g (#[V ah i]++cb) W fun e w'=>e=aC (bg (p i))/\Below W.heap.size W w')
  (hk:k<=n) (hlo:∀ i,i<k->p i=aO) (hhi:∀ i,k<=i->i<n->p i=aG) :
  bV aD 118 #[V ah n,.func (.func g) #[] cb] w fun e w'=>e=aC (V ah k)/\Below w.heap.size w w':=by
 have HF:=U hf;have LO:=U hlo;have HI:=U hhi;clear hf hlo hhi;go_enter Tryz.func118,Tryz.ntmps118;go_wp2
 go_loopg [5,6] n (fun kx s5 s6 wr=>∃ lo hi:Nat,s5=V ah lo/\s6=V ah hi/\lo<=k/\k<=hi/\hi<=n/\hi-lo<=kx/\Below w.heap.size w wr)
 case atStart=>exact⟨0,n,rfl,rfl,Nat.zero_le _,hk,aS _,by omega,aX _ _⟩
 case round =>
  obtain⟨lo,hi,rfl,rfl,hlk,hkh,hin,hg,hb⟩:=hrel;have B:=U hb;clear hb;by_cases hlt:lo<hi
  ·have hc:=HF.out ((lo+hi) / 2) (by omega) wr B.out;rw [show (((lo+hi) / 2:Nat):Int)=((lo:Int)+(hi:Int)) / 2 by omega] at hc;cases hp:p ((lo+hi) / 2) <;> rw [hp] at hc
   ·have HP:=U hp;have HK:=U (show (lo+hi) / 2+1<=k from by
     rcases bF ((lo+hi) / 2) k with h|h
     ·exact h
     ·have:=HI.out _ h (by omega); rw [hp] at this; cases this)
    clear hp;go_wp2_with (go_at_fn g; refine hc.mono ?_; rintro e w' ⟨rfl,hb2⟩)
    go_roundg (hi-((lo+hi) / 2+1))
    case measure=>omega
    case rel=>exact⟨(lo+hi) / 2+1,hi,by rw [show ((lo:Int)+(hi:Int)) / 2+1=(((lo+hi) / 2+1:Nat):Int) by omega],rfl,HK.out,hkh,hin,aS _,B.out.trans (hb2.mono B.out.size)⟩
   ·have HP:=U hp;have HK:=U (show k<=(lo+hi) / 2 from by
     rcases bF ((lo+hi) / 2) k with h|h
     ·have:=LO.out _ h; rw [hp] at this; cases this
     ·exact h)
    clear hp;go_wp2_with (go_at_fn g; refine hc.mono ?_; rintro e w' ⟨rfl,hb2⟩)
    go_roundg ((lo+hi) / 2-lo)
    case measure=>omega
    case rel=>exact⟨lo,(lo+hi) / 2,rfl,by rw [show ((lo:Int)+(hi:Int)) / 2=(((lo+hi) / 2:Nat):Int) by omega],hlk,HK.out,by omega,aS _,B.out.trans (hb2.mono B.out.size)⟩
  ·obtain rfl:hi=lo:=by omega
   obtain rfl:hi=k:=by omega
   go_wp2;go_ret;exact⟨rfl,B.out⟩
theorem Cc {W W1:aZ} {v:bG} {l:List iq} {ao:Option bX} {n c k:Nat} {x:iq} (h:lI W v l) (hv:v=J ao n c) (hn:l.length=n) (hk:l[k]?=L x) (hb:Below W.heap.size W W1) :
  ∃ p:bX,(∀ w,(Instr.indexAt 25 (J ao n c) (V ah k)).run aD w=.ok (aj (L p)) w) /\
   (∀ d os,(grow (redrawn W1 d) os).cell? p=L (V ah x.1))/\(∀ d os,(grow (redrawn W1 d) os).cell? ⟨p.block,p.off+1,ay⟩=L (V ah x.2.1)) /\
   (∀ d os,(grow (redrawn W1 d) os).cell? ⟨p.block,p.off+2,ay⟩=L (V ah x.2.2.1))/\(∀ d os,(grow (redrawn W1 d) os).cell? ⟨p.block,p.off+3,ay⟩=L (V ah x.2.2.2.1)) /\
   (∀ d os,(grow (redrawn W1 d) os).cell? ⟨p.block,p.off+4,ay⟩=L (dU x.2.2.2.2.1))/\(∀ d os,(grow (redrawn W1 d) os).cell? ⟨p.block,p.off+5,ay⟩=L (V ah x.2.2.2.2.2.1)) /\
   (∀ d os,(grow (redrawn W1 d) os).cell? ⟨p.block,p.off+6,ay⟩=L (bg x.2.2.2.2.2.2)):=by
 obtain⟨p,h1,h2⟩:=Kh h hv hn hk;obtain⟨c0,c1,c2,c3,c4,c5,c6⟩:=h2 _ hb;exact⟨p,h1,cell_regrown c0,cell_regrown c1,cell_regrown c2,cell_regrown c3,cell_regrown c4,cell_regrown c5,cell_regrown c6⟩
theorem YX (args:Array bG) (w:aZ):(callFunc 124 args).run aD w=.ok (.enter 124 args) w:=gF cu rfl rfl args w
theorem YZ (args:Array bG) (w:aZ):(callFunc 119 args).run aD w=.ok (.enter 119 args) w:=gF cB rfl rfl args w
theorem Y9 (i:Nat) (b1 b2 b3:Nat) (ao:Option bX) (n ac:Nat) (l:List iq) (t s:fC) (y:iq) (r:Bool) (w:aZ) (hv:lI w (J ao n ac) l) (hn:l.length=n) (hy:l[i]?=L y) (hr:(!jB (iR y) (t,s))=r)
  (h1:dK w b1 #[J ao n ac] 25) (h2:dK w b2 #[V ah t.1,V ah t.2] 31) (h3:dK w b3 #[V ah s.1,V ah s.2] 31) :
  bV aD 124 #[V ah i,aj (L ⟨b1,0,ay⟩),aj (L ⟨b2,0,ay⟩),aj (L ⟨b3,0,ay⟩)] w fun e w'=>e=aC (bg r)/\Below w.heap.size w w':=by
 obtain⟨p,ix,p0,p1,p2,p3,p4,p5,p6⟩:=Cc hv rfl hn hy (aX _ _);have a0:=cell_regrown (h1.cell 0);have b0:=cell_regrown (h2.cell 0);have b1':=cell_regrown (h2.cell 1);have c0:=cell_regrown (h3.cell 0);have c1:=cell_regrown (h3.cell 1);obtain⟨q,hq⟩:∃ q,jB (iR y) (t,s)=q:=⟨_,rfl⟩;have C:∀ k os,bV aD 125 #[pF y,mM t,mM s] (grow (redrawn w k) os) fun e w''=>e=aC (bg q)/\∃ p:Regrown,w''=grow (redrawn w p.d) p.os:=fun k os=>Calls.regrown_of (QE y t s q hq _);rw [hq] at hr;have R:=U hr;have BN:=U (fun dq osq=>below_regrown w dq osq);obtain⟨y1,y2,y3,y4,⟨yo,yn,yc⟩,y6,y7⟩:=y;obtain⟨c,d⟩:=t;obtain⟨g,h⟩:=s;simp only at p0 p1 p2 p3 p4 p5 p6 b0 b1' c0 c1 C;clear hv hn hy hr hq h1 h2 h3;go_enter cu,Tryz.ntmps124;go_wp2;refine wp_region_quiet_below (by kernel_rfl) (by kernel_rfl) ?_
 repeat (go_big_quiet_step (first | (with_reducible exact C _ _) | exact ac1 _ _))
 refine wpQuiet_nil ?_;intro _ hw';obtain⟨⟨dq,osq⟩,hw''⟩:=hw';subst hw'';go_wp2;go_ret;exact⟨congrArg (fun b=>aC (bg b)) R.out,BN.out _ _⟩
theorem Za (i:Nat) (b1 b2:Nat) (ao:Option bX) (n ac:Nat) (l:List iq) (t:fC) (y:iq) (r:Bool) (w:aZ) (hv:lI w (J ao n ac) l) (hn:l.length=n) (hy:l[i]?=L y) (hr:(!eH (y.1,y.2.1) t)=r)
  (h1:dK w b1 #[J ao n ac] 25) (h2:dK w b2 #[V ah t.1,V ah t.2] 31) :
  bV aD 119 #[V ah i,aj (L ⟨b1,0,ay⟩),aj (L ⟨b2,0,ay⟩)] w fun e w'=>e=aC (bg r)/\Below w.heap.size w w':=by
 obtain⟨p,ix,p0,p1,p2,p3,p4,p5,p6⟩:=Cc hv rfl hn hy (aX _ _);have a0:=cell_regrown (h1.cell 0);have b0:=cell_regrown (h2.cell 0);have b1':=cell_regrown (h2.cell 1);have C:∀ k os,bV aD 120 #[mM (y.1,y.2.1),mM t] (grow (redrawn w k) os) fun e w''=>e=aC (bg (eH (y.1,y.2.1) t))/\∃ p:Regrown,w''=grow (redrawn w p.d) p.os:=fun k os=>Calls.regrown_of (yB (y.1,y.2.1) t _);generalize eH (y.1,y.2.1) t=q at *;have R:=U hr;have BN:=U (fun dq osq=>below_regrown w dq osq);obtain⟨y1,y2,y3,y4,⟨yo,yn,yc⟩,y6,y7⟩:=y;obtain⟨c,d⟩:=t;simp only at p0 p1 p2 p3 p4 p5 p6 b0 b1' C;clear hv hn hy hr h1 h2 p2 p3 p4 p5 p6;go_enter cB,Tryz.ntmps119;go_wp2;refine wp_region_quiet_below (by kernel_rfl) (by kernel_rfl) ?_
 repeat (go_big_quiet_step (first | (with_reducible exact C _ _) | exact adQ _ _))
 refine wpQuiet_nil ?_;intro _ hw';obtain⟨⟨dq,osq⟩,hw''⟩:=hw';subst hw'';go_wp2;go_ret;exact⟨congrArg (fun b=>aC (bg b)) R.out,BN.out _ _⟩
theorem jq {α:Type} {E:Ek α} {W:aZ} {so:Option bX} {sn sc:Nat} {l:List α} (h:Row E W (J so sn sc) l):l.length=sn:=by
 obtain⟨ao,ac,hv⟩:=h.len;simp at hv;exact hv.2.1.symm
theorem mF {W:aZ} {l:List iq} {m:List En} (h:eP (jm W) l m) {i:Nat} {y:iq} (hy:l[i]?=L y):∃ e,m[i]?=L e/\iR y=fB e/\jm W y e:=by
 have hlt:=(O.1 hy).1;obtain⟨e,he⟩:∃ e,m[i]?=L e:=⟨_,au (by rw [<- h.len]; exact hlt)⟩;obtain⟨y',hy',hx⟩:=h.at i e he;rw [hy] at hy';obtain rfl:=ak hy';exact⟨e,he,Prod.ext hx.1 hx.2.1,hx⟩
theorem yO {m:List En} (hr:mQ m) {i j:Nat} {x y:En} (hij:i<j) (hx:m[i]?=L x) (hy:m[j]?=L y):Ab x y<0:=by
 obtain⟨h1,rfl⟩:=O.1 hx;obtain⟨h2,rfl⟩:=O.1 hy;exact bD.1 hr i j h1 h2 hij
theorem mg (l:List (fC×fC)) (x:fC×fC):eT l x<=l.length:=(List.takeWhile_sublist _).length_le
theorem xA {m:List En} (hr:mQ m) (x:fC×fC) {i:Nat} {e:En} (hi:eT (m.map fB) x<=i) (he:m[i]?=L e):jB (fB e) x=aO:=by
 have hlt:=(O.1 he).1;obtain⟨z,hz⟩:∃ z,m[eT (m.map fB) x]?=L z:=⟨_,au (by omega)⟩;have h0:=yN (m.map fB) x (fB z) (by rw [aI,hz]; rfl);rcases bF (eT (m.map fB) x) i with h|h
 ·have h1:=yO hr h hz he;cases hq:jB (fB e) x with
  | false=>rfl
  | true =>
   rw [<- nA] at h1;have h2:Ab z ⟨x.1,x.2,[],0,aO⟩<0:=Ls z e ⟨x.1,x.2,[],0,aO⟩ ((nA z e).1 h1) ((nA e ⟨x.1,x.2,[],0,aO⟩).1 hq);rw [<- nA] at h2;rw [show jB (fB z) x=aG from h2] at h0;cases h0
 ·have e1:i=eT (m.map fB) x:=by omega
  rw [e1,hz] at he;rw [<- ak he];exact h0
theorem Es (v:Sl) (l:List iq) (m:List En) (t s:fC) (w:aZ) (hv:lI w (dU v) l) (hA:eP (jm w) l m) (hr:mQ m) (hl:l.length<=1000) :
  bV aD 77 #[dU v,mM t,mM s] w fun e w'=>e=aC (.tuple #[V ah (eT (m.map fB) (t,s)),bg (lg m t s)])/\Below w.heap.size w w':=by
 obtain⟨so,n,sc⟩:=v;have hn:l.length=n:=jq hv;obtain⟨c,d⟩:=t;obtain⟨g,h⟩:=s;obtain⟨k,hk⟩:∃ k,eT (m.map fB) ((c,d),(g,h))=k:=⟨_,rfl⟩;obtain⟨th,hth⟩:∃ k,lg m (c,d) (g,h)=k:=⟨_,rfl⟩;have hkn:k<=n:=by rw [<- hk,<- hn,hA.len]; simpa using mg (m.map fB) ((c,d),(g,h))
 rw [hk,hth];obtain⟨h0,X,Y,Z⟩:=gK w #[J so n sc] #[V ah c,V ah d] #[V ah g,V ah h] 25 31 31;have BB:=U h0;have HV:=U (hv.on h0);have HA:=U (hA.mono fun _ _ q=>q.on h0);have X1:=U X;have Y1:=U Y;have Z1:=U Z;have x0:=X.cell 0;simp only [aM,aJ] at x0;have HF:=U (show ∀ i,i<n->∀ W,Below (((w.alloc (bf #[J so n sc] 25)).alloc (bf #[V ah c,V ah d] 31)).alloc (bf #[V ah g,V ah h] 31)).heap.size (((w.alloc (bf #[J so n sc] 25)).alloc (bf #[V ah c,V ah d] 31)).alloc (bf #[V ah g,V ah h] 31)) W ->
   bV aD 124 (#[V ah i]++#[aj (L ⟨w.heap.size,0,ay⟩),aj (L ⟨w.heap.size+1,0,ay⟩),aj (L ⟨w.heap.size+1+1,0,ay⟩)]) W fun e w'=>e=aC (bg ((fun i=>match l[i]? with | some y=>!jB (iR y) ((c,d),(g,h)) | none=>aG) i))/\Below W.heap.size W w' from fun i hi W hb=>by
  obtain⟨y,hy⟩:∃ y,l[i]?=L y:=⟨_,au (by omega)⟩;refine Y9 i _ _ _ so n sc l (c,d) (g,h) y _ W (HV.out.on hb) hn hy ?_ (X1.out.on hb) (Y1.out.on hb) (Z1.out.on hb);simp only [hy])
 have HLO:=U (show ∀ i,i<k->(fun i=>match l[i]? with | some y=>!jB (iR y) ((c,d),(g,h)) | none=>aG) i=aO from fun i hi=>by
  obtain⟨y,hy⟩:∃ y,l[i]?=L y:=⟨_,au (by omega)⟩;obtain⟨e,he,hke,_⟩:=mF HA.out hy;have h1:=qX (m.map fB) ((c,d),(g,h)) i (fB e) (by rw [hk]; exact hi) (by rw [aI,he]; rfl);simp only [hy,hke,h1]
  rfl)
 have HHI:=U (show ∀ i,k<=i->i<n->(fun i=>match l[i]? with | some y=>!jB (iR y) ((c,d),(g,h)) | none=>aG) i=aG from fun i hi hi2=>by
  obtain⟨y,hy⟩:∃ y,l[i]?=L y:=⟨_,au (by omega)⟩;obtain⟨e,he,hke,_⟩:=mF HA.out hy;have h1:=Sb.xA hr ((c,d),(g,h)) (by rw [hk]; exact hi) he;simp only [hy,hke,h1]
  rfl)
 have HK:=U hk;have HT:=U hth;have HN:=U hn;have ln:n<=1000:=by omega
 clear hv hA h0 X Y Z hk hth hl hn hr;go_enter Tryz.func77,Tryz.ntmps77;go_wp2_with fail;generalize ((w.alloc (bf #[J so n sc] 25)).alloc (bf #[V ah c,V ah d] 31)).alloc (bf #[V ah g,V ah h] 31)=W at *;refine (Cb 124 #[aj (L ⟨w.heap.size,0,ay⟩),aj (L ⟨w.heap.size+1,0,ay⟩),aj (L ⟨w.heap.size+1+1,0,ay⟩)] YX n k _ W (by omega) HF.out hkn HLO.out HHI.out).mono ?_;rintro e1 w1 ⟨rfl,hb⟩;have BN:=U (fun dq osq=>(BB.out.trans (hb.mono BB.out.size)).trans ((below_regrown w1 dq osq).mono (BB.out.trans (hb.mono BB.out.size)).size));have a0:=cell_regrown (show w1.cell? ⟨w.heap.size,0,ay⟩=L (J so n sc) from (X1.out.on hb).cell 0);have b0:=cell_regrown (show w1.cell? ⟨w.heap.size+1,0,ay⟩=L (V ah c) from (Y1.out.on hb).cell 0);have b1:=cell_regrown (show w1.cell? ⟨w.heap.size+1,1,ay⟩=L (V ah d) from (Y1.out.on hb).cell 1);have c0:=cell_regrown (show w1.cell? ⟨w.heap.size+1+1,0,ay⟩=L (V ah g) from (Z1.out.on hb).cell 0);have c1:=cell_regrown (show w1.cell? ⟨w.heap.size+1+1,1,ay⟩=L (V ah h) from (Z1.out.on hb).cell 1);clear x0 HF HLO HHI;by_cases hkl:k<n
 ·obtain⟨y,hy⟩:∃ y,l[k]?=L y:=⟨_,au (by rw [HN.out]; exact hkl)⟩;obtain⟨p,ix,p0,p1,p2,p3,p4,p5,p6⟩:=Cc HV.out rfl HN.out hy hb;have TH:=U (show th=decide (iR y=((c,d),(g,h))) from by
   obtain⟨e,he,hke,_⟩:=mF HA.out hy;rw [<- HT.out,lg,HK.out,he,hke])
  have g4:decide ((k:Int)<(n:Int))=aG:=by simp; omega
  obtain⟨y1,y2,y3,y4,⟨yo,yn,yc⟩,y6,y7⟩:=y;simp only at p0 p1 p2 p3;clear p4 p5 p6 hb hy;obtain⟨r1,hr1⟩:∃ r,(y1 == c && y2 == d)=r:=⟨_,rfl⟩;obtain⟨r2,hr2⟩:∃ r,(y3 == g && y4 == h)=r:=⟨_,rfl⟩;have e1:=qO y1 y2 c d r1 hr1;have e2:=qO y3 y4 g h r2 hr2;have R:=U (show th=(r1 && r2) from by
   rw [TH.out,<- hr1,<- hr2,Bool.eq_iff_iff];simp only [decide_eq_true_eq,Bool.and_eq_true,beq_iff_eq,Prod.mk.injEq])
  clear hr1 hr2 TH HT;cases r1 <;> cases r2
  all_goals
   go_wp2;refine wp_region_quiet_below (by kernel_rfl) (by kernel_rfl) ?_
   repeat (go_big_quiet_step (fail))
   refine wpQuiet_nil ?_;intro _ hw';obtain⟨⟨dq,osq⟩,hw''⟩:=hw';subst hw'';go_wp2
   go_ret2
   exact⟨by rw [R.out]; rfl,BN.out _ _⟩
 ·have TH:=U (show th=aO from by
   rw [<- HT.out,lg,HK.out,List.getElem?_eq_none (by rw [<- HA.out.len,HN.out]; omega)])
  have g4:decide ((k:Int)<(n:Int))=aO:=by simp; omega
  clear hb HT;go_wp2;refine wp_region_quiet_below (by kernel_rfl) (by kernel_rfl) ?_
  repeat (go_big_quiet_step (fail))
  refine wpQuiet_nil ?_;intro _ hw';obtain⟨⟨dq,osq⟩,hw''⟩:=hw';subst hw'';go_wp2
  go_ret2
  exact⟨by rw [TH.out]; rfl,BN.out _ _⟩
end Sb
end Go.Proofs.YtmklifheakemeaaGreat
