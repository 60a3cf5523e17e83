/-
  Rows of deliveries; . Conditions as told.
-/
import Derived.Test.YtkcfgbddlpomgaaGreatLQ016
import Derived.Test.YtkcfgbddlpomgaaGreatLQ018
import Derived.Deep.LoopGhost
set_option maxRecDepth 100000
set_option maxHeartbeats 64000000
open _root_.Go renaming World->ay,Value->aA,cell_regrown->aD,bodyPost_ret->aQ,Addr->aX,below_regrown->bF
open Go.Act renaming put->aU
open Go.IntKind renaming i64->U
open Go.Lib renaming hid->L
open Go.Obj renaming cells->au
open Go.Operand renaming tmp->Z
open Go.Proofs.Tryz renaming prog->aC,results59->bg,results28->bD
open Go.Proofs.YtkcfgbddlpomgaaGreat.Rg renaming dn->aG,get_put->bC,dW->bJ,dH->bK,fQ->bL,fJ->bM,fA->bN,jN->bO,iI->bP,kR->bQ
open Go.RowKit.Below renaming refl->ah,heap_setCell->aL
open Go.Value renaming slice->J,int->O,pointer->Y,agg->aK,bool->bG
open _root_.List renaming getElem?_eq_getElem->ak,getElem?_toArray->aB,length_append->aH,getElem?_cons_zero->aI,getElem?_cons_succ->aJ,getElem?_map->aM,length_take->aO,map_toArray->aP,take_of_length_le->aR,length_map->aS,getElem?_set_ne->aT,map_cons->aV,map_nil->aY,take_add_one->aZ
open _root_.Nat renaming le_trans->aj,le_refl->aN,lt_of_le_of_lt->aW,zero_le->bf,mul_le_mul->bn,le_of_lt->bI
open _root_.Option renaming none->V,some->X
open _root_.Or renaming inr->aF,inl->bH
namespace Go.Proofs.YtkcfgbddlpomgaaGreat
namespace Bk
open Go.RowKit Go.Sort Rw YtkcfgbddlpomgaaGreat.Nm Pr Rl
abbrev yX:=Int×Int×Int×Sl
abbrev wD (x:yX):List aA:=[O U x.1,O U x.2.1,O U x.2.2.1,dP x.2.2.2]
abbrev aaL (x:yX):aA:=aK #[O U x.1,O U x.2.1,O U x.2.2.1,dP x.2.2.2]
def EG:Ek yX:=⟨65,45,4,48,aK #[O U 0,O U 0,O U 0,J V 0 0],aaL,wD⟩
theorem acC:(Tryz.prog.info? 65).map (fun i=>(i.zero,i.size,i.bytes))=X (X (aK #[O U 0,O U 0,O U 0,J V 0 0]),4,48):=by kernel_rfl
theorem acD (w:ay) (p:aX) (x:yX) (h:∀ j u,(wD x)[j]?=X u->w.cell? (p.add j)=X u):(Instr.loadAt 65 (Y (X p))).run aC w=.ok (aaL x) w:=by
 have h0:=h 0 _ rfl;have h1:=h 1 _ rfl;have h2:=h 2 _ rfl;have h3:=h 3 _ rfl;simp [Addr.add] at h0 h1 h2 h3;simp [go_sem,h0,h1,h2,h3]
theorem okG:EG.Ok where
 hu:=Tryz.underlying45
 info:=by
  have h:=acC;cases hi:Tryz.prog.info? 65 with
  | none=>rw [hi] at h; cases h
  | some i =>
   rw [hi] at h;simp only [Option.map_some,Option.some.injEq,Prod.mk.injEq] at h;exact⟨i,hi,h.1,h.2.1,h.2.2⟩
 zs:=rfl
 len:=fun _=>rfl
 one:=fun x u hu=>by
  simp only [EG,wD,List.mem_cons,List.not_mem_nil,or_false] at hu;rcases hu with rfl|rfl|rfl|rfl <;> rfl
 pos:=by decide
 few:=by decide
 load:=fun w p x h=>acD w p x h
abbrev aaM (W:ay) (v:aA) (l:List yX):Prop:=Row EG W v l
abbrev Gf (W:ay) (B:Nat) (v:aA) (l:List yX):Prop:=Own EG W B v l
theorem elG {W:ay} {v:aA} {l:List yX} {ao:Option aX} {n c k:Nat} {x:yX} (h:aaM W v l) (hv:v=J ao n c) (hn:l.length=n) (hk:l[k]?=X x) :
  ∃ p:aX,(∀ w,(Instr.indexAt 45 (J ao n c) (O U k)).run aC w=.ok (Y (X p)) w)/\∀ w,Below W.heap.size W w->w.cell? p=X (O U x.1)/\w.cell? ⟨p.block,p.off+1,V⟩=X (O U x.2.1)/\w.cell? ⟨p.block,p.off+2,V⟩=X (O U x.2.2.1)/\w.cell? ⟨p.block,p.off+3,V⟩=X (dP x.2.2.2):=by
 obtain⟨p,h1,_,h2⟩:=kX okG h hv hn hk;exact⟨p,h1,fun w hw=>⟨by simpa [Addr.add] using h2 w hw 0 _ rfl,by simpa [Addr.add] using h2 w hw 1 _ rfl,by simpa [Addr.add] using h2 w hw 2 _ rfl,by simpa [Addr.add] using h2 w hw 3 _ rfl⟩⟩
def mh (p:List C5) (l:List An):Bool:=vQ (p.map VW) l
def Wm (t:Id) (l:List An) (n:Int) (e:En):Bool:=decide (e.tree=t) && (decide (e.from_=n) && mh e.p l)
def aaN (l:List An) (c:Int) (o:Ow):Bool:=decide (o.id.1=c) && mh o.p l
def toB (b:Br) (t:Id) (l:List An):List Int:=b.near.filter fun n=>b.ent.any (Wm t l n)
def Rb:List Int:=(List.range 32).map fun (c:Nat)=>(c:Int)
def rO (b:Br) (l:List An):List Int:=Rb.filter fun c=>b.own.any (aaN l c)
def jX (b:Br) (f:Int) (t:Id) (l:List An):List Int×List Int :=
 match b.dM.find? fun a=>decide (a.id=t) with
 | some a=>if a.par=f then (toB b t l,rO b l) else ([],[])
 | none=>([],[])
structure Ou where
 gH:Int
 kind:Int
 tree:Id
 id:Id
 p:List C5
def rP (W:ay) (x:mU) (o:Ou):Prop:=x.1=o.gH/\x.2.1=o.kind/\(x.2.2.1,x.2.2.2.1)=o.tree/\(x.2.2.2.2.1,x.2.2.2.2.2.1)=o.id/\fK W (dP x.2.2.2.2.2.2.1) o.p/\x.2.2.2.2.2.2.2=(V,0,0)
theorem rP.on {W W':ay} {x:mU} {o:Ou} (h:rP W x o) (hb:Below W.heap.size W W'):rP W' x o:=⟨h.1,h.2.1,h.2.2.1,h.2.2.2.1,h.2.2.2.2.1.on hb,h.2.2.2.2.2⟩
def kP (W:ay) (s:Sl) (l:List Ou):Prop:=∃ xs,DN W (dP s) xs/\eu (rP W) xs l
theorem kP.on {W W':ay} {s:Sl} {l:List Ou} (h:kP W s l) (hb:Below W.heap.size W W'):kP W' s l:=by
 obtain⟨xs,h1,h2⟩:=h;exact⟨xs,h1.on hb,h2.mono fun _ _ h=>h.on hb⟩
theorem pO (W:ay):kP W (V,0,0) []:=⟨[],jg _,.nil⟩
def AJ (gH:Int) (e:En):Ou:=⟨gH,3,e.tree,e.sub,e.p⟩
abbrev Jv (gH:Int) (x:iF):mU:=(gH,3,x.1,x.2.1,x.2.2.1,x.2.2.2.1,x.2.2.2.2.1,(V,0,0))
theorem aaO {W:ay} {x:iF} {e:En} (h:je W x e) (t:Int):rP W (Jv t x) (AJ t e):=⟨rfl,rfl,h.1,h.2.1,h.2.2.2.2,rfl⟩
def jL (b:Br) (t x:Id) (f:Int):Br×List Ou:=if (takeB b t x f).2.2=false then ((takeB b t x f).1,[]) else
 match b.dM[(fD (b.dM.map Ad.id) t).toNat]? with
 | none=>((takeB b t x f).1,[])
 | some a=>((takeB b t x f).1,(takeB b t x f).2.1.map (AJ a.par)++[⟨a.par,4,t,x,[]⟩])
theorem jo (b:Br) (t x:Id) (f:Int):(takeB b t x f).1.dM=b.dM/\(takeB b t x f).1.near=b.near/\(takeB b t x f).1.me=b.me/\(takeB b t x f).1.seen=b.seen/\(takeB b t x f).1.own=b.own:=by
 unfold takeB
 split
 ·exact⟨rfl,rfl,rfl,rfl,rfl⟩
 ·split
  ·exact⟨rfl,rfl,rfl,rfl,rfl⟩
  ·split
   ·exact⟨rfl,rfl,rfl,rfl,rfl⟩
   ·split <;> exact⟨rfl,rfl,rfl,rfl,rfl⟩
theorem Jw {b:Br} {t x:Id} {f:Int} (h:(takeB b t x f).2.2=true):∃ e∈b.ent,e.tree=t:=by
 unfold takeB at h
 split at h
 ·cases h
 ·rename_i e he
  split at h
  ·cases h
  ·rename_i h1
   rcases mJ (b.ent.map fu) (t,x) with h2|⟨k,h2,h3⟩
   ·exact absurd h2 h1
   ·rw [h2,Int.toNat_natCast] at he;refine⟨e,List.mem_of_getElem? he,?_⟩;rw [aM,he] at h3;exact congrArg Prod.fst (Option.some.inj h3)
theorem sI (b:Br) (t x:Id) (f:Int):(takeB b t x f).1.ent.length<=b.ent.length/\(takeB b t x f).2.1.length<=b.ent.length:=by
 unfold takeB
 split
 ·simp
 ·split
  ·simp
  ·split
   ·simp
   ·have hc:(cutAt b.ent (iK (b.ent.map fu) (t,x)).toNat).length<=b.ent.length:=by
     unfold cutAt;rw [aH,aO,List.length_drop];omega
    split
    ·exact⟨hc,by simp⟩
    ·have h1:=nI t (cutAt b.ent (iK (b.ent.map fu) (t,x)).toNat) (cutAt b.ent (iK (b.ent.map fu) (t,x)).toNat).length;exact⟨by rw [show ((iL t _ _).1.length)=_ from h1.1]; exact hc,aj h1.2 hc⟩
theorem uN {W x:ay} {b F0:Nat} {cs:Array aA} {t:TypeId} (h:dI W b cs t) (hb:Below F0 W x) (hl:b<F0):dI x b cs t:=(hb.block b hl).trans h
theorem any_succ {α:Type} {m:List α} {k:Nat} {e:α} {f:α->Bool} (h:m[k]?=X e):(m.take (k+1)).any f=((m.take k).any f || f e):=by
 obtain⟨h1,h2⟩:=List.getElem?_eq_some_iff.1 h;rw [List.take_succ_eq_append_getElem h1,h2,List.any_append];simp
end Bk
namespace Av
open Go.RowKit Go.Sort Rw YtkcfgbddlpomgaaGreat.Nm Pr Bk
def jQ (near:List Int) (f:Int):Bool:=decide (f∈near) || f == -1
end Av
namespace Bk
open Go.RowKit Go.Sort Rw YtkcfgbddlpomgaaGreat.Nm Pr
def dV (W F0:Nat) (bv rv:aA) (gH c d c2 d2:Int) (lo:List mU) (i:Nat) (v:aA) (x:ay):Prop :=
 match i with
 | 0=>v=bv
 | 1=>v=rv
 | 2=>v=O U gH
 | 3=>v=lV (c,d)
 | 4=>v=lV (c2,d2)
 | 5=>v=aK #[O U 4,O U c,O U d,O U c2,O U d2,J V 0 0,J V 0 0]
 | 6=>v=yS (gH,4,c,d,c2,d2,(V,0,0),(V,0,0))
 | 7=>iZ x W v [(gH,4,c,d,c2,d2,(V,0,0),(V,0,0))]
 | 8=>∃ sl:Sl,v=dP sl/\iZ x F0 v (lo++[(gH,4,c,d,c2,d2,(V,0,0),(V,0,0))])
 | 10=>∃ sl:Sl,v=dP sl/\iZ x F0 v (lo++[(gH,4,c,d,c2,d2,(V,0,0),(V,0,0))])
 | _=>True
def dF (W:ay) (F0 b4 b5 b6 b8:Nat) (bc:Array aA) (c d c2 d2:Int) (D:Nat->Prop) (x:ay):Prop :=
 (dI x b4 bc 33/\dI x b5 #[O U c,O U d] 38/\dI x b6 #[O U c2,O U d2] 38)/\(¬ D 8->Below W.heap.size W x)/\(¬ D 9->Below F0 W x)/\(D 9->dI x b8 bc 33/\(∀ j,j<F0->j≠b8->x.heap[j]?=W.heap[j]?)/\∀ B,B<=b8->Below B W x)
noncomputable def KG:Code:=((Tryz.f59.body.bind (eD 11)).getD .skip)
theorem Rc (Q:Exit->Act->ay->Prop) (W:ay) (F0 b4 b5 b6 b8:Nat) (me gH c d c2 d2:Int) (o1 o2 o3 o4 o5:Option aX) (n1 k1 n2 k2 n3 k3 n4 k4 n5 k5:Nat) (rv:aA) (lo:List mU) (z0 z1 z2 z3 z4 z5:aA) (u0 u1 u2 u3 u7 u9 u10 u11 u14 u15 u16 u17 u18 u19 u20 u21 u22 u23 u24 u25 u26 u27 u28 u29 u30 u31 u32 u33 u34 u35 u36 u37 u38 u39 u40 u41 u42 u43 u44 u45 u46 u47 u48 u49 u50 u51 u52 u53 u54 u55 u56 u57 u58:aA)
  (h4:dI W b4 #[O U me,J o1 n1 k1,J o2 n2 k2,J o3 n3 k3,J o4 n4 k4,J o5 n5 k5] 33) (h5:dI W b5 #[O U c,O U d] 38) (h6:dI W b6 #[O U c2,O U d2] 38) (h8:dI W b8 #[z0,z1,z2,z3,z4,z5] 33) (l4:b4<F0) (l5:b5<F0) (l6:b6<F0) (l8:b8<F0) (n4_:b4≠b8) (n5_:b5≠b8) (n6_:b6≠b8) (fw:F0<=W.heap.size) (hown:iZ W F0 rv lo) (hlen:lo.length<=1000)
  (hQ:∀ (a:Act) (x:ay) (sl:Sl),a.defers=[]->a.tmps[8]?=X (Y (X ⟨b8,0,V⟩))->a.tmps[9]?=X (dP sl)->dI x b8 #[O U me,J o1 n1 k1,J o2 n2 k2,J o3 n3 k3,J o4 n4 k4,J o5 n5 k5] 33->iZ x F0 (dP sl) (lo++[(gH,4,c,d,c2,d2,(V,0,0),(V,0,0))])->(∀ k,k<F0->k≠b8->x.heap[k]?=W.heap[k]?)->(∀ B,B<=b8->Below B W x)->Q .normal a x) :
  Code.wp aC KG Q ⟨(u0::u1::u2::u3::Y (X ⟨b4,0,V⟩)::Y (X ⟨b5,0,V⟩)::Y (X ⟨b6,0,V⟩)::u7::Y (X ⟨b8,0,V⟩)::u9::u10::u11::O U gH::rv::u14::u15::u16::u17::u18::u19::u20::u21::u22::u23::u24::u25::u26::u27::u28::u29::u30::u31::u32::u33::u34::u35::u36::u37::u38::u39::u40::u41::u42::u43::u44::u45::u46::u47::u48::u49::u50::u51::u52::u53::u54::u55::u56::u57::u58::[]).toArray,[]⟩ W:=by
 have HQ:=L hQ;have H4:=L h4;have H5:=L h5;have H6:=L h6;have H8:=L h8;have L4:=L l4;have L5:=L l5;have L6:=L l6;have L8:=L l8;have N4:=L n4_;have N5:=L n5_;have N6:=L n6_;have FW:=L fw;have HO:=L hown;have HL:=L hlen;clear hQ h4 h5 h6 h8 l4 l5 l6 l8 n4_ n5_ n6_ fw hown hlen;unfold KG
 conv=>arg 2; whnf
 have nd:∀ j,(∀ i,i<11->[X 50,X 51,X 52,X 53,X 54,X 55,X 56,X 57,X 58,V,X 9].getD i V≠X j)->∀ i,i<11->(fun i=>[X 50,X 51,X 52,X 53,X 54,X 55,X 56,X 57,X 58,V,X 9].getD i V) i≠X j:=fun j h=>h;refine Rg.wR 11 (fun i=>[X 50,X 51,X 52,X 53,X 54,X 55,X 56,X 57,X 58,V,X 9].getD i V) (fun i=>if i=7 then 8 else 11) (dV W.heap.size F0 (aK #[O U me,J o1 n1 k1,J o2 n2 k2,J o3 n3 k3,J o4 n4 k4,J o5 n5 k5]) rv gH c d c2 d2 lo) (dF W F0 b4 b5 b6 b8 #[O U me,J o1 n1 k1,J o2 n2 k2,J o3 n3 k3,J o4 n4 k4,J o5 n5 k5] c d c2 d2) (by kernel_rfl) (by kernel_rfl) rfl (fun i j e hi hj h1 h2=>(by decide:∀ i,i<11->∀ j,j<11->([X 50,X 51,X 52,X 53,X 54,X 55,X 56,X 57,X 58,V,X 9].getD i V).isSome=true->[X 50,X 51,X 52,X 53,X 54,X 55,X 56,X 57,X 58,V,X 9].getD i V=[X 50,X 51,X 52,X 53,X 54,X 55,X 56,X 57,X 58,V,X 9].getD j V->i=j) i hi j hj (by have h1:[X 50,X 51,X 52,X 53,X 54,X 55,X 56,X 57,X 58,V,X 9].getD i V=X e:=h1; rw [h1]; rfl) (h1.trans h2.symm)) (fun i e hi h=>(by decide:∀ i,i<11->∀ q∈[X 50,X 51,X 52,X 53,X 54,X 55,X 56,X 57,X 58,V,X 9].getD i V,q<59) i hi e h) ⟨⟨H4.out,H5.out,H6.out⟩,fun _=>(ah _ _).drew,fun _=>(ah _ _).drew,False.elim⟩ ?_ ?_
 ·intro i o hi ho a x D hnd hc hD hF seen K hK;clear HQ;have still:∀ i,i≠8->i≠9->dF W F0 b4 b5 b6 b8 #[O U me,J o1 n1 k1,J o2 n2 k2,J o3 n3 k3,J o4 n4 k4,J o5 n5 k5] c d c2 d2 (fun j=>j=i\/D j) x:=fun i h8 h9=>⟨hF.1,fun h=>hF.2.1 fun h2=>h (aF h2),fun h=>hF.2.2.1 fun h2=>h (aF h2),fun h=>hF.2.2.2 (h.resolve_left (Ne.symm h9))⟩;rcases (by omega:i=0\/i=1\/i=2\/i=3\/i=4\/i=5\/i=6\/i=7\/i=8\/i=9\/i=10) with rfl|rfl|rfl|rfl|rfl|rfl|rfl|rfl|rfl|rfl|rfl
  ·cases ho;have e4:a.eval (Z 4)=Y (X ⟨b4,0,V⟩):=seen.kp 4 _ (nd 4 (by decide)) rfl;exact aG rfl rfl (bJ a.eval _ 33 (Z 4) rfl (by rw [e4]; exact vV hF.1.1)) (hK _ _ rfl (still 0 (by decide) (by decide)) fun _ _ _ _ _ _ _ h=>h)
  ·cases ho;have e13:a.eval (Z 13)=rv:=seen.kp 13 _ (nd 13 (by decide)) rfl;exact aG rfl rfl (bL a.eval _ (Z 13) rfl x) (hK _ _ e13 (still 1 (by decide) (by decide)) fun _ _ _ _ _ _ _ h=>h)
  ·cases ho;have e12:a.eval (Z 12)=O U gH:=seen.kp 12 _ (nd 12 (by decide)) rfl;exact aG rfl rfl (bL a.eval _ (Z 12) rfl x) (hK _ _ e12 (still 2 (by decide) (by decide)) fun _ _ _ _ _ _ _ h=>h)
  ·cases ho;have e5:a.eval (Z 5)=Y (X ⟨b5,0,V⟩):=seen.kp 5 _ (nd 5 (by decide)) rfl;exact aG rfl rfl (bJ a.eval _ 38 (Z 5) rfl (by rw [e5]; exact Bb x _ (c,d) (Kq hF.1.2.1))) (hK _ _ rfl (still 3 (by decide) (by decide)) fun _ _ _ _ _ _ _ h=>h)
  ·cases ho;have e6:a.eval (Z 6)=Y (X ⟨b6,0,V⟩):=seen.kp 6 _ (nd 6 (by decide)) rfl;exact aG rfl rfl (bJ a.eval _ 38 (Z 6) rfl (by rw [e6]; exact Bb x _ (c2,d2) (Kq hF.1.2.2))) (hK _ _ rfl (still 4 (by decide) (by decide)) fun _ _ _ _ _ _ _ h=>h)
  ·cases ho;have e53:a.eval (Z 53)=lV (c,d):=seen.at_ ⟨3,.data⟩ (by simp) rfl (aF (by decide)) _ rfl;have e54:a.eval (Z 54)=lV (c2,d2):=seen.at_ ⟨4,.data⟩ (by simp) rfl (aF (by decide)) _ rfl;exact aG rfl rfl (bO a.eval _ 43 #[(0,.const (O U 4)),(1,Z 53),(2,Z 54)] rfl (ps:=#[(0,O U 4),(1,lV (c,d)),(2,lV (c2,d2))]) (by simp only [aP,aV,aY,e53,e54]; rfl) (by simp [go_sem])) (hK _ _ rfl (still 5 (by decide) (by decide)) fun _ _ _ _ _ _ _ h=>h)
  ·cases ho;have e52:a.eval (Z 52)=O U gH:=seen.at_ ⟨2,.data⟩ (by simp) rfl (aF (by decide)) _ rfl;have e55:a.eval (Z 55)=aK #[O U 4,O U c,O U d,O U c2,O U d2,J V 0 0,J V 0 0]:=seen.at_ ⟨5,.data⟩ (by simp) rfl (aF (by decide)) _ rfl;exact aG rfl rfl (bO a.eval _ 58 #[(0,Z 52),(1,Z 55)] rfl (ps:=#[(0,O U gH),(1,aK #[O U 4,O U c,O U d,O U c2,O U d2,J V 0 0,J V 0 0])]) (by simp only [aP,aV,aY,e52,e55]) (by simp [go_sem])) (hK _ _ rfl (still 6 (by decide) (by decide)) fun _ _ _ _ _ _ _ h=>h)
  ·cases ho;have e56:a.eval (Z 56)=yS (gH,4,c,d,c2,d2,(V,0,0),(V,0,0)):=seen.at_ ⟨6,.data⟩ (by simp) rfl (aF (by decide)) _ rfl;have n8:¬ D 8:=fun h=>hnd (hc 8 _ h rfl ⟨7,.data⟩ (by simp) rfl);have n9:¬ D 9:=fun h=>n8 (hc 9 _ h rfl ⟨8,.chain⟩ (by simp) rfl);have hb:=hF.2.1 n8;have hl:=gZ FR x [((gH,4,c,d,c2,d2,(V,0,0),(V,0,0)):mU)] 1 rfl (by simp) (jP (gH,4,c,d,c2,d2,(V,0,0),(V,0,0))).toArray (by simp [flat,EU]);have nb:=fO x (au (jP (gH,4,c,d,c2,d2,(V,0,0),(V,0,0))).toArray 58);exact aG rfl rfl (bP a.eval _ 44 1 #[(0,Z 56)] rfl (ps:=#[(0,yS (gH,4,c,d,c2,d2,(V,0,0),(V,0,0)))]) (by simp [e56]) (by simp [go_sem])) (hK (J (X ⟨x.heap.size,0,V⟩) 1 1) (x.alloc (au (jP (gH,4,c,d,c2,d2,(V,0,0),(V,0,0))).toArray 58)) (dG hl hb.size) ⟨⟨hF.1.1.on nb,hF.1.2.1.on nb,hF.1.2.2.on nb⟩,fun _=>hb.trans (nb.mono hb.size),fun _=>(hb.trans (nb.mono hb.size)).mono FW.out,fun h=>absurd (h.resolve_left (by decide)) n9⟩ fun j u hj dj nl nx ni h=>by
    rcases (by omega:j=0\/j=1\/j=2\/j=3\/j=4\/j=5\/j=6\/j=7\/j=8\/j=9\/j=10) with rfl|rfl|rfl|rfl|rfl|rfl|rfl|rfl|rfl|rfl|rfl
    ·exact h
    ·exact h
    ·exact h
    ·exact h
    ·exact h
    ·exact h
    ·exact h
    ·exact absurd rfl ni
    ·exact absurd dj n8
    ·exact h
    ·exact absurd (hc 10 _ dj rfl ⟨8,.data⟩ (by simp) rfl) n8)
  ·cases ho;have e51:a.eval (Z 51)=rv:=seen.at_ ⟨1,.data⟩ (by simp) rfl (aF (by decide)) _ rfl;have o57:iZ x W.heap.size (a.eval (Z 57)) [(gH,4,c,d,c2,d2,(V,0,0),(V,0,0))]:=seen.at_ ⟨7,.data⟩ (by simp) rfl (bH rfl) _ rfl;have hb:=hF.2.1 hnd;have n9:¬ D 9:=fun h=>hnd (hc 9 _ h rfl ⟨8,.chain⟩ (by simp) rfl);have n10:¬ D 10:=fun h=>hnd (hc 10 _ h rfl ⟨8,.data⟩ (by simp) rfl);obtain⟨v',x',r,o',gr⟩:=fT FR F0 (Bk.dx HO.out hb) (Row.dw o57) HL.out (by simp) (aj FW.out hb.size) 44;obtain⟨sa,sc,hsv⟩:=(Row.dw o').len;have hb2:Below F0 W x':=(hb.mono FW.out).grown gr (aj FW.out hb.size) fun j hj=>((Bk.dx HO.out hb).lt j hj).1;have vv:dV W.heap.size F0 (aK #[O U me,J o1 n1 k1,J o2 n2 k2,J o3 n3 k3,J o4 n4 k4,J o5 n5 k5]) rv gH c d c2 d2 lo 8 v' x':=⟨(sa,(lo++[(gH,4,c,d,c2,d2,(V,0,0),(V,0,0))]).length,sc),hsv,o'⟩;have ff:dF W F0 b4 b5 b6 b8 #[O U me,J o1 n1 k1,J o2 n2 k2,J o3 n3 k3,J o4 n4 k4,J o5 n5 k5] c d c2 d2 (fun j=>j=8\/D j) x':=⟨⟨uN H4.out hb2 L4.out,uN H5.out hb2 L5.out,uN H6.out hb2 L6.out⟩,fun h=>absurd (bH rfl) h,fun _=>hb2,fun h=>absurd (h.resolve_left (by decide)) n9⟩;have st:∀ j u,j<11->D j->(fun i=>if i=7 then 8 else 11) j≠8->j≠8->dV W.heap.size F0 (aK #[O U me,J o1 n1 k1,J o2 n2 k2,J o3 n3 k3,J o4 n4 k4,J o5 n5 k5]) rv gH c d c2 d2 lo j u x->dV W.heap.size F0 (aK #[O U me,J o1 n1 k1,J o2 n2 k2,J o3 n3 k3,J o4 n4 k4,J o5 n5 k5]) rv gH c d c2 d2 lo j u x':=fun j u hj dj nx ni h=>by
    rcases (by omega:j=0\/j=1\/j=2\/j=3\/j=4\/j=5\/j=6\/j=7\/j=8\/j=9\/j=10) with rfl|rfl|rfl|rfl|rfl|rfl|rfl|rfl|rfl|rfl|rfl
    ·exact h
    ·exact h
    ·exact h
    ·exact h
    ·exact h
    ·exact h
    ·exact h
    ·exact absurd rfl nx
    ·exact absurd rfl ni
    ·exact h
    ·exact absurd dj n10
   have q:=hK v' x' vv ff fun j u hj dj _ nx ni h=>st j u hj dj nx ni h;exact aG rfl rfl (bM a.eval _ (Z 51) (Z 57) 44 rfl e51 rfl r) q
  ·cases ho;have e50:a.eval (Z 50)=aK #[O U me,J o1 n1 k1,J o2 n2 k2,J o3 n3 k3,J o4 n4 k4,J o5 n5 k5]:=seen.at_ ⟨0,.data⟩ (by simp) rfl (aF (by decide)) _ rfl;have e8:a.eval (Z 8)=Y (X ⟨b8,0,V⟩):=seen.kp 8 _ (nd 8 (by decide)) rfl;obtain⟨sl,h58,o58⟩:∃ sl:Sl,a.eval (Z 58)=dP sl/\iZ x F0 (a.eval (Z 58)) (lo++[(gH,4,c,d,c2,d2,(V,0,0),(V,0,0))]):=seen.at_ ⟨8,.chain⟩ (by simp) rfl (aF (by decide)) _ rfl;have hb:=hF.2.2.1 hnd;have H8x:=uN H8.out hb L8.out;have s4:=dD x b8 (O U me) (J o1 n1 k1) (J o2 n2 k2) (J o3 n3 k3) (J o4 n4 k4) (J o5 n5 k5);have d8:D 8:=hD ⟨8,.chain⟩ (by simp) rfl;have n10:¬ D 10:=fun h=>hnd (hc 10 _ h rfl ⟨9,.chain⟩ (by simp) rfl);have hx:=dJ H8x (O U me) (J o1 n1 k1) (J o2 n2 k2) (J o3 n3 k3) (J o4 n4 k4) (J o5 n5 k5);have hy:∀ B,B<=b8->Below B W (gN x b8 (O U me) (J o1 n1 k1) (J o2 n2 k2) (J o3 n3 k3) (J o4 n4 k4) (J o5 n5 k5)):=fun B hB=>dB (hb.mono (bI (aW hB L8.out))) hB _ _ _ _ _ _;have hs:=sF H8x me o1 o2 o3 o4 o5 n1 k1 n2 k2 n3 k3 n4 k4 n5 k5;have so:∀ v l,iZ x F0 v l->iZ (gN x b8 (O U me) (J o1 n1 k1) (J o2 n2 k2) (J o3 n3 k3) (J o4 n4 k4) (J o5 n5 k5)) F0 v l:=fun v l h=>fE h b8 L8.out _ _ _ _ _ _;generalize gN x b8 (O U me) (J o1 n1 k1) (J o2 n2 k2) (J o3 n3 k3) (J o4 n4 k4) (J o5 n5 k5)=x2 at *;have ff:dF W F0 b4 b5 b6 b8 #[O U me,J o1 n1 k1,J o2 n2 k2,J o3 n3 k3,J o4 n4 k4,J o5 n5 k5] c d c2 d2 (fun j=>j=9\/D j) x2:=⟨⟨(s4 b4 N4.out).trans hF.1.1,(s4 b5 N5.out).trans hF.1.2.1,(s4 b6 N6.out).trans hF.1.2.2⟩,fun h=>absurd (aF d8) h,fun h=>absurd (bH rfl) h,fun _=>⟨hx,fun j hj hne=>(s4 j hne).trans (hb.block j hj),hy⟩⟩;have st:∀ j u,j<11->D j->¬ D ((fun i=>if i=7 then 8 else 11) j)->j≠9->dV W.heap.size F0 (aK #[O U me,J o1 n1 k1,J o2 n2 k2,J o3 n3 k3,J o4 n4 k4,J o5 n5 k5]) rv gH c d c2 d2 lo j u x->dV W.heap.size F0 (aK #[O U me,J o1 n1 k1,J o2 n2 k2,J o3 n3 k3,J o4 n4 k4,J o5 n5 k5]) rv gH c d c2 d2 lo j u x2:=fun j u hj dj nl ni h=>by
    rcases (by omega:j=0\/j=1\/j=2\/j=3\/j=4\/j=5\/j=6\/j=7\/j=8\/j=9\/j=10) with rfl|rfl|rfl|rfl|rfl|rfl|rfl|rfl|rfl|rfl|rfl
    ·exact h
    ·exact h
    ·exact h
    ·exact h
    ·exact h
    ·exact h
    ·exact h
    ·exact absurd d8 nl
    ·obtain⟨s,h1,h2⟩:=h;exact⟨s,h1,so _ _ h2⟩
    ·exact h
    ·exact absurd dj n10
   have q:=hK (bG true) x2 trivial ff fun j u hj dj nl _ ni h=>st j u hj dj nl ni h;have q2:K a x2:=q;exact Rg.fI 33 (Z 8) (Z 50) rfl rfl rfl rfl e8 e50 hs q2
  ·cases ho;obtain⟨sl,h58,o58⟩:∃ sl:Sl,a.eval (Z 58)=dP sl/\iZ x F0 (a.eval (Z 58)) (lo++[(gH,4,c,d,c2,d2,(V,0,0),(V,0,0))]):=seen.at_ ⟨8,.data⟩ (by simp) rfl (aF (by decide)) _ rfl;exact aG rfl rfl (bQ a.eval _ (Z 58) rfl x) (hK _ _ ⟨sl,h58,o58⟩ (still 10 (by decide) (by decide)) fun _ _ _ _ _ _ _ h=>h)
 ·intro a x df sz kp ⟨vs,hv⟩ ⟨D,hall,hF⟩;obtain⟨sl,h1,h2⟩:=(hv 10 (by omega)).2 (by decide);have g9:a.tmps[9]?=X (dP sl):=by
   rw [<- h1];exact (hv 10 (by omega)).1 9 rfl
  obtain⟨e1,e2,e3⟩:=hF.2.2.2 (hall 9 (by omega));rw [h1] at h2;exact HQ.out a x sl df ((kp 8 (nd 8 (by decide))).trans rfl) g9 e1 h2 e2 e3
theorem Ci {W W':ay} {k:Nat} {me:Int} {s1 s2 s3 s4 s5:Sl} {v:aA} {l:List iF} {m:List En} (h1:kC W v l) (h2:eu (je W) l m) (hb:dI W k (iX me s1 s2 s3 s4 s5) 33) (hk:∀ j,j<W.heap.size->j≠k->W'.heap[j]?=W.heap[j]?):kC W' v l/\eu (je W') l m :=
 ⟨gK nR h1 hk (jV hb (fun _=>⟨_,_,rfl,rfl⟩) (lg me s1 s2 s3 s4 s5)),h2.mono fun _ _ hx=>⟨hx.1,hx.2.1,hx.2.2.1,hx.2.2.2.1,gK Ba hx.2.2.2.2 hk (ny hb (nA me s1 s2 s3 s4 s5))⟩⟩
theorem iP {W W':ay} {k:Nat} {me:Int} {s1 s2 s3 s4 s5:Sl} {s:Sl} {m:List Ou} (h:kP W s m) (hb:dI W k (iX me s1 s2 s3 s4 s5) 33) (hk:∀ j,j<W.heap.size->j≠k->W'.heap[j]?=W.heap[j]?):kP W' s m:=by
 obtain⟨xs,h1,h2⟩:=h;exact⟨xs,gK FR h1 hk (jV hb (fun c=>⟨_,_,rfl,rfl⟩) (lg me s1 s2 s3 s4 s5)),h2.mono fun x a hx=>⟨hx.1,hx.2.1,hx.2.2.1,hx.2.2.2.1,gK Ba hx.2.2.2.2.1 hk (ny hb (nA me s1 s2 s3 s4 s5)),hx.2.2.2.2.2⟩⟩
theorem iU (b:Br) (t x:Id) (f:Int):(jL b t x f).1=(takeB b t x f).1:=by
 unfold jL
 split
 ·rfl
 ·split <;> rfl
theorem Wn {W:ay} {l:List iF} {m:List En} (t:Int) (h:eu (je W) l m):eu (rP W) (l.map (Jv t)) (m.map (AJ t)):=by
 induction h with
 | nil=>exact .nil
 | cons x _ ih=>exact .cons (aaO x t) ih
theorem Cj (b:Br) (nv av sv ev ov:Sl) (x s:Id) (f:Int) (w:ay) (h:iA w b nv av sv ev ov) (l2:b.dM.length<=900) (l3:b.ent.length<=900) (hok:∀ e∈b.ent,dQ e.p) (hkn:∀ e∈b.ent,e.tree∈b.dM.map Ad.id) :
  Calls aC 59 #[nT b.me nv av sv ev ov,lV x,lV s,O U f] w fun e w'=>(∃ ev' lo:Sl,e=.returned (.tuple #[nT b.me nv av sv ev' ov,dP lo])/\iA w' (jL b x s f).1 nv av sv ev' ov/\kP w' lo (jL b x s f).2)/\Below w.heap.size w w':=by
 obtain⟨no,nn,nc⟩:=nv;obtain⟨ao,an,ac⟩:=av;obtain⟨so,sn,sc⟩:=sv;obtain⟨eo,en,ec⟩:=ev;obtain⟨oo,dL,oc⟩:=ov;obtain⟨c,d⟩:=x;obtain⟨c2,d2⟩:=s;have TK:=L (fun W hb'=>NH b (no,nn,nc) (ao,an,ac) (so,sn,sc) (eo,en,ec) (oo,dL,oc) (c,d) (c2,d2) f W (h.on (show Below w.heap.size w W from hb')) l3 hok);have vF:=L h.near;have L2:=L l2;have L3:=L l3;have KN:=L hkn;obtain⟨h0,h1,h2,h3,h4⟩:=FY w #[O U b.me,J no nn nc,J ao an ac,J so sn sc,J eo en ec,J oo dL oc] #[O U c,O U d] #[O U c2,O U d2] #[O U 0,J V 0 0,J V 0 0,J V 0 0,J V 0 0,J V 0 0] 33 38 38 33;obtain⟨me,hme⟩:∃ me,me=b.me:=⟨_,rfl⟩;simp only [<- hme] at h0 h1 h2 h3 h4 TK ⊢;have gD:=L (h0);have wo:=L (h1);have kM:=L (h2);have lC:=L (h3);have Az:=L (h4);clear h0 h1 h2 h3 h4 h l2 l3 hme hok hkn;go_enter Tryz.func59,Tryz.ntmps59;go_upto_region 1 with fail;generalize ((((w.alloc (au #[O U me,J no nn nc,J ao an ac,J so sn sc,J eo en ec,J oo dL oc] 33)).alloc (au #[O U c,O U d] 38)).alloc (au #[O U c2,O U d2] 38)).alloc (au #[O U 0,J V 0 0,J V 0 0,J V 0 0,J V 0 0,J V 0 0] 33))=W at *;have SW:=L (TK.out W gD.out);clear TK;obtain⟨x0,x1,x2,x3,x4,x5⟩:=wo.out.eZ;obtain⟨y0,y1⟩:=kM.out.cs2;obtain⟨z0,z1⟩:=lC.out.cs2;go_wp2_with fail;refine SW.out.mono ?_;rintro e1 w1 ⟨⟨⟨ea,gU,gV⟩,⟨la,ln,lc⟩,rfl,hbr,xs,hrow,hall⟩,hb⟩;clear SW;clear x0 x1 x2 x3 x4 x5 y0 y1 z0 z1;obtain⟨fb,Jy⟩:∃ r,(takeB b (c,d) (c2,d2) f).2.2=r:=⟨_,rfl⟩;have LB:=L Jy;rw [Jy];obtain⟨qa,qc,hq⟩:=hrow.len;obtain rfl:ln=xs.length:=by simpa using congrArg (fun v=>match v with|Value.slice _ n _=>n|_=>0) hq
 obtain⟨ln,hln⟩:∃ n,n=xs.length:=⟨_,rfl⟩;simp only [<- hln] at hrow ⊢;have LN:=L hln.symm;clear hln hq;have iQ:=L (gD.out.trans (hb.mono gD.out.size));have nC:=L (wo.out.on hb);have Rf:=L (kM.out.on hb);have DV:=L (lC.out.on hb);have NS:=L (Az.out.on hb);clear gD wo kM lC Az;obtain⟨k0,k1,k2,k3,k4,k5⟩:=nC.out.eZ;obtain⟨pQ,pR,pU,pV,pW,pX⟩:=nC.out.ku;have zz:=nC.out.lt;have FB:=L (dJ nC.out (O U me) (J no nn nc) (J ao an ac) (J so sn sc) (J ea gU gV) (J oo dL oc));have B2:=L (dB (b:=w.heap.size) iQ.out (aN _) (O U me) (J no nn nc) (J ao an ac) (J so sn sc) (J ea gU gV) (J oo dL oc));have F5:=L (show dI _ _ _ _ from (dD w1 w.heap.size (O U me) (J no nn nc) (J ao an ac) (J so sn sc) (J ea gU gV) (J oo dL oc) (w.heap.size+1) (by omega)).trans Rf.out);have F6:=L (show dI _ _ _ _ from (dD w1 w.heap.size (O U me) (J no nn nc) (J ao an ac) (J so sn sc) (J ea gU gV) (J oo dL oc) (w.heap.size+1+1) (by omega)).trans DV.out);have F8:=L (show dI _ _ _ _ from (dD w1 w.heap.size (O U me) (J no nn nc) (J ao an ac) (J so sn sc) (J ea gU gV) (J oo dL oc) (w.heap.size+1+1+1) (by omega)).trans NS.out);have HB:=L (eX (s1:=(no,nn,nc)) (s2:=(ao,an,ac)) (s3:=(so,sn,sc)) (s4:=(eo,en,ec)) (s5:=(oo,dL,oc)) hbr nC.out (fun j _ hj=>dD w1 w.heap.size (O U me) (J no nn nc) (J ao an ac) (J so sn sc) (J ea gU gV) (J oo dL oc) j hj) (by rw [(jo b (c,d) (c2,d2) f).2.1]; exact vF.out.on B2.out));have HX:=L (Ci (s1:=(no,nn,nc)) (s2:=(ao,an,ac)) (s3:=(so,sn,sc)) (s4:=(eo,en,ec)) (s5:=(oo,dL,oc)) hrow hall nC.out (fun j _ hj=>dD w1 w.heap.size (O U me) (J no nn nc) (J ao an ac) (J so sn sc) (J ea gU gV) (J oo dL oc) j hj));clear Jy hbr hb hrow hall iQ nC Rf DV NS;go_upto_region 2 with fail;clear zz k0 k1 k2 k3 k4 k5 pQ pR pU pV pW pX;unfold gN at FB B2 F5 F6 F8 HB HX;generalize ((((((w1.setCell ⟨w.heap.size,0,V⟩ (O U me)).setCell ⟨w.heap.size,1,V⟩ (J no nn nc)).setCell ⟨w.heap.size,2,V⟩ (J ao an ac)).setCell ⟨w.heap.size,3,V⟩ (J so sn sc)).setCell ⟨w.heap.size,4,V⟩ (J ea gU gV)).setCell ⟨w.heap.size,5,V⟩ (J oo dL oc))=w2 at *;have lD:=L (B2.out);have uf:=L (FB.out);have Wo:=L (F5.out);have Gg:=L (F6.out);have yY:=L (F8.out);clear B2 FB F5 F6 F8;cases fb
 ·have x0:=uf.out.cell 0;have x1:=uf.out.cell 1;have x2:=uf.out.cell 2;have x3:=uf.out.cell 3;have x4:=uf.out.cell 4;have x5:=uf.out.cell 5;simp only [aB,aI,aJ] at x0 x1 x2 x3 x4 x5;obtain⟨r0,r1,r2,r3,r4,r5⟩:=yY.out.eZ;obtain⟨Bw,Bz,BD,BJ,BM,BP⟩:=yY.out.ku;have zz:=yY.out.lt;have GG:=L (dJ yY.out (O U me) (J no nn nc) (J ao an ac) (J so sn sc) (J ea gU gV) (J oo dL oc));have BL:=L (dB (b:=w.heap.size+1+1+1) lD.out (by omega) (O U me) (J no nn nc) (J ao an ac) (J so sn sc) (J ea gU gV) (J oo dL oc));have HC:=L (eX (s1:=(V,0,0)) (s2:=(V,0,0)) (s3:=(V,0,0)) (s4:=(V,0,0)) (s5:=(V,0,0)) HB.out yY.out (fun j _ hj=>dD w2 (w.heap.size+1+1+1) (O U me) (J no nn nc) (J ao an ac) (J so sn sc) (J ea gU gV) (J oo dL oc) j hj) (by rw [(jo b (c,d) (c2,d2) f).2.1]; exact vF.out.on BL.out));clear HB HX;go_wp2_with fail;obtain⟨v0,v1,v2,v3,v4,v5⟩:=GG.out.eZ;refine aQ (v:=.tuple #[aK #[O U me,J no nn nc,J ao an ac,J so sn sc,J ea gU gV,J oo dL oc],J V 0 0]) (by simp [results,bg,go_sem,v0,v1,v2,v3,v4,v5]) rfl ?_;have hd:jL b (c,d) (c2,d2) f=((takeB b (c,d) (c2,d2) f).1,[]):=by unfold jL; rw [if_pos LB.out]
  rw [hd];exact⟨⟨(ea,gU,gV),(V,0,0),rfl,HC.out,pO _⟩,BL.out⟩
 ·obtain⟨e0,he0,ht0⟩:=Jw LB.out;have hmem:(c,d)∈b.dM.map Ad.id:=ht0 ▸ KN.out e0 he0;obtain⟨k,hk1,hk2⟩:=Bv _ _ hmem;rw [aM] at hk2;obtain⟨a,hak⟩:∃ a,b.dM[k]?=X a:=by
   cases h:b.dM[k]? with
   | none=>rw [h] at hk2; cases hk2
   | some a=>exact⟨a,rfl⟩
  have DB:=L (show jL b (c,d) (c2,d2) f=((takeB b (c,d) (c2,d2) f).1,(takeB b (c,d) (c2,d2) f).2.1.map (AJ a.par)++[⟨a.par,4,(c,d),(c2,d2),[]⟩]) from by
   unfold jL;rw [if_neg (by rw [LB.out]; simp),hk1,Int.toNat_natCast,hak])
  clear hk2 hmem he0 ht0 e0;obtain⟨ad,xB,uO⟩:=HB.out.dM;rw [(jo b (c,d) (c2,d2) f).1] at uO;obtain⟨z,hz1,hz2⟩:=uO.at k a hak;have FD:=su me (J no nn nc) (J ea gU gV) (J so sn sc) (J oo dL oc) (ao,an,ac) ad (c,d);rw [yC uO,hk1] at FD;obtain⟨q1,q2,hq⟩:=xB.len;obtain⟨rfl,rfl,rfl⟩:ao=q1/\an=ad.length/\ac=q2:=by
   have:J ao an ac=J q1 ad.length q2:=hq;simpa using this
  obtain⟨p,ix,px⟩:=Vu xB rfl rfl hz1;obtain⟨p0,p1,p2,p3⟩:=px w2 (ah _ _);obtain⟨z1,z2,⟨z3,z4,z5⟩,z6⟩:=z;simp only at p0 p1 p2 p3;obtain rfl:z6=a.par:=hz2.2.1;have CE:=L (fun d os=>Calls.regrown_of (d:=d) (os:=os) (FD _ (xB.on (bF w2 d os))));obtain⟨an,han⟩:∃ n,n=ad.length:=⟨_,rfl⟩;clear FD hq px p0 p1 p2;have q3:=aD p3;simp only [<- han] at ix CE uf HB;have HAN:=L han;clear han hz2 hak hk1 uO xB hz1 p3;have a0:=aD (show w2.cell? ⟨w.heap.size,0,V⟩=X (O U me) from uf.out.cell 0);have a1:=aD (show w2.cell? ⟨w.heap.size,1,V⟩=X (J no nn nc) from uf.out.cell 1);have a2:=aD (show w2.cell? ⟨w.heap.size,2,V⟩=X (J ao an ac) from uf.out.cell 2);have a3:=aD (show w2.cell? ⟨w.heap.size,3,V⟩=X (J so sn sc) from uf.out.cell 3);have a4:=aD (show w2.cell? ⟨w.heap.size,4,V⟩=X (J ea gU gV) from uf.out.cell 4);have a5:=aD (show w2.cell? ⟨w.heap.size,5,V⟩=X (J oo dL oc) from uf.out.cell 5);have b0:=aD (show w2.cell? ⟨w.heap.size+1,0,V⟩=X (O U c) from Wo.out.cell 0);have b1:=aD (show w2.cell? ⟨w.heap.size+1,1,V⟩=X (O U d) from Wo.out.cell 1);go_upto_region 4 with fail;refine wp_region_quiet_below (by kernel_rfl) (by kernel_rfl) ?_
  repeat (go_big_quiet_step (first | (with_reducible exact CE.out _ _)))
  refine wpQuiet_nil ?_;intro _ hw';obtain⟨⟨dq,osq⟩,hw''⟩:=hw';subst hw'';have Z6:=bF w2 dq osq;have HB2:=L (HB.out.on Z6);have HX2:=L (show kC _ _ _/\eu (je _) _ _ from ⟨HX.out.1.on Z6,HX.out.2.mono fun _ _ h=>h.on Z6⟩);have Ck:=L (lD.out.trans (Z6.mono lD.out.size));have XT:=L (uf.out.on Z6);have XV:=L (Wo.out.on Z6);have XW:=L (Gg.out.on Z6);have oI:=L (yY.out.on Z6);clear lD uf Wo Gg yY;clear Z6 HB HX CE ix q3 a0 a1 a2 a3 a4 a5 b0 b1;generalize grow (redrawn w2 dq) osq=w3 at *;generalize a.par=gH at *;go_wp2_with fail
  go_loopw [13,38] (fun v i wr=>∃ k:Nat,k<=ln/\i=O U k/\Below w3.heap.size w3 wr/\iZ wr w3.heap.size v ((xs.take k).map (Jv gH))) (fun _ i _=>ln-(intOf i).toNat)
  case atStart=>exact⟨0,bf _,rfl,ah _ _,gy _ _⟩
  case round =>
   obtain⟨k,hk,rfl,hbe,hown⟩:=hrel;have BE:=L hbe;have OE:=L hown;clear hbe hown;have L9:=L (show ln<=900 from by have h1:=HX2.out.2.len; rw [LN.out] at h1; rw [h1]; exact aj (sI b (c,d) (c2,d2) f).2 L3.out);have l9:=L9.out;by_cases hlt:k<ln
   ·have hlt':(k:Int)<(ln:Int):=by omega
    have hw:IntKind.i64.wrap ((k:Int)+1)=(k:Int)+1:=IntWalk.i64_in _ (by omega);obtain⟨y,hy⟩:∃ y,xs[k]?=X y:=⟨_,ak (by rw [LN.out]; exact hlt)⟩;obtain⟨p,ix,px⟩:=Px HX2.out.1 rfl LN.out hy;obtain⟨p0,p1,p2,p3,p4,p5,p6⟩:=px wr BE.out;have TKY:=L (show (xs.take (k+1)).map (Jv gH)=(xs.take k).map (Jv gH)++[Jv gH y] from by rw [aZ,hy]; simp);obtain⟨y1,y2,y3,y4,⟨yo,yn,yc⟩,y6,y7⟩:=y;simp only at p0 p1 p2 p3 p4 p5 p6;clear px hy;go_upto_region 9 with fail;clear p0 p1 p2 p3 p4 p5 p6 ix;have NN:=fO wr (au #[O U y1,O U y2,O U y3,O U y4,J yo yn yc,O U y6,bG y7] 68);have XE:=dK wr #[O U y1,O U y2,O U y3,O U y4,J yo yn yc,O U y6,bG y7] 68;have Rh:=L (BE.out.trans (NN.mono BE.out.size));have Nh:=L (Bk.dx OE.out NN);clear BE OE NN;generalize wr.alloc (au #[O U y1,O U y2,O U y3,O U y4,J yo yn yc,O U y6,bG y7] 68)=wa at *;obtain⟨c0_,c1_,c2_,c3_,c4_,c5_,c6_⟩:=XE.oq;have SB:=xX (y1,y2,y3,y4,(yo,yn,yc),y6,y7) wa;go_wp2_with fail;refine SB.mono ?_;rintro e3 wb ⟨rfl,hb⟩;clear SB XE c0_ c1_ c2_ c3_ c4_ c5_ c6_;have BE3:=L (Rh.out.trans (hb.mono Rh.out.size));have OE3:=L (Bk.dx Nh.out hb);clear hb Rh Nh;have hl:=gZ FR wb [((gH,3,y1,y2,y3,y4,(yo,yn,yc),(V,0,0)):mU)] 1 rfl (by simp) #[O U gH,O U 3,O U y1,O U y2,O U y3,O U y4,J yo yn yc,J V 0 0] (by rfl);have NB:=fO wb (au #[O U gH,O U 3,O U y1,O U y2,O U y3,O U y4,J yo yn yc,J V 0 0] 58);obtain⟨v',x5,q2,o2,g2⟩:=fT FR w3.heap.size (Bk.dx OE3.out NB) (Row.dw hl) (by rw [aS,aO]; omega) (by simp) (aj BE3.out.size NB.size) 44;have q2:(Builtin.append_ #[44,44] 44 #[u13,J (X ⟨wb.heap.size,0,V⟩) 1 1]).run aC (wb.alloc (au #[O U gH,O U 3,O U y1,O U y2,O U y3,O U y4,J yo yn yc,J V 0 0] 58))=.ok v' x5:=q2;have BX:=L ((BE3.out.trans (NB.mono BE3.out.size)).grown g2 (aj BE3.out.size NB.size) (fun j hj=>((Bk.dx OE3.out NB).lt j hj).1));have O2:=L o2;clear hl NB o2 g2;go_wp2_with (first | (at_builtin; refine wpList_append_run rfl _ _ 44 rfl rfl rfl q2 ?_) | fail)
    go_roundw
    case rel=>exact⟨k+1,hlt,by go_num,BX.out,by rw [TKY.out]; exact O2.out⟩
    case measure=>simp [intOf]; omega
   ·obtain rfl:k=ln:=by omega
    have ht:xs.take k=xs:=aR (by rw [LN.out]; exact aN _);rw [ht] at OE;clear ht;go_upto_region 11 with fail;refine Rc _ wr w3.heap.size w.heap.size (w.heap.size+1) (w.heap.size+1+1) (w.heap.size+1+1+1) me gH c d c2 d2 no ao so ea oo nn nc an ac sn sc gU gV dL oc u13 (xs.map (Jv gH)) _ _ _ _ _ _ _ _ _ _ _ _ _ _ _ _ _ _ _ _ _ _ _ _ _ _ _ _ _ _ _ _ _ _ _ _ _ _ _ _ _ _ _ _ _ _ _ _ _ _ _ _ _ _ _ _ _ _ _ (XT.out.on BE.out) (XV.out.on BE.out) (XW.out.on BE.out) (oI.out.on BE.out) XT.out.lt XV.out.lt XW.out.lt oI.out.lt (by omega) (by omega) (by omega) BE.out.size OE.out (by rw [aS,LN.out]; omega) ?_;intro a9 x9 sl FU h69 h79 hbx ho hblk hbl;have BL:=L (show Below w.heap.size w x9 from (Ck.out.trans (BE.out.mono Ck.out.size)).trans (hbl w.heap.size (by omega)));have HK:=L (show ∀ j,j<w3.heap.size->j≠w.heap.size+1+1+1->x9.heap[j]?=w3.heap[j]? from fun j hj hne=>(hblk j hj hne).trans (BE.out.block j hj));have HC:=L (eX (s1:=(V,0,0)) (s2:=(V,0,0)) (s3:=(V,0,0)) (s4:=(V,0,0)) (s5:=(V,0,0)) HB2.out oI.out HK.out (by rw [(jo b (c,d) (c2,d2) f).2.1]; exact vF.out.on BL.out));have HX3:=L (Ci (s1:=(V,0,0)) (s2:=(V,0,0)) (s3:=(V,0,0)) (s4:=(V,0,0)) (s5:=(V,0,0)) HX2.out.1 HX2.out.2 oI.out HK.out);have HU:=L (Row.dw ho);obtain⟨v0,v1,v2,v3,v4,v5⟩:=hbx.eZ;clear hbx ho hblk hbl HB2 HX2 BE OE;simp only [Exit.then]
    apply_assumption
    go_wp2_with fail;refine aQ (v:=.tuple #[aK #[O U me,J no nn nc,J ao an ac,J so sn sc,J ea gU gV,J oo dL oc],dP sl]) (by simp [results,bg,go_sem,h69,h79,v0,v1,v2,v3,v4,v5]) FU ?_;have h9:=HAN.out;subst h9;rw [DB.out];exact⟨⟨(ea,gU,gV),sl,rfl,HC.out,_,HU.out,(Wn gH HX3.out.2).append (.cons ⟨rfl,rfl,rfl,rfl,jg _,rfl⟩ .nil)⟩,BL.out⟩
theorem uP {α:Type} {E:Ek α} (K:E.Ok) {w:ay} (B:Nat) {v x:aA} {l m:List α} (hown:Own E w B v l) (hx:Row E w x m) (hn:l.length<=1000000) (hm:m.length<=1000000) (hB:B<=w.heap.size) (ty:TypeId) :
  ∃ v' w',(Builtin.append_ #[E.ts,E.ts] ty #[v,x]).run aC w=.ok v' w'/\Own E w' B v' (l++m)/\w.grownBy w' v.ownBlock:=by
 obtain⟨i,i1,i2,i3,i4⟩:=K.info;rcases hx with⟨rfl,rfl⟩|⟨ad,c,rfl,h2,h3,h4⟩
 ·exact⟨v,w,run_append_owned_none (P:=aC) (w:=w) B E.ts ty E.t i E.n K.hu i1 v _ _ hown,by simpa using hown,qG _ _⟩
 ·have hf:=K.few;obtain⟨v',w',r1,r2,r3,_⟩:=run_append_own (P:=aC) w B E.ts ty E.t i E.z E.n E.bytes K.hu i1 i2 i3 i4 K.zs K.pos v _ _ hown ad m.length c (flat E m) (dX K m) h4 (pG K m) (by unfold maxLen; omega)
   (aj (bn (show l.length+m.length<=2000000 by omega) hf) (by decide)) hB
  exact⟨v',w',r1,by rw [Own,aH,gG]; exact r2,r3⟩
def DW (B:Nat) (_ _:Nat) (me:Int) (o1 o2 o3 o4 o5:Option aX) (n1 k1 n2 k2 n3 k3 n4 k4 n5 k5:Nat) (so gH:Option aX) (sn sc tn tc:Nat) (lo ls:List mU) (_ _ _ _ _ _:aA) (i:Nat) (v:aA) (x:ay):Prop :=
 match i with
 | 0=>v=aK #[O U me,J o1 n1 k1,J o2 n2 k2,J o3 n3 k3,J o4 n4 k4,J o5 n5 k5]
 | 1=>iZ x B v []
 | 2=>v=J so sn sc
 | 3=>iZ x B v lo
 | 4=>v=J gH tn tc
 | 5=>iZ x B v (lo++ls)
 | _=>True
noncomputable def Ri:Code:=((Tryz.f28.body.bind (eD 16)).getD .skip)
theorem NU (B:Nat) (b2 b12:Nat) (me:Int) (o1 o2 o3 o4 o5:Option aX) (n1 k1 n2 k2 n3 k3 n4 k4 n5 k5:Nat) (so gH:Option aX) (sn sc tn tc:Nat) (lo ls:List mU) (z0 z1 z2 z3 z4 z5:aA) (i:Nat) (v:aA) (x x':ay) (h:DW B b2 b12 me o1 o2 o3 o4 o5 n1 k1 n2 k2 n3 k3 n4 k4 n5 k5 so gH sn sc tn tc lo ls z0 z1 z2 z3 z4 z5 i v x) (hb:Below x.heap.size x x'):DW B b2 b12 me o1 o2 o3 o4 o5 n1 k1 n2 k2 n3 k3 n4 k4 n5 k5 so gH sn sc tn tc lo ls z0 z1 z2 z3 z4 z5 i v x':=by
 by_cases hi:i<6
 ·rcases (by omega:i=0\/i=1\/i=2\/i=3\/i=4\/i=5) with rfl|rfl|rfl|rfl|rfl|rfl
  ·exact h
  ·exact dx h hb
  ·exact h
  ·exact dx h hb
  ·exact h
  ·exact dx h hb
 ·unfold DW
  split <;> first | omega | trivial
theorem acF (Q:Exit->Act->ay->Prop) (W:ay) (b2 b12:Nat) (me:Int) (o1 o2 o3 o4 o5:Option aX) (n1 k1 n2 k2 n3 k3 n4 k4 n5 k5:Nat) (so gH:Option aX) (sn sc tn tc:Nat) (lo ls:List mU) (z0 z1 z2 z3 z4 z5:aA) (u0 u1 u3 u4 u5 u6 u7 u8 u10 u11 u14 u15 u16 u17 u18 u19 u20 u21 u22 u23 u24 u25 u26 u27 u28 u29 u30 u31 u32 u33 u34 u35 u36 u37 u38 u39 u40 u41 u42 u43 u44 u45 u46 u47 u48 u49 u50 u51 u52 u53 u54 u55 u56 u57 u58 u59 u60 u61 u62:aA)
  (h2:dI W b2 #[z0,z1,z2,z3,z4,z5] 33) (h12:dI W b12 #[O U me,J o1 n1 k1,J o2 n2 k2,J o3 n3 k3,J o4 n4 k4,J o5 n5 k5] 33) (uw:DN W (J so sn sc) lo) (rls:DN W (J gH tn tc) ls) (l9:lo.length<=1000000) (s9:ls.length<=1000000)
  (hQ:∀ (x:ay) (w9:aA) (v54 v55 v56 v57 v58 v59:aA),dI x b2 #[O U me,J o1 n1 k1,J o2 n2 k2,J o3 n3 k3,J o4 n4 k4,J o5 n5 k5] 33->iZ x W.heap.size w9 (lo++ls)->(∀ j,j<W.heap.size->j≠b2->x.heap[j]?=W.heap[j]?)->(∀ B,B<=b2->Below B W x)->Q .normal ⟨(u0::u1::Y (X ⟨b2,0,V⟩)::u3::u4::u5::u6::u7::u8::w9::u10::u11::Y (X ⟨b12,0,V⟩)::J gH tn tc::u14::u15::u16::u17::u18::u19::u20::u21::u22::u23::u24::u25::u26::u27::u28::u29::u30::u31::u32::u33::u34::u35::u36::u37::u38::u39::u40::u41::u42::u43::u44::u45::u46::u47::u48::u49::u50::u51::u52::u53::v54::v55::v56::v57::v58::v59::u60::u61::u62::[]).toArray,[]⟩ x) :
  Code.wp aC Ri Q ⟨(u0::u1::Y (X ⟨b2,0,V⟩)::u3::u4::u5::u6::u7::u8::J so sn sc::u10::u11::Y (X ⟨b12,0,V⟩)::J gH tn tc::u14::u15::u16::u17::u18::u19::u20::u21::u22::u23::u24::u25::u26::u27::u28::u29::u30::u31::u32::u33::u34::u35::u36::u37::u38::u39::u40::u41::u42::u43::u44::u45::u46::u47::u48::u49::u50::u51::u52::u53::u54::u55::u56::u57::u58::u59::u60::u61::u62::[]).toArray,[]⟩ W:=by
 have HQ:=L hQ;have H2:=L h2;have H12:=L h12;have RLO:=L uw;have RLS:=L rls;have LO:=L l9;have LS:=L s9;clear hQ h2 h12 uw rls l9 s9;have iM:=NU W.heap.size b2 b12 me o1 o2 o3 o4 o5 n1 k1 n2 k2 n3 k3 n4 k4 n5 k5 so gH sn sc tn tc lo ls z0 z1 z2 z3 z4 z5;unfold Ri
 conv=>arg 2; whnf
 have nd:∀ j,(∀ i,i<6->[54,55,56,57,58,59].getD i 0≠j)->∀ i,i<6->(fun i=>[54,55,56,57,58,59].getD i 0) i≠j:=fun j h=>h;refine Rg.fH 8 6 (fun i=>[54,55,56,57,58,59].getD i 0) (fun i=>if i=1 then 3 else if i=3 then 5 else 6) (DW W.heap.size b2 b12 me o1 o2 o3 o4 o5 n1 k1 n2 k2 n3 k3 n4 k4 n5 k5 so gH sn sc tn tc lo ls z0 z1 z2 z3 z4 z5) (by kernel_rfl) (by kernel_rfl) rfl (by decide) (fun i j hi hj h=>(by decide:∀ i,i<6->∀ j,j<6->[54,55,56,57,58,59].getD i 0=[54,55,56,57,58,59].getD j 0->i=j) i hi j hj h) (fun i hi=>(by decide:∀ i,i<6->[54,55,56,57,58,59].getD i 0<63) i hi) ?_ (fun _=>Rg.iY 14 (by kernel_rfl)) ?_ ?_
 ·intro i o hi ho a x D hnd hc hD hb seen K hK;clear HQ;rcases (by omega:i=0\/i=1\/i=2\/i=3\/i=4\/i=5) with rfl|rfl|rfl|rfl|rfl|rfl
  ·cases ho;have e12:a.eval (Z 12)=Y (X ⟨b12,0,V⟩):=seen.kp 12 _ (nd 12 (by decide)) rfl;obtain⟨y0,y1,y2,y3,y4,y5⟩:=(H12.out.on hb).eZ;exact aG rfl rfl (bJ a.eval _ 33 (Z 12) rfl (by rw [e12]; simp [go_sem,y0,y1,y2,y3,y4,y5])) (hK _ _ rfl (ah _ _) fun _ _ _ _ _ _ _ h=>h)
  ·cases ho;have nb:=fO x (au #[] 58);have hl:=mH (B':=W.heap.size) hb.size (EP (E:=EU) x);exact aG rfl rfl (bP a.eval _ 44 0 #[] rfl rfl (by simp [go_sem])) (hK (J (X ⟨x.heap.size,0,V⟩) 0 0) (x.alloc (au #[] 58)) hl (nb.mono hb.size) fun j u _ _ _ _ _ h=>iM j u _ _ h nb)
  ·cases ho;have e9:a.eval (Z 9)=J so sn sc:=seen.kp 9 _ (nd 9 (by decide)) rfl;exact aG rfl rfl (bL a.eval _ (Z 9) rfl x) (hK _ _ e9 (ah _ _) fun _ _ _ _ _ _ _ h=>h)
  ·cases ho;have E55:=seen.at_ ⟨1,.data⟩ (by simp) rfl (bH rfl);have e56:a.eval (Z 56)=J so sn sc:=seen.at_ ⟨2,.data⟩ (by simp) rfl (aF (by decide));have o55:iZ x W.heap.size (a.eval (Z 55)) []:=E55;obtain⟨v',x',r,o',gr⟩:=uP FR W.heap.size o55 (RLO.out.on hb) (by simp) LO.out hb.size 44;have o'':iZ x' W.heap.size v' lo:=by simpa using o'
   exact aG rfl rfl (bM a.eval _ (Z 55) (Z 56) 44 rfl rfl e56 r) (hK v' x' o'' ((ah _ x).grown gr hb.size fun j hj=>(o55.lt j hj).1) fun j u hj dj nl nx ni h=>by
    rcases (by omega:j=0\/j=1\/j=2\/j=3\/j=4\/j=5) with rfl|rfl|rfl|rfl|rfl|rfl
    ·exact h
    ·exact absurd rfl nx
    ·exact h
    ·exact absurd rfl ni
    ·exact h
    ·exact absurd (hc 5 _ dj rfl ⟨3,.data⟩ (by simp) rfl) hnd)
  ·cases ho;have e13:a.eval (Z 13)=J gH tn tc:=seen.kp 13 _ (nd 13 (by decide)) rfl;exact aG rfl rfl (bL a.eval _ (Z 13) rfl x) (hK _ _ e13 (ah _ _) fun _ _ _ _ _ _ _ h=>h)
  ·cases ho;have E57:=seen.at_ ⟨3,.data⟩ (by simp) rfl (bH rfl);have e58:a.eval (Z 58)=J gH tn tc:=seen.at_ ⟨4,.data⟩ (by simp) rfl (aF (by decide));have o57:iZ x W.heap.size (a.eval (Z 57)) lo:=E57;obtain⟨v',x',r,o',gr⟩:=uP FR W.heap.size o57 (RLS.out.on hb) LO.out LS.out hb.size 44;have d3:D 3:=hD ⟨3,.data⟩ (by simp) rfl;exact aG rfl rfl (bM a.eval _ (Z 57) (Z 58) 44 rfl rfl e58 r) (hK v' x' o' ((ah _ x).grown gr hb.size fun j hj=>(o57.lt j hj).1) fun j u hj dj nl nx ni h=>by
    rcases (by omega:j=0\/j=1\/j=2\/j=3\/j=4\/j=5) with rfl|rfl|rfl|rfl|rfl|rfl
    ·exact h
    ·exact absurd d3 nl
    ·exact h
    ·exact absurd rfl nx
    ·exact h
    ·exact absurd rfl ni)
 ·intro kk o h1 h2 ho;rcases (by omega:kk=7) with rfl
  ·cases ho;exact⟨⟨6,.chain⟩,by simp,rfl,rfl⟩
 ·intro a w' df sz kp ⟨vs,hv⟩ hb;have sz':a.tmps.size=63:=sz;have g2:a.tmps[2]?=X (Y (X ⟨b2,0,V⟩)):=(kp 2 (nd 2 (by decide))).trans rfl;have g54:a.tmps[54]?=X (aK #[O U me,J o1 n1 k1,J o2 n2 k2,J o3 n3 k3,J o4 n4 k4,J o5 n5 k5]):=by
   have h:vs 0=aK #[O U me,J o1 n1 k1,J o2 n2 k2,J o3 n3 k3,J o4 n4 k4,J o5 n5 k5]:=(hv 0 (by omega)).2 (by decide);rw [<- h];exact (hv 0 (by omega)).1
  have g59:a.tmps[59]?=X (vs 5):=(hv 5 (by omega)).1;have G59:=(hv 5 (by omega)).2 (by decide);have o59:iZ w' W.heap.size (vs 5) (lo++ls):=G59;generalize vs 5=v' at *;have H2x:=H2.out.on hb;have lt2:=H2.out.lt;show bN _ _ _ 2 6 a w';simp only [bN];refine Rg.fI 33 (Z 2) (Z 54) rfl rfl rfl rfl (bK g2) (bK g54) (w':=gN w' b2 (O U me) (J o1 n1 k1) (J o2 n2 k2) (J o3 n3 k3) (J o4 n4 k4) (J o5 n5 k5)) (sF H2x me _ _ _ _ _ _ _ _ _ _ _ _ _ _ _) ?_;refine aG rfl rfl (bQ a.eval _ (Z 59) rfl _) ?_;show Q .normal (a.put (X 9) (a.eval (Z 59))) _;rw [bK g59];have hx:=dJ H2x (O U me) (J o1 n1 k1) (J o2 n2 k2) (J o3 n3 k3) (J o4 n4 k4) (J o5 n5 k5);have ho:=fE o59 b2 lt2 (O U me) (J o1 n1 k1) (J o2 n2 k2) (J o3 n3 k3) (J o4 n4 k4) (J o5 n5 k5);have hk:∀ j,j<W.heap.size->j≠b2->(gN w' b2 (O U me) (J o1 n1 k1) (J o2 n2 k2) (J o3 n3 k3) (J o4 n4 k4) (J o5 n5 k5)).heap[j]?=W.heap[j]?:=fun j hj hne=>(dD w' b2 (O U me) (J o1 n1 k1) (J o2 n2 k2) (J o3 n3 k3) (J o4 n4 k4) (J o5 n5 k5) j hne).trans (hb.block j hj);have hbl:∀ B,B<=b2->Below B W (gN w' b2 (O U me) (J o1 n1 k1) (J o2 n2 k2) (J o3 n3 k3) (J o4 n4 k4) (J o5 n5 k5)):=fun B hB=>dB (hb.mono (bI (aW hB lt2))) hB _ _ _ _ _ _;obtain⟨sa,iB,hsv⟩:=(Row.dw ho).len;generalize gN w' b2 (O U me) (J o1 n1 k1) (J o2 n2 k2) (J o3 n3 k3) (J o4 n4 k4) (J o5 n5 k5)=x2 at *;have ka:∀ j,j≠9->(a.put (X 9) v').tmps[j]?=a.tmps[j]?:=fun j h1=>by rw [bC _ _ _ _ (by omega)]
  have kt:(a.put (X 9) v').tmps[9]?=X (v'):=by simp [aU,sz']
  have q8:∀ j,(j<54\/60<=j)->(a.put (X 9) v').tmps[j]?=(u0::u1::Y (X ⟨b2,0,V⟩)::u3::u4::u5::u6::u7::u8::v'::u10::u11::Y (X ⟨b12,0,V⟩)::J gH tn tc::u14::u15::u16::u17::u18::u19::u20::u21::u22::u23::u24::u25::u26::u27::u28::u29::u30::u31::u32::u33::u34::u35::u36::u37::u38::u39::u40::u41::u42::u43::u44::u45::u46::u47::u48::u49::u50::u51::u52::u53::u54::u55::u56::u57::u58::u59::u60::u61::u62::[])[j]?:=fun j hj=>by
   by_cases hj2:j=9
   ·subst hj2;exact kt
   ·have hs:(u0::u1::Y (X ⟨b2,0,V⟩)::u3::u4::u5::u6::u7::u8::v'::u10::u11::Y (X ⟨b12,0,V⟩)::J gH tn tc::u14::u15::u16::u17::u18::u19::u20::u21::u22::u23::u24::u25::u26::u27::u28::u29::u30::u31::u32::u33::u34::u35::u36::u37::u38::u39::u40::u41::u42::u43::u44::u45::u46::u47::u48::u49::u50::u51::u52::u53::u54::u55::u56::u57::u58::u59::u60::u61::u62::[]:List aA)=(u0::u1::Y (X ⟨b2,0,V⟩)::u3::u4::u5::u6::u7::u8::J so sn sc::u10::u11::Y (X ⟨b12,0,V⟩)::J gH tn tc::u14::u15::u16::u17::u18::u19::u20::u21::u22::u23::u24::u25::u26::u27::u28::u29::u30::u31::u32::u33::u34::u35::u36::u37::u38::u39::u40::u41::u42::u43::u44::u45::u46::u47::u48::u49::u50::u51::u52::u53::u54::u55::u56::u57::u58::u59::u60::u61::u62::[]).set 9 (v'):=rfl;rw [hs,aT (Ne.symm hj2)];exact (ka j hj2).trans ((kp j (nd j fun i hi h=>by have:=(by decide:∀ i,i<6->54<=[54,55,56,57,58,59].getD i 0/\[54,55,56,57,58,59].getD i 0<60) i hi; omega)).trans aB)
  obtain⟨mid,hmid,hfr⟩:=Rg.fU (a:=a.put (X 9) v') 54 6 (by simp [aU,df]) (by simp [aU,sz']) (by simp) q8;rw [hfr]
  match mid,hmid with
  | [v54,v55,v56,v57,v58,v59],_ =>
   exact HQ.out x2 _ _ _ _ _ _ _ hx ho hk hbl
theorem Cm {b:Br} (t x:Id) (f:Int) (R:En->Prop) (hR:∀ e,e.tree=t->R e->R (Vw e)) (h:∀ e∈b.ent,R e):(∀ e∈(takeB b t x f).1.ent,R e)/\∀ e∈(takeB b t x f).2.1,R e:=by
 unfold takeB
 split
 ·exact⟨h,fun e he=>by simp at he⟩
 ·split
  ·exact⟨h,fun e he=>by simp at he⟩
  ·split
   ·exact⟨h,fun e he=>by simp at he⟩
   ·split
    ·exact⟨fun e he=>h e (qN he),fun e he=>by simp at he⟩
    ·exact wm R hR (fun e he=>h e (qN he)) _
theorem Co (b:Br) (t x:Id) (f:Int):(jL b t x f).2.length<=b.ent.length+1:=by
 unfold jL;have h:=(sI b t x f).2
 split
 ·simp
 ·split
  ·simp
  ·rw [aH,aS];simp;omega
def Cq (x:Id) (s:Br×List Ou) (t:Id):Br×List Ou:=((jL s.1 t x (-1)).1,s.2++(jL s.1 t x (-1)).2)
def ug (b:Br) (x:Id):List Ow:=b.own.filter fun o=>decide (o.id≠x)
def jq (b:Br) (x:Id) (k:Nat):Br×List Ou:=((b.dM.map Ad.id).take k).foldl (Cq x) ({ b with own:=ug b x },[])
def iE (b:Br) (x:Id):Br×List Ou:=if (ug b x).length=b.own.length then (b,[]) else jq b x b.dM.length
theorem kU (b:Br) (x:Id) {k:Nat} {a:Ad} (h:b.dM[k]?=X a):jq b x (k+1)=Cq x (jq b x k) a.id:=by
 unfold jq;rw [aZ,aM,h,List.foldl_append]
 rfl
structure UnI (b0 b:Br) (o:List Ow):Prop where
 me:b.me=b0.me
 near:b.near=b0.near
 dM:b.dM=b0.dM
 seen:b.seen=b0.seen
 own:b.own=o
 len:b.ent.length<=b0.ent.length
theorem UnI.drop {b0 b:Br} {o:List Ow} (h:UnI b0 b o) (t x:Id) (f:Int):UnI b0 (jL b t x f).1 o:=by
 rw [iU];obtain⟨h1,h2,h3,h4,h5⟩:=jo b t x f;exact⟨h3.trans h.me,h2.trans h.near,h1.trans h.dM,h4.trans h.seen,h5.trans h.own,aj (sI b t x f).1 h.len⟩
theorem pY (b:Br) (x:Id):∀ k,k<=b.dM.length->UnI b (jq b x k).1 (ug b x)/\(jq b x k).2.length<=k * (b.ent.length+1)
 | 0,_=>⟨⟨rfl,rfl,rfl,rfl,rfl,aN _⟩,by simp [jq]⟩
 | k+1,hk=>by
  obtain⟨a,ha⟩:∃ a,b.dM[k]?=X a:=⟨_,ak hk⟩;obtain⟨h1,h2⟩:=pY b x k (by omega);rw [kU b x ha];refine⟨h1.drop _ _ _,?_⟩;show ((jq b x k).2++(jL (jq b x k).1 a.id x (-1)).2).length<=_;have h3:=Co (jq b x k).1 a.id x (-1);have h4:=h1.len;rw [aH,Nat.add_mul];omega
theorem qO (b:Br) (x:Id) (R:En->Prop) (hR:∀ e,R e->R (Vw e)) (h:∀ e∈b.ent,R e):∀ k,k<=b.dM.length->∀ e∈(jq b x k).1.ent,R e
 | 0,_=>h
 | k+1,hk=>by
  obtain⟨a,ha⟩:∃ a,b.dM[k]?=X a:=⟨_,ak hk⟩;rw [kU b x ha];show ∀ e∈(jL _ _ _ _).1.ent,R e;rw [iU];exact (Cm _ _ _ R (fun e _=>hR e) (qO b x R hR h k (by omega))).1
theorem yZ {W W':ay} {k:Nat} {me:Int} {s1 s2 s3 s4 s5:Sl} {l:List mU} {m:List Ou} (h:eu (rP W) l m) (hb:dI W k (iX me s1 s2 s3 s4 s5) 33) (hk:∀ j,j<W.heap.size->j≠k->W'.heap[j]?=W.heap[j]?):eu (rP W') l m :=
 h.mono fun _ _ hx=>⟨hx.1,hx.2.1,hx.2.2.1,hx.2.2.2.1,gK Ba hx.2.2.2.2.1 hk (ny hb (nA me s1 s2 s3 s4 s5)),hx.2.2.2.2.2⟩
def keepW (x:Id) (o:qK):Bool:=decide ((o.1,o.2.1)≠x)
theorem Gh (b:Br) (nv av sv ev ov:Sl) (x:Id) (w:ay) (h:iA w b nv av sv ev ov) (l2:b.dM.length<=900) (l3:b.ent.length<=900) (l4:b.own.length<=900) (hok:∀ e∈b.ent,dQ e.p) (hkn:∀ e∈b.ent,e.tree∈b.dM.map Ad.id) :
  Calls aC 28 #[nT b.me nv av sv ev ov,lV x] w fun e w'=>(∃ ev' XY lo:Sl,e=.returned (.tuple #[nT b.me nv av sv ev' XY,dP lo])/\iA w' (iE b x).1 nv av sv ev' XY/\kP w' lo (iE b x).2)/\Below w.heap.size w w':=by
 obtain⟨no,nn,nc⟩:=nv;obtain⟨ao,an,ac⟩:=av;obtain⟨so,sn,sc⟩:=sv;obtain⟨eo,en,ec⟩:=ev;obtain⟨oo,dL,oc⟩:=ov;obtain⟨c,d⟩:=x;obtain⟨ws,hw1,hw2⟩:=h.own;obtain⟨q1,q2,hq⟩:=hw1.len;obtain⟨rfl,rfl,rfl⟩:oo=q1/\dL=ws.length/\oc=q2:=by
  have:J oo dL oc=J q1 ws.length q2:=hq;simpa using this
 have HH:=L h;have L2:=L l2;have L3:=L l3;have WL:=L (show ws.length<=900 from by rw [hw2.len]; exact l4);have HW2:=L hw2;have OK:=L hok;have KN:=L hkn;obtain⟨dL,hon⟩:∃ n,n=ws.length:=⟨_,rfl⟩;simp only [<- hon] at HH hw1 ⊢;have N5:=L hon;obtain⟨h0,h1,h2,h3⟩:=gM w #[O U b.me,J no nn nc,J ao an ac,J so sn sc,J eo en ec,J oo dL oc] #[O U c,O U d] #[O U 0,J V 0 0,J V 0 0,J V 0 0,J V 0 0,J V 0 0] 33 38 33;obtain⟨me,hme⟩:∃ me,me=b.me:=⟨_,rfl⟩;simp only [<- hme] at h0 h1 h2 h3 ⊢;have gD:=L (h0);have aaP:=L (h1);have Wp:=L (h2);have aaQ:=L (h3);have Jz:=L (hw1.on h0);have ME:=L hme;clear h0 h1 h2 h3 h l2 l3 l4 hme hok hkn hw1 hw2 hq hon;show Calls aC 28 #[aK #[O U me,J no nn nc,J ao an ac,J so sn sc,J eo en ec,J oo dL oc],aK #[O U c,O U d]] w _;go_enter Tryz.func28,Tryz.ntmps28;go_upto_region 1 with fail;generalize (((w.alloc (au #[O U me,J no nn nc,J ao an ac,J so sn sc,J eo en ec,J oo dL oc] 33)).alloc (au #[O U c,O U d] 38)).alloc (au #[O U 0,J V 0 0,J V 0 0,J V 0 0,J V 0 0,J V 0 0] 33))=W at *;have W4:=L (show w.heap.size+3<=W.heap.size from by have:=aaQ.out.lt; omega);obtain⟨x0,x1,x2,x3,x4,x5⟩:=aaP.out.eZ;go_wp2_with fail;clear x0 x1 x2 x3 x4 x5
 go_loopw [6,17] (fun v i wr=>∃ q:Nat,q<=dL/\i=O U q/\Below W.heap.size W wr/\pI wr W.heap.size v ((ws.take q).filter (keepW (c,d)))) (fun _ i _=>dL-(intOf i).toNat)
 case atStart=>exact⟨0,bf _,rfl,ah _ _,gy _ _⟩
 case round =>
  obtain⟨q,hq,rfl,hbe,hown⟩:=hrel;have BE:=L hbe;have OE:=L hown;clear hbe hown;have l9:dL<=900:=by rw [N5.out]; exact WL.out
  by_cases hlt:q<dL
  ·have hlt':(q:Int)<(dL:Int):=by omega
   have hw:IntKind.i64.wrap ((q:Int)+1)=(q:Int)+1:=IntWalk.i64_in _ (by omega);obtain⟨z,hz⟩:∃ z,ws[q]?=X z:=⟨_,ak (by rw [<- N5.out]; exact hlt)⟩;obtain⟨p,ix,px⟩:=elW Jz.out rfl N5.out.symm hz;obtain⟨p0,p1,p2⟩:=px wr BE.out;have FS:=L (yE ws q z (keepW (c,d)) hz);obtain⟨y1,y2,⟨yo,yn,yc⟩⟩:=z;simp only at p0 p1 p2;clear px hz;go_upto_region 5 with fail;clear p0 p1 p2 ix;have NN:=fO wr (au #[O U y1,O U y2,J yo yn yc] 61);have XE:=L (dK wr #[O U y1,O U y2,J yo yn yc] 61);have Rh:=L (BE.out.trans (NN.mono BE.out.size));have Nh:=L (dx OE.out NN);clear BE OE NN;generalize wr.alloc (au #[O U y1,O U y2,J yo yn yc] 61)=wa at *;obtain⟨e0_,e1_,e2_⟩:=XE.out.cs3;have y0:=(Wp.out.on Rh.out).cell 0;have y1_:=(Wp.out.on Rh.out).cell 1;simp only [aB,aI,aJ] at y0 y1_;obtain⟨r,hr⟩:∃ r,(!(y1 == c && y2 == d))=r:=⟨_,rfl⟩;have he:=VL y1 y2 c d r hr;have KW:=L (show keepW (c,d) (y1,y2,(yo,yn,yc))=r by
    rw [<- hr];unfold keepW;by_cases h1:y1=c <;> by_cases h2:y2=d <;> simp [h1,h2])
   clear hr;cases r
   ·go_wp2_with fail
    go_roundw
    case rel=>exact⟨q+1,hlt,by go_num,Rh.out,by rw [FS.out,KW.out]; simpa using Nh.out⟩
    case measure=>simp [intOf]; omega
   ·have hl:=gZ okW wa [((y1,y2,(yo,yn,yc)):qK)] 1 rfl (by simp) #[O U y1,O U y2,J yo yn yc] (by rfl);have NB:=fO wa (au #[O U y1,O U y2,J yo yn yc] 61);obtain⟨v',x5,q2,o2,g2⟩:=fT okW W.heap.size (dx Nh.out NB) (Row.dw hl) (by have h1:=List.length_filter_le (keepW (c,d)) (ws.take q); rw [aO] at h1; omega) (by simp) (aj Rh.out.size NB.size) 31;have q2:(Builtin.append_ #[31,31] 31 #[u6,J (X ⟨wa.heap.size,0,V⟩) 1 1]).run aC (wa.alloc (au #[O U y1,O U y2,J yo yn yc] 61))=.ok v' x5:=q2;have BX:=L ((Rh.out.trans (NB.mono Rh.out.size)).grown g2 (aj Rh.out.size NB.size) (fun j hj=>((dx Nh.out NB).lt j hj).1));have O2:=L o2;clear hl NB o2 g2;go_wp2_with (first | (at_builtin; refine wpList_append_run rfl _ _ 31 rfl rfl rfl q2 ?_) | fail)
    go_roundw
    case rel=>exact⟨q+1,hlt,by go_num,BX.out,by rw [FS.out,KW.out]; simpa using O2.out⟩
    case measure=>simp [intOf]; omega
  ·obtain rfl:dL=q:=by omega
   have et:ws.take dL=ws:=aR (by have:=N5.out; omega);rw [et] at OE;clear et;have FI:=L (show eu (Dr w) (ws.filter (keepW (c,d))) (ug b (c,d)) from HW2.out.fil _ _ fun a b h=>by unfold keepW; rw [h.1]);generalize ws.filter (keepW (c,d))=ls at *;obtain⟨la,lc,hlv⟩:=(Row.dw OE.out).len;obtain⟨ln,hln⟩:∃ n,n=ls.length:=⟨_,rfl⟩;rw [<- hln] at hlv;subst hlv;have LN:=L hln;clear hln;have LE:=L (show (ug b (c,d)).length=ln from by rw [LN.out,FI.out.len]);have LO:=L (show b.own.length=dL from by rw [<- HW2.out.len,N5.out]);have iQ:=L (gD.out.trans (BE.out.mono gD.out.size));have Rj:=L (aaP.out.on BE.out);have rA:=L (Wp.out.on BE.out);have nC:=L (aaQ.out.on BE.out);have DX:=L (Jz.out.on BE.out);clear gD aaP Wp aaQ Jz;obtain⟨x0,x1,x2,x3,x4,x5⟩:=Rj.out.eZ;by_cases hll:ln=dL
   ·have hq1:((ln:Int) == (dL:Int))=true:=by simp [hll]
    have HI:=L (HH.out.on iQ.out);obtain⟨r0,r1,r2,r3,r4,r5⟩:=nC.out.eZ;obtain⟨Bw,Bz,BD,BJ,BM,BP⟩:=nC.out.ku;have zz:=nC.out.lt;have GG:=L (dJ nC.out (O U me) (J no nn nc) (J ao an ac) (J so sn sc) (J eo en ec) (J oo dL oc));have BL:=L (dB (b:=w.heap.size+1+1) iQ.out (by omega) (O U me) (J no nn nc) (J ao an ac) (J so sn sc) (J eo en ec) (J oo dL oc));have HK:=L (fun j (_:j<wr.heap.size) (hj:j≠w.heap.size+1+1)=>dD wr (w.heap.size+1+1) (O U me) (J no nn nc) (J ao an ac) (J so sn sc) (J eo en ec) (J oo dL oc) j hj);have HC:=L (eX (s1:=(V,0,0)) (s2:=(V,0,0)) (s3:=(V,0,0)) (s4:=(V,0,0)) (s5:=(V,0,0)) HI.out nC.out HK.out (HH.out.near.on BL.out));go_wp2_with fail;obtain⟨v0,v1,v2,v3,v4,v5⟩:=GG.out.eZ;refine aQ (v:=.tuple #[aK #[O U me,J no nn nc,J ao an ac,J so sn sc,J eo en ec,J oo dL oc],J V 0 0]) (by simp [results,bD,go_sem,v0,v1,v2,v3,v4,v5]) rfl ?_;have hd:iE b (c,d)=(b,[]):=by unfold iE; rw [if_pos (by rw [LE.out,LO.out]; exact hll)]
    rw [hd];exact⟨⟨(eo,en,ec),(oo,dL,oc),(V,0,0),rfl,HC.out,pO _⟩,BL.out⟩
   ·have hq1:((ln:Int) == (dL:Int))=false:=by simp; omega
    have DB:=L (show iE b (c,d)=jq b (c,d) b.dM.length from by unfold iE; rw [if_neg (by rw [LE.out,LO.out]; exact hll)]);have f5:=Rj.out.fr 5;have zz:=Rj.out.lt;go_upto_region 11 with fail;clear x0 x1 x2 x3 x4 x5;have B2:=L (iQ.out.setCell (p:=⟨w.heap.size,5,V⟩) (aN _) (J la ln lc));have X2b:=dO (k:=5) Rj.out (J la ln lc);simp only [List.setIfInBounds_toArray,List.set_cons_zero,List.set_cons_succ] at X2b;have X3b:dI _ _ _ _:=(aL wr ⟨w.heap.size,5,V⟩ (J la ln lc) _ (show w.heap.size+1≠w.heap.size by omega)).trans rA.out;have X4b:dI _ _ _ _:=(aL wr ⟨w.heap.size,5,V⟩ (J la ln lc) _ (show w.heap.size+1+1≠w.heap.size by omega)).trans nC.out;have OL:=L (dY OE.out w.heap.size 5 (J la ln lc) (by have:=W4.out; omega));have BS:=L (show iA _ { b with own:=ug b (c,d) } (no,nn,nc) (ao,an,ac) (so,sn,sc) (eo,en,ec) (la,ln,lc) from ⟨HH.out.near.on B2.out,(HH.out.on B2.out).dM,(HH.out.on B2.out).seen,(HH.out.on B2.out).ent,⟨ls,Row.dw OL.out,FI.out.mono fun _ _ h=>h.on B2.out⟩⟩);clear zz f5 OL OE BE iQ Rj rA nC DX;generalize wr.setCell ⟨w.heap.size,5,V⟩ (J la ln lc)=w2 at *;have lD:=L (B2.out);have aaR:=L (X2b);have oz:=L (X3b);have oK:=L (X4b);clear B2 X2b X3b X4b;obtain⟨ad0,ha1,ha2⟩:=BS.out.dM;obtain⟨q1,q2,hqv⟩:=ha1.len;obtain rfl:an=b.dM.length:=by have h1:(J ao an ac)=J q1 ad0.length q2:=hqv; have h2:an=ad0.length:=(by simpa using congrArg (fun v=>match v with|Value.slice _ n _=>n|_=>0) h1); rw [h2,ha2.len]
    clear hqv ha1 ha2;obtain⟨an,han⟩:∃ n,n=b.dM.length:=⟨_,rfl⟩;have AN:=L (show b.dM.length<=900 from L2.out);obtain⟨x0,x1,x2,x3,x4,x5⟩:=aaR.out.eZ;go_wp2_with fail;clear x0 x1 x2 x3 x4 x5
    go_loopw [9,42] (fun v i wr=>∃ (k:Nat) (ea:Option aX) (gU gV:Nat) (ta:Option aX) (tn tc:Nat),k<=b.dM.length/\i=O U k/\v=J ta tn tc/\Below w.heap.size w wr/\dI wr w.heap.size #[O U me,J no nn nc,J ao b.dM.length ac,J so sn sc,J ea gU gV,J la ln lc] 33/\dI wr (w.heap.size+1) #[O U c,O U d] 38/\dI wr (w.heap.size+1+1) #[O U 0,J V 0 0,J V 0 0,J V 0 0,J V 0 0,J V 0 0] 33/\iA wr (jq b (c,d) k).1 (no,nn,nc) (ao,b.dM.length,ac) (so,sn,sc) (ea,gU,gV) (la,ln,lc)/\kP wr (ta,tn,tc) (jq b (c,d) k).2) (fun _ i _=>b.dM.length-(intOf i).toNat)
    case atStart=>exact⟨0,eo,en,ec,V,0,0,bf _,rfl,rfl,lD.out,aaR.out,oz.out,oK.out,BS.out,pO _⟩
    case round =>
     clear BS lD aaR oz oK;obtain⟨k,ea,gU,gV,ta,tn,tc,hk,rfl,rfl,hgb,hx2,hx3,hx4,hbr,hou⟩:=hrel;have wV:=L (hgb);have Rk:=L (hx2);have XZ:=L (hx3);have wW:=L (hx4);have KJ:=L (hbr);have Rm:=L (hou);clear hgb hx2 hx3 hx4 hbr hou;have UK:=L (pY b (c,d) k hk);have l9:=AN.out;by_cases hlt:k<b.dM.length
     ·have hlt':(k:Int)<(b.dM.length:Int):=by omega
      have hw:IntKind.i64.wrap ((k:Int)+1)=(k:Int)+1:=IntWalk.i64_in _ (by omega);obtain⟨a,hak⟩:∃ a,b.dM[k]?=X a:=⟨_,ak hlt⟩;have US:=L (kU b (c,d) hak);have PK:=L (qO b (c,d) (fun e=>dQ e.p) (fun _ h=>h) OK.out k hk);have TKN:=L (qO b (c,d) (fun e=>e.tree∈b.dM.map Ad.id) (fun _ h=>h) KN.out k hk);obtain⟨ad,xB,uO⟩:=KJ.out.dM;rw [UK.out.1.dM] at uO;obtain⟨z,hz1,hz2⟩:=uO.at k a hak;obtain⟨p,ix,px⟩:=Vu xB rfl (by rw [uO.len]) hz1;obtain⟨p0,p1,p2,p3⟩:=px wr (ah _ _);obtain⟨z1,z2,⟨z3,z4,z5⟩,z6⟩:=z;simp only at p0 p1 p2 p3;have ZI:=L (show a.id=(z1,z2) from hz2.1.symm);clear px hz1 hz2 xB uO hak;go_upto_region 15 with fail;clear p0 p1 p2 p3 ix;have NN:=fO wr (au #[O U z1,O U z2,J z3 z4 z5,O U z6] 53);have y8:=L (wV.out.trans (NN.mono wV.out.size));have Rn:=L (Rk.out.on NN);have Ro:=L (XZ.out.on NN);have X0:=L (wW.out.on NN);have Rp:=L (KJ.out.on NN);have X6:=L (Rm.out.on NN);clear wV Rk XZ wW KJ Rm;clear NN;have JA:=L (dK wr #[O U z1,O U z2,J z3 z4 z5,O U z6] 53);generalize wr.alloc (au #[O U z1,O U z2,J z3 z4 z5,O U z6] 53)=wa at *;have DP:=L (Cj (jq b (c,d) k).1 (no,nn,nc) (ao,b.dM.length,ac) (so,sn,sc) (ea,gU,gV) (la,ln,lc) (z1,z2) (c,d) (-1) wa Rp.out (by rw [UK.out.1.dM]; exact AN.out) (aj UK.out.1.len L3.out) PK.out (by rw [UK.out.1.dM]; exact TKN.out));rw [UK.out.1.me,<- ME.out] at DP;obtain⟨x0,x1,x2,x3,x4,x5⟩:=Rn.out.eZ;obtain⟨y0,y1⟩:=Ro.out.cs2;obtain⟨zc0,zc1,zc2,zc3⟩:=JA.out.IK;rw [ZI.out] at US;have UK2:=L (pY b (c,d) (k+1) hlt);rw [US.out] at UK2;go_wp2_with fail;refine DP.out.mono ?_;rintro e1 w1 ⟨⟨⟨mV,qD,qE⟩,⟨ta2,tn2,tc2⟩,rfl,hbr,hou⟩,hb⟩;clear DP;clear x0 x1 x2 x3 x4 x5 y0 y1 zc0 zc1 zc2 zc3;have Gi:=L (y8.out.trans (hb.mono y8.out.size));have X7:=L (Rn.out.on hb);have X8:=L (Ro.out.on hb);have X9:=L (X0.out.on hb);have acG:=L (Rp.out.on hb);have Ya:=L (X6.out.on hb);have aaS:=L (JA.out.on hb);clear y8 Rn Ro X0 Rp X6 JA;have BR2:=L hbr;have OU2:=L hou;clear hb hbr hou acG aaS;go_upto_region 16 with fail;have BR3:=L (BR2.out.on (fO w1 (au #[O U me,J no nn nc,J ao b.dM.length ac,J so sn sc,J mV qD qE,J la ln lc] 33)));have OU3:=L (OU2.out.on (fO w1 (au #[O U me,J no nn nc,J ao b.dM.length ac,J so sn sc,J mV qD qE,J la ln lc] 33)));clear BR2 OU2;have NN:=fO w1 (au #[O U me,J no nn nc,J ao b.dM.length ac,J so sn sc,J mV qD qE,J la ln lc] 33);have acH:=L (Gi.out.trans (NN.mono Gi.out.size));have KO:=L (X7.out.on NN);have Yb:=L (X8.out.on NN);have Yc:=L (X9.out.on NN);have acI:=L (Ya.out.on NN);clear Gi X7 X8 X9 Ya;clear NN;have aaT:=L (dK w1 #[O U me,J no nn nc,J ao b.dM.length ac,J so sn sc,J mV qD qE,J la ln lc] 33);generalize w1.alloc (au #[O U me,J no nn nc,J ao b.dM.length ac,J so sn sc,J mV qD qE,J la ln lc] 33)=wb at *;obtain⟨lo,hlo1,hlo2⟩:=acI.out;obtain⟨ls2,acJ,aaU⟩:=OU3.out;have LL:=UK.out.2;have LD:=Co (jq b (c,d) k).1 (z1,z2) (c,d) (-1);have LU:=UK.out.1.len;have l3:=L3.out;have LM:k * (b.ent.length+1)<=900 * 901:=bn (by omega) (by omega);refine acF _ wb w.heap.size w1.heap.size me no ao so mV la nn nc b.dM.length ac sn sc qD qE ln lc ta ta2 tn tc tn2 tc2 lo ls2 _ _ _ _ _ _ _ _ _ _ _ _ _ _ _ _ _ _ _ _ _ _ _ _ _ _ _ _ _ _ _ _ _ _ _ _ _ _ _ _ _ _ _ _ _ _ _ _ _ _ _ _ _ _ _ _ _ _ _ _ _ _ _ _ _ KO.out aaT.out hlo1 acJ (by rw [hlo2.len]; omega) (by rw [aaU.len]; omega) ?_;intro x w9 v54 v55 v56 v57 v58 v59 hbx hown hblk hbl;have GX:=L (acH.out.trans (hbl _ (aN _)));have Y2:=L hbx;have Y3:=L (show dI _ _ _ _ from (hblk _ Yb.out.lt (by omega)).trans Yb.out);have Y4:=L (show dI _ _ _ _ from (hblk _ Yc.out.lt (by omega)).trans Yc.out);have BRX:=L (eX (s1:=(no,nn,nc)) (s2:=(ao,b.dM.length,ac)) (s3:=(so,sn,sc)) (s4:=(ea,gU,gV)) (s5:=(la,ln,lc)) BR3.out KO.out hblk (by rw [show (jL (jq b (c,d) k).1 (z1,z2) (c,d) (-1)).1.near=b.near from UK2.out.1.near]; exact HH.out.near.on GX.out));have OA:=L ((yZ (s1:=(no,nn,nc)) (s2:=(ao,b.dM.length,ac)) (s3:=(so,sn,sc)) (s4:=(ea,gU,gV)) (s5:=(la,ln,lc)) hlo2 KO.out hblk).append (yZ (s1:=(no,nn,nc)) (s2:=(ao,b.dM.length,ac)) (s3:=(so,sn,sc)) (s4:=(ea,gU,gV)) (s5:=(la,ln,lc)) aaU KO.out hblk));obtain⟨ra,rc,hrv⟩:=(Row.dw hown).len;have RR:=L (Row.dw hown);rw [hrv] at RR;rw [hrv];clear hbx hown hblk hbl hlo1 hlo2 acJ aaU hrv BR3 OU3;go_wp2_with fail
      go_roundw
      case rel=>exact⟨k+1,mV,qD,qE,ra,_,rc,hlt,by go_num,rfl,GX.out,Y2.out,Y3.out,Y4.out,by rw [US.out]; exact BRX.out,by rw [US.out]; exact⟨_,RR.out,OA.out⟩⟩
      case measure=>simp [intOf]; omega
     ·obtain rfl:k=b.dM.length:=by omega
      obtain⟨x0,x1,x2,x3,x4,x5⟩:=Rk.out.eZ;obtain⟨r0,r1,r2,r3,r4,r5⟩:=wW.out.eZ;obtain⟨Bw,Bz,BD,BJ,BM,BP⟩:=wW.out.ku;have zz:=wW.out.lt;have GG:=L (dJ wW.out (O U me) (J no nn nc) (J ao b.dM.length ac) (J so sn sc) (J ea gU gV) (J la ln lc));have BL:=L (dB (b:=w.heap.size+1+1) wV.out (by omega) (O U me) (J no nn nc) (J ao b.dM.length ac) (J so sn sc) (J ea gU gV) (J la ln lc));have HK:=L (fun j (_:j<wr.heap.size) (hj:j≠w.heap.size+1+1)=>dD wr (w.heap.size+1+1) (O U me) (J no nn nc) (J ao b.dM.length ac) (J so sn sc) (J ea gU gV) (J la ln lc) j hj);have HC:=L (eX (s1:=(V,0,0)) (s2:=(V,0,0)) (s3:=(V,0,0)) (s4:=(V,0,0)) (s5:=(V,0,0)) KJ.out wW.out HK.out (by rw [UK.out.1.near]; exact HH.out.near.on BL.out));have HO:=L (iP (s1:=(V,0,0)) (s2:=(V,0,0)) (s3:=(V,0,0)) (s4:=(V,0,0)) (s5:=(V,0,0)) Rm.out wW.out HK.out);go_wp2_with fail;obtain⟨v0,v1,v2,v3,v4,v5⟩:=GG.out.eZ;refine aQ (v:=.tuple #[aK #[O U me,J no nn nc,J ao b.dM.length ac,J so sn sc,J ea gU gV,J la ln lc],J ta tn tc]) (by simp [results,bD,go_sem,v0,v1,v2,v3,v4,v5]) rfl ?_;rw [DB.out];exact⟨⟨(ea,gU,gV),(la,ln,lc),(ta,tn,tc),rfl,HC.out,HO.out⟩,BL.out⟩
def xY (B:Nat) (b11 _ _:Nat) (_ _ gH c d c2 d2 fr:Int) (up:Bool) (_ po:Option aX) (_ _ pn pc:Nat) (rv:aA) (_:List mU) (i:Nat) (v:aA) (x:ay):Prop :=
 match i with
 | 0=>v=rv
 | 1=>v=Y (X ⟨b11,3,V⟩)
 | 2=>v=O U gH
 | 3=>v=aK #[O U c,O U d,O U c2,O U d2,J po pn pc,O U fr,bG up]
 | 4=>v=aK #[O U 3,O U c,O U d,O U c2,O U d2,J po pn pc,J V 0 0]
 | 5=>v=yS (gH,3,c,d,c2,d2,(po,pn,pc),(V,0,0))
 | 6=>iZ x B v [(gH,3,c,d,c2,d2,(po,pn,pc),(V,0,0))]
 | _=>True
noncomputable def KP:Code:=((Tryz.f27.body.bind (eD 16)).getD .skip)
theorem JB (B:Nat) (b11 b12 F0:Nat) (z1 z2 gH c d c2 d2 fr:Int) (up:Bool) (z3 po:Option aX) (z4 z5 pn pc:Nat) (rv:aA) (lo:List mU) (i:Nat) (v:aA) (x x':ay) (h:xY B b11 b12 F0 z1 z2 gH c d c2 d2 fr up z3 po z4 z5 pn pc rv lo i v x) (hb:Below x.heap.size x x'):xY B b11 b12 F0 z1 z2 gH c d c2 d2 fr up z3 po z4 z5 pn pc rv lo i v x':=by
 by_cases hi:i<7
 ·rcases (by omega:i=0\/i=1\/i=2\/i=3\/i=4\/i=5\/i=6) with rfl|rfl|rfl|rfl|rfl|rfl|rfl
  ·exact h
  ·exact h
  ·exact h
  ·exact h
  ·exact h
  ·exact h
  ·exact dx h hb
 ·unfold xY
  split <;> first | omega | trivial
theorem Rq (Q:Exit->Act->ay->Prop) (W:ay) (b11 b12 F0:Nat) (z1 z2 gH c d c2 d2 fr:Int) (up:Bool) (z3 po:Option aX) (z4 z5 pn pc:Nat) (rv:aA) (lo:List mU) (u0 u1 u2 u3 u4 u5 u6 u7 u8 u10 u13 u14 u15 u16 u17 u18 u19 u20 u21 u22 u23 u24 u25 u26 u27 u28 u29 u30 u31 u32 u33 u34 u35 u36 u37 u38 u39 u40 u41 u42 u43 u44 u45 u46 u47 u48 u49 u50 u51 u52 u53 u54 u55 u56 u57 u58 u59 u60 u61 u62 u63 u64 u65 u66 u67 u68 u69 u70 u71 u72 u73 u74 u75 u76 u77 u78 u79 u80 u81 u82 u83 u84 u85 u86 u87 u88 u89 u90 u91 u92 u93 u94 u95 u96 u97 u98:aA)
  (h11:dI W b11 #[O U z1,O U z2,J z3 z4 z5,O U gH] 53) (h12:dI W b12 #[O U c,O U d,O U c2,O U d2,J po pn pc,O U fr,bG up] 68) (fw:F0<=W.heap.size) (ho:iZ W F0 rv lo) (hl:lo.length<=1000000)
  (hQ:∀ (x0 x:ay) (w9:aA) (v88 v89 v90 v91 v92 v93 v94 v95:aA),Below W.heap.size W x0->x0.grownBy x rv.ownBlock->iZ x F0 w9 (lo++[(gH,3,c,d,c2,d2,(po,pn,pc),(V,0,0))])->Q .normal ⟨(u0::u1::u2::u3::u4::u5::u6::u7::u8::w9::u10::Y (X ⟨b11,0,V⟩)::Y (X ⟨b12,0,V⟩)::u13::u14::u15::u16::u17::u18::u19::u20::u21::u22::u23::u24::u25::u26::u27::u28::u29::u30::u31::u32::u33::u34::u35::u36::u37::u38::u39::u40::u41::u42::u43::u44::u45::u46::u47::u48::u49::u50::u51::u52::u53::u54::u55::u56::u57::u58::u59::u60::u61::u62::u63::u64::u65::u66::u67::u68::u69::u70::u71::u72::u73::u74::u75::u76::u77::u78::u79::u80::u81::u82::u83::u84::u85::u86::u87::v88::v89::v90::v91::v92::v93::v94::v95::u96::u97::u98::[]).toArray,[]⟩ x) :
  Code.wp aC KP Q ⟨(u0::u1::u2::u3::u4::u5::u6::u7::u8::rv::u10::Y (X ⟨b11,0,V⟩)::Y (X ⟨b12,0,V⟩)::u13::u14::u15::u16::u17::u18::u19::u20::u21::u22::u23::u24::u25::u26::u27::u28::u29::u30::u31::u32::u33::u34::u35::u36::u37::u38::u39::u40::u41::u42::u43::u44::u45::u46::u47::u48::u49::u50::u51::u52::u53::u54::u55::u56::u57::u58::u59::u60::u61::u62::u63::u64::u65::u66::u67::u68::u69::u70::u71::u72::u73::u74::u75::u76::u77::u78::u79::u80::u81::u82::u83::u84::u85::u86::u87::u88::u89::u90::u91::u92::u93::u94::u95::u96::u97::u98::[]).toArray,[]⟩ W:=by
 have HQ:=L hQ;have H11:=L h11;have H12:=L h12;have FW:=L fw;have HO:=L ho;have HL:=L hl;clear hQ h11 h12 fw ho hl;have iM:=JB W.heap.size b11 b12 F0 z1 z2 gH c d c2 d2 fr up z3 po z4 z5 pn pc rv lo;unfold KP
 conv=>arg 2; whnf
 have nd:∀ j,(∀ i,i<7->[88,89,90,91,92,93,94].getD i 0≠j)->∀ i,i<7->(fun i=>[88,89,90,91,92,93,94].getD i 0) i≠j:=fun j h=>h;refine Rg.fH 9 7 (fun i=>[88,89,90,91,92,93,94].getD i 0) (fun _=>7) (xY W.heap.size b11 b12 F0 z1 z2 gH c d c2 d2 fr up z3 po z4 z5 pn pc rv lo) (by kernel_rfl) (by kernel_rfl) rfl (by decide) (fun i j hi hj h=>(by decide:∀ i,i<7->∀ j,j<7->[88,89,90,91,92,93,94].getD i 0=[88,89,90,91,92,93,94].getD j 0->i=j) i hi j hj h) (fun i hi=>(by decide:∀ i,i<7->[88,89,90,91,92,93,94].getD i 0<99) i hi) ?_ (fun _=>Rg.iY 14 (by kernel_rfl)) ?_ ?_
 ·intro i o hi ho a x D hnd hc hD hb seen K hK;clear HQ;rcases (by omega:i=0\/i=1\/i=2\/i=3\/i=4\/i=5\/i=6) with rfl|rfl|rfl|rfl|rfl|rfl|rfl
  ·cases ho;have e9:a.eval (Z 9)=rv:=seen.kp 9 _ (nd 9 (by decide)) rfl;exact aG rfl rfl (bL a.eval _ (Z 9) rfl x) (hK _ _ e9 (ah _ _) fun _ _ _ _ _ _ _ h=>h)
  ·cases ho;have e11:a.eval (Z 11)=Y (X ⟨b11,0,V⟩):=seen.kp 11 _ (nd 11 (by decide)) rfl;exact aG rfl rfl (Rg.dN a.eval _ 53 (Z 11) 2 rfl (by rw [e11]; simp [go_sem])) (hK _ _ rfl (ah _ _) fun _ _ _ _ _ _ _ h=>h)
  ·cases ho;have e89:a.eval (Z 89)=Y (X ⟨b11,3,V⟩):=seen.at_ ⟨1,.data⟩ (by simp) rfl (aF (by decide));have y3:=(H11.out.on hb).cell 3;simp only [aB,aI,aJ] at y3;exact aG rfl rfl (bJ a.eval _ 3 (Z 89) rfl (by rw [e89]; simp [go_sem,y3])) (hK _ _ rfl (ah _ _) fun _ _ _ _ _ _ _ h=>h)
  ·cases ho;have e12:a.eval (Z 12)=Y (X ⟨b12,0,V⟩):=seen.kp 12 _ (nd 12 (by decide)) rfl;obtain⟨y0,y1,y2,y3,y4,y5,y6⟩:=(H12.out.on hb).oq;exact aG rfl rfl (bJ a.eval _ 68 (Z 12) rfl (by rw [e12]; simp [go_sem,y0,y1,y2,y3,y4,y5,y6])) (hK _ _ rfl (ah _ _) fun _ _ _ _ _ _ _ h=>h)
  ·cases ho;have e91:a.eval (Z 91)=aK #[O U c,O U d,O U c2,O U d2,J po pn pc,O U fr,bG up]:=seen.at_ ⟨3,.data⟩ (by simp) rfl (aF (by decide));exact Rg.gI rfl rfl (iJ a.eval _ (Z 91) 68 58 rfl e91 rfl _ (fV Tryz.func58 rfl rfl _ _)) (xX (c,d,c2,d2,(po,pn,pc),fr,up) x) fun e w1 h=>by
    obtain⟨rfl,h3⟩:=h;exact⟨_,rfl,hK _ _ rfl (h3.mono hb.size) fun j u _ _ _ _ _ h=>iM j u _ _ h h3⟩
  ·cases ho;have e90:a.eval (Z 90)=O U gH:=seen.at_ ⟨2,.data⟩ (by simp) rfl (aF (by decide));have e92:a.eval (Z 92)=aK #[O U 3,O U c,O U d,O U c2,O U d2,J po pn pc,J V 0 0]:=seen.at_ ⟨4,.data⟩ (by simp) rfl (aF (by decide));exact aG rfl rfl (bO a.eval _ 58 #[(0,Z 90),(1,Z 92)] rfl (ps:=#[(0,O U gH),(1,aK #[O U 3,O U c,O U d,O U c2,O U d2,J po pn pc,J V 0 0])]) (by simp only [aP,aV,aY,e90,e92]) (by simp [go_sem])) (hK _ _ rfl (ah _ _) fun _ _ _ _ _ _ _ h=>h)
  ·cases ho;have e93:a.eval (Z 93)=yS (gH,3,c,d,c2,d2,(po,pn,pc),(V,0,0)):=seen.at_ ⟨5,.data⟩ (by simp) rfl (aF (by decide));have hl:=gZ FR x [((gH,3,c,d,c2,d2,(po,pn,pc),(V,0,0)):mU)] 1 rfl (by simp) (jP (gH,3,c,d,c2,d2,(po,pn,pc),(V,0,0))).toArray (by simp [flat,EU]);have nb:=fO x (au (jP (gH,3,c,d,c2,d2,(po,pn,pc),(V,0,0))).toArray 58);exact aG rfl rfl (bP a.eval _ 44 1 #[(0,Z 93)] rfl (ps:=#[(0,yS (gH,3,c,d,c2,d2,(po,pn,pc),(V,0,0)))]) (by simp [e93]) (by simp [go_sem])) (hK (J (X ⟨x.heap.size,0,V⟩) 1 1) (x.alloc (au (jP (gH,3,c,d,c2,d2,(po,pn,pc),(V,0,0))).toArray 58)) (dG hl hb.size) (nb.mono hb.size) fun j u _ _ _ _ _ h=>iM j u _ _ h nb)
 ·intro kk o h1 h2 ho;rcases (by omega:kk=8) with rfl
  ·cases ho;exact⟨⟨7,.data⟩,by simp,rfl,rfl⟩
 ·intro a w' df sz kp ⟨vs,hv⟩ hb;have sz':a.tmps.size=99:=sz;have g88:a.tmps[88]?=X (rv):=by
   have h:vs 0=rv:=(hv 0 (by omega)).2 (by decide);rw [<- h];exact (hv 0 (by omega)).1
  have g94:a.tmps[94]?=X (vs 6):=(hv 6 (by omega)).1;have G94:=(hv 6 (by omega)).2 (by decide);have o94:iZ w' W.heap.size (vs 6) [(gH,3,c,d,c2,d2,(po,pn,pc),(V,0,0))]:=G94;generalize vs 6=v6 at *;obtain⟨v',x',r,o',gr⟩:=uP FR F0 (dx HO.out hb) (Row.dw o94) HL.out (by simp) (aj FW.out hb.size) 44;show bN _ _ _ 2 7 a w';simp only [bN];refine aG rfl rfl (bM a.eval _ (Z 88) (Z 94) 44 rfl (bK g88) (bK g94) r) ?_;have e95:(a.put (X 95) v').eval (Z 95)=v':=bK (by simp [aU,sz']);refine aG rfl rfl (bQ _ _ (Z 95) rfl x') ?_;show Q .normal ((a.put (X 95) v').put (X 9) ((a.put (X 95) v').eval (Z 95))) x';rw [e95];show Q .normal ((a.put (X 95) v').put (X 9) v') x';have ka:∀ j,j≠95->j≠9->((a.put (X 95) v').put (X 9) v').tmps[j]?=a.tmps[j]?:=fun j h1 h2=>by rw [bC _ _ _ _ (by omega),bC _ _ _ _ (by omega)]
  have kt:((a.put (X 95) v').put (X 9) v').tmps[9]?=X (v'):=by simp [aU,sz']
  have q8:∀ j,(j<88\/96<=j)->((a.put (X 95) v').put (X 9) v').tmps[j]?=(u0::u1::u2::u3::u4::u5::u6::u7::u8::v'::u10::Y (X ⟨b11,0,V⟩)::Y (X ⟨b12,0,V⟩)::u13::u14::u15::u16::u17::u18::u19::u20::u21::u22::u23::u24::u25::u26::u27::u28::u29::u30::u31::u32::u33::u34::u35::u36::u37::u38::u39::u40::u41::u42::u43::u44::u45::u46::u47::u48::u49::u50::u51::u52::u53::u54::u55::u56::u57::u58::u59::u60::u61::u62::u63::u64::u65::u66::u67::u68::u69::u70::u71::u72::u73::u74::u75::u76::u77::u78::u79::u80::u81::u82::u83::u84::u85::u86::u87::u88::u89::u90::u91::u92::u93::u94::u95::u96::u97::u98::[])[j]?:=fun j hj=>by
   by_cases hj2:j=9
   ·subst hj2;exact kt
   ·have hs:(u0::u1::u2::u3::u4::u5::u6::u7::u8::v'::u10::Y (X ⟨b11,0,V⟩)::Y (X ⟨b12,0,V⟩)::u13::u14::u15::u16::u17::u18::u19::u20::u21::u22::u23::u24::u25::u26::u27::u28::u29::u30::u31::u32::u33::u34::u35::u36::u37::u38::u39::u40::u41::u42::u43::u44::u45::u46::u47::u48::u49::u50::u51::u52::u53::u54::u55::u56::u57::u58::u59::u60::u61::u62::u63::u64::u65::u66::u67::u68::u69::u70::u71::u72::u73::u74::u75::u76::u77::u78::u79::u80::u81::u82::u83::u84::u85::u86::u87::u88::u89::u90::u91::u92::u93::u94::u95::u96::u97::u98::[]:List aA)=(u0::u1::u2::u3::u4::u5::u6::u7::u8::rv::u10::Y (X ⟨b11,0,V⟩)::Y (X ⟨b12,0,V⟩)::u13::u14::u15::u16::u17::u18::u19::u20::u21::u22::u23::u24::u25::u26::u27::u28::u29::u30::u31::u32::u33::u34::u35::u36::u37::u38::u39::u40::u41::u42::u43::u44::u45::u46::u47::u48::u49::u50::u51::u52::u53::u54::u55::u56::u57::u58::u59::u60::u61::u62::u63::u64::u65::u66::u67::u68::u69::u70::u71::u72::u73::u74::u75::u76::u77::u78::u79::u80::u81::u82::u83::u84::u85::u86::u87::u88::u89::u90::u91::u92::u93::u94::u95::u96::u97::u98::[]).set 9 (v'):=rfl;rw [hs,aT (Ne.symm hj2)];exact (ka j (by omega) hj2).trans ((kp j (nd j fun i hi h=>by have:=(by decide:∀ i,i<7->88<=[88,89,90,91,92,93,94].getD i 0/\[88,89,90,91,92,93,94].getD i 0<96) i hi; omega)).trans aB)
  obtain⟨mid,hmid,hfr⟩:=Rg.fU (a:=(a.put (X 95) v').put (X 9) v') 88 8 (by simp [aU,df]) (by simp [aU,sz']) (by simp) q8;rw [hfr]
  match mid,hmid with
  | [v88,v89,v90,v91,v92,v93,v94,v95],_ =>
   exact HQ.out w' x' _ _ _ _ _ _ _ _ _ hb gr o'
end Bk
end Go.Proofs.YtkcfgbddlpomgaaGreat
