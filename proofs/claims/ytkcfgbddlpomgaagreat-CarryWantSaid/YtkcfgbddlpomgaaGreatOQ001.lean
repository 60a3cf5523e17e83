/-
  Numbers in memory, a. Conditions as told.
-/
import Derived.Test.YtkcfgbddlpomgaaGreatOQ000
import Derived.Lib.AppendZerosOnto
import Derived.Lib.Overlaps
import Derived.Deep.RegionLaw
import Derived.Laws.Externs
import Derived.Orders
import Derived.Lib.Hide
import Derived.WalkLawsBesides
import Derived.IntWalk
set_option maxRecDepth 100000
set_option maxHeartbeats 64000000
open _root_.Array renaming getD->aF,getElem?_eq_some_iff->aO,length_toList->aV,getElem?_eq_getElem->bA,all_eq_true'->bV,replicate->dh
open _root_.Bool renaming true->aD,false->cO
open _root_.Go renaming World->O,Value->U,Operand->Y,TypeId->ak,Act->bJ
open Go.Builtin renaming copy_->aK,append_->aQ,firstCells->bU,zeroCells->bY
open Go.Deferred renaming ofValue->bL
open Go.Ending renaming returned->aM
open Go.IntKind renaming i64->aJ
open Go.Lib renaming hid->bI
open Go.Oper renaming wp->aW,upon_enter->dn
open Go.Proofs.Tryz renaming prog->ah
open Go.Region renaming wanted->X,binds->ay,ready->cu
open Go.Result renaming andThen->aG,andThen_ok->bH
open Go.Value renaming slice->aC,string->aR,int->aU
open _root_.Int renaming emod_lt_of_pos->bg,tmod_eq_emod->bM,emod_nonneg->bQ
open _root_.List renaming length_take->au,append_assoc->aA,getElem?_take->aH,length_append->aI,size_toArray->aL,length_drop->aP,getElem?_drop->aZ,getElem?_append_right->bf,getElem?_append_left->bF,map_toArray->bK,take_of_length_le->bN,drop_of_length_le->bO,take_append_drop->bR,map_cons->bS,map_nil->bZ,getElem_mem->cB,all_eq_true->cK,take_left'->cZ,take_left->dw,take_take->dx
open _root_.Nat renaming mul_le_mul_right->J,min_eq_left->Z,lt_or_ge->aB,add_mul->aS,le_refl->aT,add_zero->bW,mul_le_mul->dB
open _root_.Option renaming some->aj,none->aN
open _root_.Or renaming inl->aX,inr->aY
namespace Go.Proofs.YtkcfgbddlpomgaaGreat
namespace Nm
open Go.RowKit Rw
def EI:Ek Int:=⟨3,25,1,8,aU aJ 0,fun n=>.int aJ n,fun n=>[aU aJ n]⟩
theorem acS:(Tryz.prog.info? 3).map (fun i=>(i.zero,i.size,i.bytes))=aj (aj (aU aJ 0),1,8):=by kernel_rfl
theorem Hl:EI.Ok where
 hu:=Tryz.underlying25
 info:=by
  have h:=acS;cases hi:Tryz.prog.info? 3 with
  | none=>rw [hi] at h; cases h
  | some i =>
   rw [hi] at h;simp only [Option.map_some,Option.some.injEq,Prod.mk.injEq] at h;exact⟨i,hi,h.1,h.2.1,h.2.2⟩
 zs:=rfl
 len:=fun _=>rfl
 one:=fun x u hu=>by
  simp only [EI,List.mem_cons,List.not_mem_nil,or_false] at hu;rw [hu]
  rfl
 pos:=by decide
 few:=by decide
 load:=fun w p x h=>by
  have h0:=h 0 _ rfl;rw [add_zero] at h0;show (Instr.loadAt 3 (.pointer (aj p))).run ah w=.ok (aU aJ x) w;simp [go_sem,h0]
abbrev qI (W:O) (v:U) (l:List Int):Prop:=Row EI W v l
abbrev kS (W:O) (B:Nat) (v:U) (l:List Int):Prop:=Own EI W B v l
theorem elI {W:O} {v:U} {l:List Int} {ao:Option Addr} {n c k:Nat} {x:Int} (h:qI W v l) (hv:v=aC ao n c) (hn:l.length=n) (hk:l[k]?=aj x) :
  ∃ p:Addr,(∀ w,(Instr.indexAt 25 (aC ao n c) (aU aJ k)).run ah w=.ok (.pointer (aj p)) w)/\p.block<W.heap.size/\∀ w,Below W.heap.size W w->w.cell? p=aj (aU aJ x):=by
 obtain⟨p,h1,h3,h2⟩:=nC Hl h hv hn hk;exact⟨p,h1,h3,fun w hw=>by
  have h0:=h2 w hw 0 _ rfl
  rwa [add_zero] at h0⟩
theorem ahP {w:O} (B:Nat) {v x:U} {l m:List Int} (hown:kS w B v l) (hx:qI w x m) (hn:l.length<=1000) (hm:m.length<=1000) (hB:B<=w.heap.size) :
  ∃ v' w',(aQ #[25,25] 25 #[v,x]).run ah w=.ok v' w'/\kS w' B v' (l++m)/\w.grownBy w' v.ownBlock:=gG Hl B hown hx hn hm hB 25
theorem Sr (w:O) (c:Int):qI (w.alloc (.cells #[aU aJ c] 3)) (aC (aj ⟨w.heap.size,0,aN⟩) 1 1) [c] :=
 Row.dH (iD Hl w [c] 1 rfl (by simp) _ rfl)
theorem Ho:∀ l:List Int,flat EI l=l.map (fun n=>.int aJ n)
 | []=>rfl
 | x::r=>by
  show EI.cells x++flat EI r=_;rw [Ho r]
  rfl
end Nm
namespace Rw
open Go.RowKit
variable {α:Type} {E:Ek α}
theorem below_setRow {B g:Nat} {W w:O} (h:Below B W w) (hB:B<=g) (cs:Array U):Below B W (w.setRow g cs) :=
 ⟨h.os,h.tape,h.output,by simp [World.setRow]; exact h.size,fun k hk=>by
  have hne:g≠k:=by omega
  have h2:=h.block k hk;simp [World.setRow,Array.getElem?_modify,hne,h2]⟩
theorem dN.set {w:O} {g:Nat} {cur:Array U} {t:ak} (h:dN w g cur t) (cs:Array U):dN (w.setRow g cs) g cs t:=setRow_heap w g cur cs t (0,0) h
theorem dN.other {w:O} {g b:Nat} {cur:Array U} {t:ak} (h:dN w b cur t) (hne:b≠g) (cs:Array U):dN (w.setRow g cs) b cur t:=(setRow_other w g b cs hne).trans h
theorem dN.drew {w:O} {b:Nat} {cur:Array U} {t:ak} (h:dN w b cur t):dN w.drew b cur t:=h
theorem dN.shape {w:O} {b:Nat} {cur:Array U} {t:ak} (h:dN w b cur t):w.shape? b=aj (t,cur.size):=by
 unfold dN at h;simp [World.shape?,h]
theorem gQ {W:O} {B:Nat} {v:U} {l:List α} (h:Own E W B v l):(v=aC aN 0 0/\l=[])\/∃ g cap cur,v=aC (aj ⟨g,0,aN⟩) l.length cap/\B<=g/\dN W g cur E.t/\l.length<=cap/\cap<=maxLen/\cur.size=cap * E.n/\cur.toList.take (l.length * E.n)=flat E l:=by
 rcases h.2 with⟨h1,h2⟩|⟨g,cap,cur,h1,h2,h3,h4,h5,h6,h7⟩
 ·exact aX ⟨h1,List.eq_nil_of_length_eq_zero h2⟩
 ·exact aY ⟨g,cap,cur,h1,h2,h3,h4,h5,h6,h7⟩
theorem qW (K:E.Ok) {W:O} {B g cap n:Nat} {cur:Array U} {l:List α} (hn:n=l.length) (hB:B<=g) (hb:dN W g cur E.t) (h1:n<=cap) (h2:cap<=maxLen) (h3:cur.size=cap * E.n) (h4:cur.toList.take (n * E.n)=flat E l):Own E W B (aC (aj ⟨g,0,aN⟩) n cap) l:=by
 subst hn;exact⟨eF K l,aY ⟨g,cap,cur,rfl,hB,hb,h1,h2,h3,h4⟩⟩
theorem qX (K:E.Ok) (l:List α) (k:Nat):(flat E l).take (k * E.n)=flat E (l.take k):=by
 rcases Nat.le_total k l.length with h|h
 ·conv=>lhs; rw [<- bR k l,gI]
  have e:(flat E (l.take k)).length=k * E.n:=by rw [eF K,au,Z h]
  rw [<- e,dw]
 ·rw [bN h,bN];rw [eF K];exact J _ h
theorem Df (K:E.Ok) (l:List α) (k:Nat):(flat E l).drop (k * E.n)=flat E (l.drop k):=by
 rcases Nat.le_total k l.length with h|h
 ·conv=>lhs; rw [<- bR k l,gI]
  have e:(flat E (l.take k)).length=k * E.n:=by rw [eF K,au,Z h]
  rw [<- e,List.drop_left]
 ·rw [bO h,bO]
  ·rfl
  rw [eF K];exact J _ h
theorem zJ (K:E.Ok) {W:O} {g:Nat} {cur:Array U} {t:ak} {l:List α} (hb:dN W g cur t) (ht:cur.toList.take (l.length * E.n)=flat E l) (k:Nat):∀ j u,(flat E (l.drop k))[j]?=aj u->W.cell? ((⟨g,k * E.n,aN⟩:Addr).add j)=aj u:=by
 intro j u hj;rw [Addr.add_lit,hb.cell];rw [<- Df K,aZ,<- ht,aH] at hj
 split at hj
 ·simpa using hj
 ·cases hj
theorem wo {W:O} {b:Nat} {cs:Array U} {t:ak} {x:α} (hb:dN W b cs t) (hc:cs.toList=E.cells x):∀ j u,(flat E [x])[j]?=aj u->W.cell? ((⟨b,0,aN⟩:Addr).add j)=aj u:=by
 intro j u hj;rw [lS,hb.cell];rw [Pm,<- hc] at hj;simpa using hj
theorem jF (K:E.Ok) (g k len cap:Nat) (h:k<=len) (hc:k<cap) (w:O):(Instr.sliceAt E.ts (aC (aj ⟨g,0,aN⟩) len cap) (aj (aU aJ k)) aN aN).run ah w=.ok (aC (aj ⟨g,k * E.n,aN⟩) (len-k) (cap-k)) w:=by
 rw [zI K ⟨g,0,aN⟩ k len cap h w,if_neg (by omega),lS]
theorem wu (K:E.Ok) {w:O} {g o nd cd ns sc:Nat} {a:Addr} {cur:Array U} {m:List α} (hb:dN w g cur E.t) (hm:∀ j u,(flat E m)[j]?=aj u->w.cell? (a.add j)=aj u) (hk:min ns nd=m.length) (hr:(o+m.length) * E.n<=cur.size) (ty:ak) :
  (aK #[E.ts,E.ts] ty #[aC (aj ⟨g,o * E.n,aN⟩) nd cd,aC (aj a) ns sc]).run ah w=.ok (aU aJ m.length) (w.setRow g (cur.toList.take (o * E.n)++flat E m++cur.toList.drop ((o+m.length) * E.n)).toArray):=by
 obtain⟨i,i1,i2,i3,i4⟩:=K.info;have hl:=run_loadCells_list (P:=ah) w a (flat E m) hm;have hst:=run_storeCells_at ah g (o * E.n) E.t (flat E m) 0 cur w hb (by rw [eF K,bW,<- aS]; exact hr) (oU K m);rw [eF K] at hl;have e:o * E.n+0+(flat E m).length=(o+m.length) * E.n:=by rw [eF K,bW,aS]
 rw [e,bW] at hst;simp [aK,run_underlying K.hu,Builtin.lenOf,bU,sizeOf,typeInfo,i1,i3,hk,hl,goInt];simpa using congrArg (fun r=>r.andThen fun _ w=>Result.ok (aU aJ m.length) w) hst
/-! ### one element more, in the middle -/
section
variable {l:List α} {k cap:Nat} {cur cs:Array U} {c:α}
theorem xM (K:E.Ok) (hk:k<l.length) (hcap:l.length+1<=cap) (hsz:cur.size=cap * E.n) (ht:cur.toList.take (l.length * E.n)=flat E l) (g b:Nat) (_hne:b≠g) :
  ∃ R1 R2:Array U,
   (∀ (W:O) (ty:ak) (nd dc ns sc:Nat),dN W g cur E.t->min ns nd=l.length-k->(aK #[E.ts,E.ts] ty #[aC (aj ⟨g,(k+1) * E.n,aN⟩) nd dc,aC (aj ⟨g,k * E.n,aN⟩) ns sc]).run ah W=.ok (aU aJ ((l.length-k:Nat):Int)) (W.setRow g R1)) /\
   (∀ (W:O) (ty:ak) (nd dc:Nat),dN W g R1 E.t->dN W b cs E.t->cs.toList=E.cells c->1<=nd->(aK #[E.ts,E.ts] ty #[aC (aj ⟨g,k * E.n,aN⟩) nd dc,aC (aj ⟨b,0,aN⟩) 1 1]).run ah W=.ok (aU aJ 1) (W.setRow g R2)) /\
   (∀ (W:O) (B:Nat),B<=g->cap<=maxLen->dN W g R2 E.t->Own E W B (aC (aj ⟨g,0,aN⟩) (l.length+1) cap) (l.take k++c::l.drop k)):=by
 have hkl:(l.drop k).length=l.length-k:=by simp
 have hs1:(cur.toList.take ((k+1) * E.n)++flat E (l.drop k)++cur.toList.drop ((k+1+(l.drop k).length) * E.n)).length=cap * E.n:=by
  have h1:(k+1) * E.n<=cap * E.n:=J _ (by omega);have h2:(k+1+(l.drop k).length) * E.n<=cap * E.n:=J _ (by omega);simp only [aI,au,aP,aV,eF K,hsz];rw [Z h1];have h3:(k+1+(l.drop k).length) * E.n=(k+1) * E.n+(l.drop k).length * E.n:=aS ..;simp only [aP] at h2 h3 ⊢;omega
 refine⟨(cur.toList.take ((k+1) * E.n)++flat E (l.drop k)++cur.toList.drop ((k+1+(l.drop k).length) * E.n)).toArray,
  ((cur.toList.take ((k+1) * E.n)++flat E (l.drop k)++cur.toList.drop ((k+1+(l.drop k).length) * E.n)).take (k * E.n)++flat E [c]++(cur.toList.take ((k+1) * E.n)++flat E (l.drop k)++cur.toList.drop ((k+1+(l.drop k).length) * E.n)).drop ((k+1) * E.n)).toArray,?_,?_,?_⟩
 ·intro W ty nd dc ns sc hb hm;have h:=wu K (o:=k+1) (m:=l.drop k) (nd:=nd) (cd:=dc) (ns:=ns) (sc:=sc) hb (zJ K hb ht k) (by rw [hkl]; exact hm) (by rw [hkl,hsz]; exact J _ (by omega)) ty;rw [hkl] at h ⊢;exact h
 ·intro W ty nd dc hb hx hc hn;have h:=wu K (o:=k) (m:=[c]) (nd:=nd) (cd:=dc) (ns:=1) (sc:=1) hb (wo hx hc) (by simp; omega) (by rw [aL,hs1]; exact J _ (by simp; omega)) ty;simpa using h
 ·intro W B hB hm hb;have p1:(cur.toList.take ((k+1) * E.n)).length=(k+1) * E.n:=by
   rw [au,aV,hsz];exact Z (J _ (by omega))
  have p2:(cur.toList.take ((k+1) * E.n)++flat E (l.drop k)++cur.toList.drop ((k+1+(l.drop k).length) * E.n)).take (k * E.n)=flat E (l.take k):=by
   rw [aA,List.take_append_of_le_length (by rw [p1]; exact J _ (by omega)),dx,Z (J _ (by omega)),<- qX K,<- ht,dx,Z (J _ (by omega))]
  have p3:(cur.toList.take ((k+1) * E.n)++flat E (l.drop k)++cur.toList.drop ((k+1+(l.drop k).length) * E.n)).drop ((k+1) * E.n)=flat E (l.drop k)++cur.toList.drop ((k+1+(l.drop k).length) * E.n):=by
   rw [aA,List.drop_left' p1]
  have e:flat E (l.take k)++flat E [c]++flat E (l.drop k)=flat E (l.take k++c::l.drop k):=by
   rw [gI,show c::l.drop k=[c]++l.drop k from rfl,gI,aA]
  have ln:(l.take k++c::l.drop k).length=l.length+1:=by simp; omega
  have q:(flat E (l.take k)++flat E [c]++flat E (l.drop k)).length=(l.length+1) * E.n:=by rw [e,eF K,ln]
  refine qW K ln.symm hB hb hcap hm ?_ ?_
  ·rw [aL,p2,p3,<- aA,aI,q,aP,show cur.toList.length=cap * E.n from Array.length_toList.trans hsz,hkl];have h1:(l.length+1) * E.n<=cap * E.n:=J _ hcap;rw [show k+1+(l.length-k)=l.length+1 by omega];omega
  ·rw [p2,p3,<- aA];exact (cZ q).trans e
theorem zK (K:E.Ok) (tn:ak) (htn:Tryz.prog.underlying tn=aj (.int .i64)) (hk:k<l.length) (hl:l.length<=1000) (hcap:cap<l.length+1) (hlc:l.length<=cap) (ht:cur.toList.take (l.length * E.n)=flat E l) (W:O) (g b:Nat) (hb:dN W g cur E.t) (_hbW:b<W.heap.size) :
  ∃ (G:Nat) (R1 R2 R3:Array U),l.length+1<=G/\G<=maxLen /\
   (∀ ty,(aQ #[E.ts,tn] ty #[aC (aj ⟨g,0,aN⟩) k cap,aU aJ ((l.length:Int)+1-k)]).run ah W=.ok (aC (aj ⟨W.heap.size,0,aN⟩) (l.length+1) G) (W.drew.alloc (.cells R1 E.t))) /\
   (∀ (w:O) (ty:ak) (nd dc:Nat),dN w W.heap.size R1 E.t->dN w b cs E.t->cs.toList=E.cells c->1<=nd->(aK #[E.ts,E.ts] ty #[aC (aj ⟨W.heap.size,k * E.n,aN⟩) nd dc,aC (aj ⟨b,0,aN⟩) 1 1]).run ah w=.ok (aU aJ 1) (w.setRow W.heap.size R2)) /\
   (∀ (w:O) (ty:ak) (nd dc ns sc:Nat),dN w W.heap.size R2 E.t->dN w g cur E.t->min ns nd=l.length-k->(aK #[E.ts,E.ts] ty #[aC (aj ⟨W.heap.size,(k+1) * E.n,aN⟩) nd dc,aC (aj ⟨g,k * E.n,aN⟩) ns sc]).run ah w=.ok (aU aJ ((l.length-k:Nat):Int)) (w.setRow W.heap.size R3)) /\
   (∀ (w:O) (B:Nat),B<=W.heap.size->dN w W.heap.size R3 E.t->Own E w B (aC (aj ⟨W.heap.size,0,aN⟩) (l.length+1) G) (l.take k++c::l.drop k)):=by
 obtain⟨i,i1,i2,i3,i4⟩:=K.info;have hf:=K.few;have hpos:=K.pos;have hkl:(l.drop k).length=l.length-k:=by simp
 have hold:(bU i.size k (aC (aj ⟨g,0,aN⟩) k cap)).run ah W.drew=.ok (flat E (l.take k)).toArray W.drew :=
  run_firstCells_some (P:=ah) (w:=W.drew) i.size k ⟨g,0,aN⟩ k cap (flat E (l.take k)) (by rw [eF K,au,Z (by omega),i3]) (fun j u hj=>by
   rw [lS];show W.cell? _=_;rw [hb.cell];rw [<- qX K,<- ht,aH] at hj
   split at hj
   ·rw [aH] at hj
    split at hj
    ·simpa using hj
    ·cases hj
   ·cases hj)
 have happ:=fun ty=>Lib.run_append_grow_zeros (P:=ah) W E.ts tn ty E.t i _ aJ aJ K.hu htn i1 i2 (aj ⟨g,0,aN⟩) k cap (flat E (l.take k)) hold (l.length+1-k) (by omega) (by rw [i3]; exact hpos) (by omega) (by omega)
  (by rw [i4]; exact Nat.le_trans (dB (show l.length+1-k<=2000 by omega) hf) (by decide))
  (growslice_fits (by omega) (by rw [i4]; exact Nat.le_trans (dB (show k+(l.length+1-k)<=2000 by omega) hf) (by decide)))
 rw [show k+(l.length+1-k)=l.length+1 by omega] at happ;have hG1:=grownCap_ge W (l.length+1) cap E.t;have hG2:=grownCap_le_maxLen W (l.length+1) cap E.t (by unfold maxLen; omega);generalize grownCap W (l.length+1) cap E.t=G at happ hG1 hG2;obtain⟨R1,hR1⟩:∃ R1:Array U,R1=(flat E (l.take k)).toArray++bY E.z.cells (l.length+1-k)++bY E.z.cells (G-(l.length+1)):=⟨_,rfl⟩;rw [<- hR1] at happ;have hs0:R1.size=G * E.n:=by
  rw [hR1];simp only [Array.size_append,aL,size_zeroCells,K.zs,eF K,au,Z (Nat.le_of_lt hk),<- aS];rw [show k+(l.length+1-k)+(G-(l.length+1))=G by omega]
 have hh:R1.toList.take (k * E.n)=flat E (l.take k):=by
  rw [hR1];simp only [Array.toList_append,aA];have e:(flat E (l.take k)).length=k * E.n:=by rw [eF K,au,Z (by omega)]
  rw [<- e];simp
 have q1:(flat E [c]).length=1 * E.n:=by rw [eF K]; rfl
 have q0:(R1.toList.take (k * E.n)).length=k * E.n:=by
  rw [hh,eF K,au,Z (by omega)]
 have hs2:(R1.toList.take (k * E.n)++flat E [c]++R1.toList.drop ((k+[c].length) * E.n)).length=G * E.n:=by
  have h1:(k+1) * E.n<=G * E.n:=J _ (by omega);have h2:(k+1) * E.n=k * E.n+1 * E.n:=aS ..;simp only [aI,q0,q1,aP,aV,hs0,List.length_singleton];omega
 refine⟨G,R1,(R1.toList.take (k * E.n)++flat E [c]++R1.toList.drop ((k+[c].length) * E.n)).toArray,
  ((R1.toList.take (k * E.n)++flat E [c]++R1.toList.drop ((k+[c].length) * E.n)).take ((k+1) * E.n)++flat E (l.drop k)++(R1.toList.take (k * E.n)++flat E [c]++R1.toList.drop ((k+[c].length) * E.n)).drop ((k+1+(l.drop k).length) * E.n)).toArray,hG1,hG2,?_,?_,?_,?_⟩
 ·intro ty;have h:=happ ty;rw [show ((l.length+1-k:Nat):Int)=(l.length:Int)+1-k by omega] at h;exact h
 ·intro w ty nd dc hb' hx hc hn;have h:=wu K (o:=k) (m:=[c]) (nd:=nd) (cd:=dc) (ns:=1) (sc:=1) hb' (wo hx hc) (by simp; omega) (by rw [hs0]; exact J _ (by simp; omega)) ty;simpa using h
 ·intro w ty nd dc ns sc hb' hx hm;have h:=wu K (o:=k+1) (m:=l.drop k) (nd:=nd) (cd:=dc) (ns:=ns) (sc:=sc) hb' (zJ K hx ht k) (by rw [hkl]; exact hm) (by rw [hkl,aL,hs2]; exact J _ (by omega)) ty;rw [hkl] at h ⊢;exact h
 ·intro w B hB hb';have p2:(R1.toList.take (k * E.n)++flat E [c]++R1.toList.drop ((k+[c].length) * E.n)).take ((k+1) * E.n)=flat E (l.take k)++flat E [c]:=by
   have e:(R1.toList.take (k * E.n)++flat E [c]).length=(k+1) * E.n:=by rw [aI,q0,q1,<- aS]
   rw [<- e,dw,hh]
  have e:flat E (l.take k)++flat E [c]++flat E (l.drop k)=flat E (l.take k++c::l.drop k):=by
   rw [gI,show c::l.drop k=[c]++l.drop k from rfl,gI,aA]
  have ln:(l.take k++c::l.drop k).length=l.length+1:=by simp; omega
  have q:(flat E (l.take k)++flat E [c]++flat E (l.drop k)).length=(l.length+1) * E.n:=by rw [e,eF K,ln]
  refine qW K ln.symm hB hb' hG1 hG2 ?_ ?_
  ·rw [aL,p2,aI,q,aP,hs2,hkl];have h1:(l.length+1) * E.n<=G * E.n:=J _ hG1;rw [show k+1+(l.length-k)=l.length+1 by omega];omega
  ·rw [p2];exact (cZ q).trans e
end
theorem lU {P:Program} {ops:Array Oper} {rest:List Oper} {o:Oper} {a:bJ} {Q:Exit->bJ->O->Prop} {w w':O} (hgd:o.guard=aN) (s x:Y) (t t':ak)
  (ho:o.op=.call { callee:=.builtin .append,args:=#[s,x],argTypes:=#[t,t'] }) {v xv v':U} (hs:a.eval s=v) (hx:a.eval x=xv) (hr:(aQ #[t,t'] o.type #[v,xv]).run P w=.ok v' w')
  (h:wpList P ops Q rest (a.put o.dst v') w'):wpList P ops Q (o::rest) a w:=by
 refine wpList_plain hgd fun K hK=>?_;unfold aW execOp;simp only [ho,resolve,invoke,builtin,Sem.run_bind,Sem.run_pure,bH,bK,bS,bZ,hs,hx,hr];exact hK _ _ h
theorem kF {P:Program} {ops:Array Oper} {o:Oper} {a:bJ} {w w':O} {K:bJ->O->Prop} {Q:Exit->bJ->O->Prop} {E:Prop}
  (hg:o.guard=aN) (s x:Y) (t:ak) (hop:o.op=.call { callee:=.builtin .copy,args:=#[s,x],argTypes:=#[t,t] }) {v xv v':U} (hs:a.eval s=v) (hx:a.eval x=xv)
  (hr:(aK #[t,t] o.type #[v,xv]).run P w=.ok v' w') (hK:K (a.put o.dst v') w') :
  if X o (yielded ops a.tmps)=aD then aW P o a w K Q else E:=by
 have hw:X o (yielded ops a.tmps)=aD:=by simp [X,hg]
 rw [if_pos hw];unfold aW execOp;simp only [hop,resolve,invoke,builtin,Sem.run_bind,Sem.run_pure,bH,bK,bS,bZ,hs,hx,hr];exact hK
end Rw
namespace Rg
open Go.RowKit
def left (L:Array Bool):Nat:=L.toList.countP (fun b=>!b)
theorem Sv (L:Array Bool) (i:Nat) (h:L.getD i aD=cO):left (L.setIfInBounds i aD)+1=left L:=by
 obtain⟨l⟩:=L;have hi:i<l.length:=by
  rcases aB i l.length with h0|h0
  ·exact h0
  ·exact absurd h (by simp [aF,Nat.not_lt.2 h0])
 have hv:l[i]=cO:=by simpa [aF,hi] using h
 unfold left;simp only [List.setIfInBounds_toArray];rw [List.countP_set hi,hv];have hp:0<l.countP (fun b=>!b):=List.countP_pos_iff.2 ⟨l[i],cB hi,by rw [hv]; rfl⟩;simp;omega
theorem Pn (L:Array Bool) (h:left L=0) (i:Nat):L.getD i aD=aD:=by
 obtain⟨l⟩:=L;unfold left at h;rw [List.countP_eq_zero] at h;rcases aB i l.length with h0|h0
 ·have:=h l[i] (cB h0);simp [aF,h0];simpa using this
 ·simp [aF,Nat.not_lt.2 h0]
def Po (ops:Array Oper):Bool:=(List.range ops.size).all fun i=>match ops[i]? with
 | some o=>o.after.all fun e=>!Region.binds .any e || decide (e.on<i)
 | none=>aD
def done (L:Array Bool) (i:Nat):Prop:=L.getD i cO=aD
theorem Hq {ops:Array Oper} (hf:Po ops=aD) {L:Array Bool} (hs:L.size=ops.size) (h:cu .any ops L=[]):∀ n,n<=ops.size->∀ i,i<n->done L i:=by
 intro n
 induction n with
 | zero=>intro _ i hi; omega
 | succ n ih =>
  intro hn i hi;rcases aB i n with h1|h1
  ·exact ih (by omega) i h1
  ·obtain rfl:i=n:=by omega
   cases hd:L.getD i aD
   ·exfalso;have hm:i∈cu .any ops L:=by
     rw [mem_ready];refine⟨hd,ops[i],bA (by omega),fun e he hbd=>?_⟩;have h2:=cK.1 hf i (List.mem_range.2 (by omega));rw [bA (by omega)] at h2;have h3:=bV.1 h2 e he;rw [hbd] at h3;exact ih (by omega) e.on (by simpa using h3)
    rw [h] at hm;cases hm
   ·unfold done;have hi2:i<L.size:=by omega
    simp [aF,hi2] at hd ⊢;exact hd
section
variable {P:Program} {ops:Array Oper} {Q:Exit->bJ->O->Prop}
theorem Kg (I:Array Bool->bJ->O->Prop) (hf:Po ops=aD)
  (hstep:∀ L a w i o,L.size=ops.size->I L a w->ops[i]?=aj o->¬ done L i->(∀ e∈o.after,ay .any e=aD->done L e.on)->wpOp P ops Q i (I (L.setIfInBounds i aD)) a w)
  (hend:∀ L a w,I L a w->(∀ i,i<ops.size->done L i)->Q .normal a w) :
  ∀ (fuel:Nat) (L:Array Bool) (a:bJ) (w:O),L.size=ops.size->left L<=fuel->I L a w->wpAny P .any ops Q fuel L a w:=by
 intro fuel
 induction fuel with
 | zero =>
  intro L a w hs hl hI;have hr:cu .any ops L=[]:=by
   rw [List.eq_nil_iff_forall_not_mem];intro i hi;have h1:=(mem_ready.1 hi).1;rw [Pn L (by omega) i] at h1;cases h1
  exact⟨hr,hend L a w hI (Hq hf hs hr ops.size (aT _))⟩
 | succ fuel ih =>
  intro L a w hs hl hI;refine⟨fun hr=>hend L a w hI (Hq hf hs hr ops.size (aT _)),fun i hi=>?_⟩;obtain⟨h1,o,h2,h3⟩:=mem_ready.1 hi;have hlt:i<ops.size:=(aO.1 h2).1;have hnd:¬ done L i:=by
   unfold done;have:i<L.size:=by omega
   simp [aF,this] at h1 ⊢;exact h1
  have hst:=hstep L a w i o hs hI h2 hnd (fun e he hb=>h3 e he hb);have hmono:∀ a' w',I (L.setIfInBounds i aD) a' w'->wpAny P .any ops Q fuel (L.setIfInBounds i aD) a' w':=fun a' w' h =>
   ih _ a' w' (by simpa using hs) (by have:=Sv L i h1; omega) h
  unfold wpOp at hst ⊢;rw [h2] at hst ⊢;simp only at hst ⊢
  split at hst
  ·rename_i hw
   rw [if_pos hw];rcases hst with hst|hst
   ·exact aX (Oper.wp_mono hmono hst)
   ·exact aY hst
  ·rename_i hw
   rw [if_neg hw];exact hmono _ _ hst
theorem sG (I:Array Bool->bJ->O->Prop) {id:Nat} {a:bJ} {w:O} {l:List Oper} (hm:P.follows .mixedOrders=aD) (hf:Po l.toArray=aD)
  (h0:I (dh l.length cO) a { w with drawn:=w.drawn+1 })
  (hstep:∀ L a w i o,L.size=l.length->I L a w->l[i]?=aj o->¬ done L i->(∀ e∈o.after,ay .any e=aD->done L e.on)->wpOp P l.toArray Q i (I (L.setIfInBounds i aD)) a w)
  (hend:∀ L a w,I L a w->(∀ i,i<l.length->done L i)->Q .normal a w):(Code.region id l.toArray aD).wp P Q a w:=by
 refine wp_region_any hm (Kg (ops:=l.toArray) I hf (fun L a w i o hs hI ho=>hstep L a w i o (by simpa using hs) hI (by simpa using ho)) (fun L a w hI hd=>hend L a w hI (by simpa using hd)) _ _ _ _ (by simp) ?_ (by simpa using h0));unfold left;have h2:=List.countP_le_length (p:=fun b:Bool=>!b) (l:=List.replicate l.length cO);simpa using h2
end
theorem iF {L:Array Bool} {i:Nat} (h:i<L.size) (j:Nat):done (L.setIfInBounds i aD) j↔j=i\/done L j:=by
 unfold done;by_cases e:j=i
 ·subst e; simp [aF,h]
 ·by_cases hj:j<L.size
  ·have h2:i≠j:=fun x=>e x.symm;simp [aF,hj,e,h2]
  ·simp [aF,hj,e]
theorem gP (n j:Nat):¬ done (dh n cO) j:=by
 unfold done;by_cases hj:j<n <;> simp [aF,hj]
theorem dD {P:Program} {ops:Array Oper} {Q:Exit->bJ->O->Prop} {K:bJ->O->Prop} {a:bJ} {w w':O} {i:Nat} {o:Oper} {v:U}
  (ho:ops[i]?=aj o) (hg:o.guard=aN) (hr:(execOp a.eval o).run P w=.ok (.value v) w') (h:K (a.put o.dst v) w'):wpOp P ops Q i K a w:=by
 unfold wpOp;rw [ho];have hw:X o (yielded ops a.tmps)=aD:=by simp [X,hg]
 simp only [hw,if_true];refine aX ?_;unfold aW;rw [hr];exact h
theorem aac {P:Program} {s:Sem U} {w w':O} {v:U} (h:s.run P w=.ok v w'):(do pure (Next.value (<- s)):Sem Next).run P w=.ok (.value v) w':=by
 simp [go_sem,h]
theorem gq {P:Program} (ρ:Y->U) (o:Oper) (s x:Y) (t:ak) (ho:o.op=.call { callee:=.builtin .append,args:=#[s,x],argTypes:=#[t,t] }) {v x' v':U} {w w':O}
  (hs:ρ s=v) (hx:ρ x=x') (hrun:(aQ #[t,t] o.type #[v,x']).run P w=.ok v' w'):(execOp ρ o).run P w=.ok (.value v') w':=by
 simp [execOp,ho,resolve,invoke,builtin,hs,hx,hrun,aG]
theorem kD {P:Program} (ρ:Y->U) (o:Oper) (t:ak) (x:Y) (l h m:Option Y) (ho:o.op=.slice t x l h m) {v:U} {w:O} (hr:(Instr.sliceAt t (ρ x) (l.map ρ) (h.map ρ) (m.map ρ)).run P w=.ok v w) :
  (execOp ρ o).run P w=.ok (.value v) w:=by
 simp [execOp,ho,hr,aG]
theorem pq {P:Program} (ρ:Y->U) (o:Oper) (t:ak) (x i:Y) (ho:o.op=.indexAddr t x i) {v:U} {w:O} (hr:(Instr.indexAt t (ρ x) (ρ i)).run P w=.ok v w) :
  (execOp ρ o).run P w=.ok (.value v) w:=by
 simp [execOp,ho,hr,aG]
theorem dZ {P:Program} (ρ:Y->U) (o:Oper) (t:ak) (x:Y) (ho:o.op=.load t x) {v:U} {w:O} (hr:(Instr.loadAt t (ρ x)).run P w=.ok v w) :
  (execOp ρ o).run P w=.ok (.value v) w:=by
 simp [execOp,ho,hr,aG]
theorem iQ {P:Program} (ρ:Y->U) (o:Oper) (t:ak) (n:Nat) (parts:Array (Nat×Y)) (ho:o.op=.buildSlice t n parts) {ps:Array (Nat×U)} (hp:parts.map (fun x=>(x.1,ρ x.2))=ps) {v:U} {w w':O} (hr:(Instr.buildSlice t n ps).run P w=.ok v w') :
  (execOp ρ o).run P w=.ok (.value v) w':=by
 subst hp;simp [execOp,ho,hr,aG]
theorem fQ {P:Program} (ρ:Y->U) (o:Oper) (x:Y) (ho:o.op=.move x) (w:O):(execOp ρ o).run P w=.ok (.value (ρ x)) w:=by
 simp [execOp,ho]
theorem jM {P:Program} (ρ:Y->U) (o:Oper) (x:Y) (ho:o.op=.assign x) (w:O):(execOp ρ o).run P w=.ok (.value (ρ x)) w:=by
 simp [execOp,ho]
theorem size_put (a:bJ) (d:Nat) (v:U):(a.put (aj d) v).tmps.size=a.tmps.size:=by simp [Act.put]
theorem get_put (a:bJ) (d:Nat) (v:U) (j:Nat) (hd:j≠d):(a.put (aj d) v).tmps[j]?=a.tmps[j]?:=by
 have h2:d≠j:=fun x=>hd x.symm;simp [Act.put,h2]
theorem dK {a:bJ} {j:Nat} {v:U} (h:a.tmps[j]?=aj v):a.eval (.tmp j)=v:=by
 have h1:=(aO.1 h).1;have h2:=(aO.1 h).2;simp [Act.eval,aF,h1,h2]
theorem Ym {P:Program} {ops:Array Oper} {Q:Exit->bJ->O->Prop} {K:bJ->O->Prop} {a:bJ} {w w':O} {i:Nat} {o:Oper}
  (ho:ops[i]?=aj o) (hg:o.guard=aN) (hr:(execOp a.eval o).run P w=.ok .skip w') (h:K (a.put o.dst undef) w'):wpOp P ops Q i K a w:=by
 unfold wpOp;rw [ho];have hw:X o (yielded ops a.tmps)=aD:=by simp [X,hg]
 simp only [hw,if_true];refine aX ?_;unfold aW;rw [hr];exact h
theorem gF {a:bJ} {bl:List U} (d0 m:Nat) (df:a.defers=[]) (sz:a.tmps.size=bl.length) (hle:d0+m<=bl.length) (kp:∀ j,(j<d0\/d0+m<=j)->a.tmps[j]?=bl[j]?) :
  ∃ mid:List U,mid.length=m/\a=⟨(bl.take d0++(mid++bl.drop (d0+m))).toArray,[]⟩:=by
 obtain⟨tmps,defers⟩:=a;have hd:defers=[]:=df;have hs:tmps.size=bl.length:=sz;have hk:∀ j,(j<d0\/d0+m<=j)->tmps[j]?=bl[j]?:=kp;subst hd;have hl:((tmps.toList.drop d0).take m).length=m:=by simp; omega
 refine⟨(tmps.toList.drop d0).take m,hl,congrArg (fun x=>(⟨x,[]⟩:bJ)) ?_⟩;apply Array.ext_getElem?;intro j
 conv=>rhs; rw [List.getElem?_toArray]
 by_cases h1:j<d0
 ·rw [hk j (aX h1),bF (by simp; omega),aH,if_pos h1]
 ·have ht:(bl.take d0).length=d0:=by simp; omega
  rw [bf (by omega),ht];by_cases h2:j<d0+m
  ·rw [bF (by omega),aH,if_pos (by omega),aZ,Array.getElem?_toList,show d0+(j-d0)=j by omega]
  ·rw [hk j (aY (by omega)),bf (by omega),hl,aZ,show d0+m+(j-d0-m)=j by omega]
end Rg
namespace Rw
open Go.RowKit
theorem eU {P:Program} {ops:Array Oper} {o:Oper} {a:bJ} {w w':O} {K:bJ->O->Prop} {Q:Exit->bJ->O->Prop} {E:Prop}
  (hg:o.guard=aN) (s x:Y) (t:ak) (hop:o.op=.call { callee:=.builtin .append,args:=#[s,x],argTypes:=#[t,t] }) {v xv v':U} (hs:a.eval s=v) (hx:a.eval x=xv)
  (hr:(aQ #[t,t] o.type #[v,xv]).run P w=.ok v' w') (hK:K (a.put o.dst v') w') :
  if X o (yielded ops a.tmps)=aD then aW P o a w K Q else E:=by
 have hw:X o (yielded ops a.tmps)=aD:=by simp [X,hg]
 rw [if_pos hw];unfold aW execOp;simp only [hop,resolve,invoke,builtin,Sem.run_bind,Sem.run_pure,bH,bK,bS,bZ,hs,hx,hr];exact hK
theorem qJ {P:Program} {ops:Array Oper} {o:Oper} {a:bJ} {w:O} {K:bJ->O->Prop} {Q:Exit->bJ->O->Prop} {E:Prop} {f:FuncId} {args:Array U} {R:Ending->O->Prop}
  (hg:o.guard=aN) (hr:(execOp a.eval o).run P w=.ok (.enter f args) w) (hc:Calls P f args w R) (hR:∀ e w',R e w'->∃ v,e=aM v/\K (a.put o.dst v) w') :
  if X o (yielded ops a.tmps)=aD then aW P o a w K Q else E:=by
 have hw:X o (yielded ops a.tmps)=aD:=by simp [X,hg]
 rw [if_pos hw];unfold aW;rw [hr,dn];refine hc.mono ?_;intro e w' h;obtain⟨v,rfl,hk⟩:=hR e w' h;exact hk
theorem fT {P : Program} {f : FuncId} {fn : Func} {c : Code} (hf : P.funcs[f]? = some fn) (hname : (fn.name == "runtime.NumGoroutine") = false) (hb : fn.body = some c) (args : Array Value) (w : World) : (callFunc f args).run P w = .ok (.enter f args) w := by
 have h1 : fn.name ≠ "runtime.NumGoroutine" := by simpa using hname
 simp [callFunc,hf,h1,hb]
theorem iG {P:Program} (ρ:Y->U) (o:Oper) (x:Y) (t:ak) (f:FuncId) (ho:o.op=.call { callee:=.value (.func f),args:=#[x],argTypes:=#[t] }) {v:U} (hx:ρ x=v) (hf:ρ (.func f)=.func (.func f) #[] #[]) (w:O)
  (hc:(callFunc f #[v]).run P w=.ok (.enter f #[v]) w):(execOp ρ o).run P w=.ok (.enter f #[v]) w:=by
 simp [execOp,ho,resolve,invoke,hx,hf,bL,hc]
theorem pE {P:Program} (ρ:Y->U) (o:Oper) (x y:Y) (t s:ak) (f:FuncId) (ho:o.op=.call { callee:=.value (.func f),args:=#[x,y],argTypes:=#[t,s] }) {v u:U} (hx:ρ x=v) (hy:ρ y=u) (hf:ρ (.func f)=.func (.func f) #[] #[]) (w:O)
  (hc:(callFunc f #[v,u]).run P w=.ok (.enter f #[v,u]) w):(execOp ρ o).run P w=.ok (.enter f #[v,u]) w:=by
 simp [execOp,ho,resolve,invoke,hx,hy,hf,bL,hc]
end Rw
namespace Rg
open Go.RowKit
theorem gH {P:Program} {ops:Array Oper} {Q:Exit->bJ->O->Prop} {K:bJ->O->Prop} {a:bJ} {w:O} {i:Nat} {o:Oper} {f:FuncId} {args:Array U} {R:Ending->O->Prop}
  (ho:ops[i]?=aj o) (hg:o.guard=aN) (hr:(execOp a.eval o).run P w=.ok (.enter f args) w) (hc:Calls P f args w R) (hR:∀ e w',R e w'->∃ v,e=aM v/\K (a.put o.dst v) w'):wpOp P ops Q i K a w:=by
 unfold wpOp;rw [ho];have hw:X o (yielded ops a.tmps)=aD:=by simp [X,hg]
 simp only [hw,if_true];refine aX ?_;unfold aW;rw [hr,dn];refine hc.mono ?_;intro e w' h;obtain⟨v,rfl,hk⟩:=hR e w' h;exact hk
theorem zL {P:Program} (ρ:Y->U) (o:Oper) (x y z:Y) (t:ak) (f:FuncId) (ho:o.op=.call { callee:=.value (.func f),args:=#[x,y,z],argTypes:=#[t,t,t] }) {v u s:U} (hx:ρ x=v) (hy:ρ y=u) (hz:ρ z=s) (hf:ρ (.func f)=.func (.func f) #[] #[]) (w:O)
  (hc:(callFunc f #[v,u,s]).run P w=.ok (.enter f #[v,u,s]) w):(execOp ρ o).run P w=.ok (.enter f #[v,u,s]) w:=by
 simp [execOp,ho,resolve,invoke,hx,hy,hz,hf,bL,hc]
theorem dX {P:Program} (ρ:Y->U) (o:Oper) (s:ak) (x:Y) (f:Nat) (ho:o.op=.fieldAddr s x f) {v:U} {w:O} (hr:(Instr.fieldAt s (ρ x) f).run P w=.ok v w):(execOp ρ o).run P w=.ok (.value v) w:=by
 unfold execOp;rw [ho];exact aac hr
theorem Sw {P:Program} (ρ:Y->U) (o:Oper) (op:BinOp) (t:ak) (x y:Y) (r:ak) (ho:o.op=.binOp op t x y r) {v:U} {w:O} (hr:(do eqGuard op t x y (ρ x) (ρ y); binOp op t (ρ x) (ρ y):Sem U).run P w=.ok v w):(execOp ρ o).run P w=.ok (.value v) w:=by
 unfold execOp;rw [ho];exact aac hr
theorem wpOp_mono {P:Program} {ops:Array Oper} {Q:Exit->bJ->O->Prop} {i:Nat} {K K':bJ->O->Prop} {a:bJ} {w:O} (h:∀ a w,K a w->K' a w) (hw:wpOp P ops Q i K a w):wpOp P ops Q i K' a w:=by
 unfold wpOp at hw ⊢;cases ho:ops[i]? with
 | none =>
  rw [ho] at hw;exact h _ _ hw
 | some o =>
  rw [ho] at hw;simp only at hw ⊢
  split at hw
  ·rename_i h1
   rw [if_pos h1];rcases hw with hw|hw
   ·exact aX (Oper.wp_mono h hw)
   ·exact aY hw
  ·rename_i h1
   rw [if_neg h1];exact h _ _ hw
def fF (P:Program) (ops:Array Oper) (Q:Exit->bJ->O->Prop):Nat->Nat->bJ->O->Prop
 | 0,_,a,w=>Q .normal a w
 | n+1,k,a,w=>wpOp P ops Q k (fun a w=>fF P ops Q n (k+1) a w) a w
structure aad (i M:Nat) (dst last:Nat->Nat) (V:Nat->U->O->Prop) (base:bJ) (o:Oper) (a:bJ) (w:O):Prop where
 kp:∀ j u,(∀ k,k<M->dst k≠j)->base.tmps[j]?=aj u->a.eval (.tmp j)=u
 at_:∀ e∈o.after,ay .any e=aD->(last e.on=i\/M<=last e.on)->V e.on (a.eval (.tmp (dst e.on))) w
 got:∀ e∈o.after,ay .any e=aD->a.tmps[dst e.on]?=aj (a.eval (.tmp (dst e.on)))
structure PhL (l:List Oper) (M:Nat) (dst last:Nat->Nat) (V:Nat->U->O->Prop) (base:bJ) (w:O) (L:Array Bool) (a:bJ) (x:O):Prop where
 no:∀ i,M<=i->¬ done L i
 cl:∀ i o,done L i->l[i]?=aj o->∀ e∈o.after,ay .any e=aD->done L e.on
 df:a.defers=base.defers
 sz:a.tmps.size=base.tmps.size
 kp:∀ j,(∀ i,i<M->dst i≠j)->a.tmps[j]?=base.tmps[j]?
 uZ:Below w.heap.size w x
 val:∃ vs:Nat->U,∀ i,i<M->done L i->a.tmps[dst i]?=aj (vs i)/\(¬ done L (last i)->V i (vs i) x)
theorem fM {P:Program} {Q:Exit->bJ->O->Prop} {id:Nat} {base:bJ} {w:O} {l:List Oper} (N M:Nat) (dst last:Nat->Nat) (V:Nat->U->O->Prop)
  (hm:P.follows .mixedOrders=aD) (hf:Po l.toArray=aD) (hN:l.length=N) (hMN:M<=N) (hinj:∀ i j,i<M->j<M->dst i=dst j->i=j) (hs:∀ i,i<M->dst i<base.tmps.size)
  (hop:∀ i o,i<M->l[i]?=aj o->∀ a w' (D:Nat->Prop),¬ D i->(∀ j oj,D j->l[j]?=aj oj->∀ e∈oj.after,ay .any e=aD->D e.on)->(∀ e∈o.after,ay .any e=aD->D e.on)->Below w.heap.size w w'->aad i M dst last V base o a w'->∀ K:bJ->O->Prop,(∀ v w'',V i v w''->Below w.heap.size w' w''->(∀ j u,j<M->D j->¬ D (last j)->last j≠i->j≠i->V j u w'->V j u w'')->K (a.put (aj (dst i)) v) w'')->wpOp P l.toArray Q i K a w')
  (hall:M<N->∀ D:Nat->Prop,(∀ j o,D j->l[j]?=aj o->∀ e∈o.after,ay .any e=aD->D e.on)->(∀ o,l[M]?=aj o->∀ e∈o.after,ay .any e=aD->D e.on)->∀ i,i<M->D i)
  (hnext:∀ k o,M<k->k<N->l[k]?=aj o->∃ e∈o.after,ay .any e=aD/\e.on=k-1)
  (hseq:∀ a w',a.defers=base.defers->a.tmps.size=base.tmps.size->(∀ j,(∀ i,i<M->dst i≠j)->a.tmps[j]?=base.tmps[j]?)->(∃ vs:Nat->U,∀ i,i<M->a.tmps[dst i]?=aj (vs i)/\(M<=last i->V i (vs i) w'))->Below w.heap.size w w'->fF P l.toArray Q (N-M) M a w'):(Code.region id l.toArray aD).wp P Q base w:=by
 refine sG (fun L a x=>PhL l M dst last V base w L a x\/∃ s,1<=s/\M+s<=N/\(∀ i,i<N->(done L i↔i<M+s))/\fF P l.toArray Q (N-M-s) (M+s) a x) hm hf ?_ ?_ ?_
 ·exact aX ⟨fun i _=>gP _ _,fun i o h=>absurd h (gP _ _),rfl,rfl,fun _ _=>rfl,(Below.refl _ _).drew,fun _=>.bool aD,fun i _ h=>absurd h (gP _ _)⟩
 ·intro L a x i o hsz hI ho hnd pF;have hi:i<l.length:=(List.getElem?_eq_some_iff.1 ho).1;have Cw:i<L.size:=by omega
  rcases hI with I|⟨s,h1,h2,h3,h4⟩
  ·rcases aB i M with hiM|hiM
   ·obtain⟨vs,q1⟩:=I.val;have hon:∀ e∈o.after,ay .any e=aD->e.on<M:=fun e he hb=>by
     have h7:=cK.1 hf i (List.mem_range.2 (by simpa using hi));have ho':(l.toArray)[i]?=aj o:=by simpa using ho
     rw [ho'] at h7;have h8:=bV.1 h7 e he;rw [hb] at h8;have:e.on<i:=by simpa using h8
     omega
    have seen:aad i M dst last V base o a x:=⟨fun j u hj hu=>dK (by rw [I.kp j hj]; exact hu),fun e he hbd hl=>by
     obtain⟨p1,p2⟩:=q1 e.on (hon e he hbd) (pF e he hbd);rw [dK p1];refine p2 ?_;rcases hl with hl|hl
     ·rw [hl]; exact hnd
     ·exact I.no _ hl,fun e he hbd=>by
     obtain⟨p1,p2⟩:=q1 e.on (hon e he hbd) (pF e he hbd);rw [dK p1];exact p1⟩
    refine hop i o hiM ho a x (done L) hnd I.cl pF I.uZ seen _ fun v w'' hvw hbw hpr=>aX ?_;refine⟨fun k hk hd=>?_,fun k q hk hq e he hb=>?_,I.df,by rw [size_put]; exact I.sz,fun j hj=>?_,I.uZ.trans hbw,fun k=>if k=i then v else vs k,fun k Yn hk=>?_⟩
    ·rcases (iF Cw k).1 hd with h9|h9
     ·omega
     ·exact I.no k hk h9
    ·rw [iF Cw] at hk ⊢;rcases hk with rfl|hk
     ·rw [hq] at ho;cases ho;exact aY (pF e he hb)
     ·exact aY (I.cl k q hk hq e he hb)
    ·rw [get_put _ _ _ _ (fun e=>hj i hiM e.symm)];exact I.kp j hj
    ·by_cases e:k=i
     ·subst e;have:dst k<a.tmps.size:=by rw [I.sz]; exact hs k Yn
      simp only [if_true];exact⟨by simp [Act.put,this],fun _=>hvw⟩
     ·simp only [if_neg e];rw [get_put _ _ _ _ (fun e2=>e (hinj k i Yn hiM e2))];rcases (iF Cw k).1 hk with h9|h9
      ·exact absurd h9 e
      ·obtain⟨p1,p2⟩:=q1 k Yn h9;refine⟨p1,fun hn=>?_⟩;have n1:last k≠i:=fun e3=>hn ((iF Cw _).2 (aX e3));have n2:¬ done L (last k):=fun e3=>hn ((iF Cw _).2 (aY e3));exact hpr k _ Yn h9 n2 n1 e (p2 n2)
   ·have ahR:i=M:=by
     rcases aB M i with h9|h9
     ·obtain⟨e,he,hb,hon⟩:=hnext i o h9 (by omega) ho;have hd:=pF e he hb;rw [hon] at hd;exact absurd hd (I.no _ (by omega))
     ·omega
    subst ahR;have hD:=hall (by omega) (done L) I.cl (fun o' ho' e he hb=>by
     rw [ho] at ho';cases ho';exact pF e he hb)
    obtain⟨vs,q1⟩:=I.val;have hq:=hseq a x I.df I.sz I.kp ⟨vs,fun k hk=>⟨(q1 k hk (hD k hk)).1,fun hl=>(q1 k hk (hD k hk)).2 (I.no _ hl)⟩⟩ I.uZ;rw [show N-i=(N-i-1)+1 by omega] at hq;refine wpOp_mono (fun a' x' h=>aY ⟨1,aT _,by omega,fun k hk=>?_,h⟩) hq;rw [iF Cw];constructor
    ·rintro (rfl|h9)
     ·omega
     ·rcases aB k i with h8|h8
      ·omega
      ·exact absurd h9 (I.no k h8)
    ·intro h9;by_cases e:k=i
     ·exact aX e
     ·exact aY (hD k (by omega))
  ·have hge:M+s<=i:=by
    rcases aB i (M+s) with h9|h9
    ·exact absurd ((h3 i (by omega)).2 h9) hnd
    ·exact h9
   have hie:i=M+s:=by
    rcases aB (M+s) i with h9|h9
    ·obtain⟨e,he,hb,hon⟩:=hnext i o (by omega) (by omega) ho;have hd:=pF e he hb;rw [hon] at hd;have:=(h3 (i-1) (by omega)).1 hd;omega
    ·omega
   subst hie;rw [show N-M-s=(N-M-(s+1))+1 by omega] at h4;refine wpOp_mono (fun a' x' h=>aY ⟨s+1,by omega,by omega,fun k hk=>?_,h⟩) h4;rw [iF Cw];constructor
   ·rintro (rfl|h9)
    ·omega
    ·have:=(h3 k hk).1 h9;omega
   ·intro h9;by_cases e:k=M+s
    ·exact aX e
    ·exact aY ((h3 k hk).2 (by omega))
 ·intro L a x hI hd;rcases hI with I|⟨s,h1,h2,h3,h4⟩
  ·rcases aB M N with h9|h9
   ·exact absurd (hd M (by omega)) (I.no M (aT _))
   ·obtain⟨vs,q1⟩:=I.val;have hq:=hseq a x I.df I.sz I.kp ⟨vs,fun k hk=>⟨(q1 k hk (hd k (by omega))).1,fun hl=>(q1 k hk (hd k (by omega))).2 (I.no _ hl)⟩⟩ I.uZ;rw [show N-M=0 by omega] at hq;exact hq
  ·have:=(h3 (N-1) (by omega)).1 (hd (N-1) (by omega));rw [show N-M-s=0 by omega] at h4;exact h4
theorem iW {P:Program} (ρ:Y->U) (o:Oper) (t:ak) (parts:Array (Nat×Y)) (ho:o.op=.build t parts) {ps:Array (Nat×U)} (hp:parts.map (fun x=>(x.1,ρ x.2))=ps) {v:U} {w:O} (hr:(Instr.build t ps).run P w=.ok v w) :
  (execOp ρ o).run P w=.ok (.value v) w:=by
 subst hp;simp [execOp,ho,hr,aG]
theorem Sy {P:Program} (ρ:Y->U) (o:Oper) (t:ak) (x y:Y) (ho:o.op=.store t x y) {w w':O} (hr:(Instr.storeAt t (ρ x) (ρ y)).run P w=.ok () w') :
  (execOp ρ o).run P w=.ok .skip w':=by
 simp [execOp,ho,hr,aG]
end Rg
namespace Wi
open Go.RowKit
def within (n lo hi:Int):Int:=lo+n % (hi-lo+1)
theorem iX (n lo hi:Int) (h:lo<=hi):lo<=within n lo hi/\within n lo hi<=hi:=by
 unfold within;have h1:=bQ n (show hi-lo+1≠0 by omega);have h2:=bg n (show 0<hi-lo+1 by omega);omega
theorem Kh (n lo hi:Int) (h:lo<=hi) (hn:¬ n.tmod (hi-lo+1)<0):lo+n.tmod (hi-lo+1)=within n lo hi:=by
 unfold within;rw [bM] at hn ⊢
 split at hn
 ·rename_i h0; rw [if_pos h0]; omega
 ·rename_i h0
  rw [if_neg h0] at *;have h2:=bg n (show 0<hi-lo+1 by omega);have:((hi-lo+1).natAbs:Int)=hi-lo+1:=by omega
  omega
theorem Ki (n lo hi:Int) (h:lo<=hi) (hn:n.tmod (hi-lo+1)<0):lo+(n.tmod (hi-lo+1)+hi-lo+1)=within n lo hi:=by
 unfold within;rw [bM] at hn ⊢
 split at hn
 ·have h1:=bQ n (show hi-lo+1≠0 by omega);omega
 ·rename_i h0
  rw [if_neg h0] at *;have:((hi-lo+1).natAbs:Int)=hi-lo+1:=by omega
  omega
theorem Yo (n m:Int) (h:0<m):-m<n.tmod m/\n.tmod m<m:=by
 rw [bM];have h1:=bQ n (show m≠0 by omega);have h2:=bg n h
 split <;> omega
theorem zu {k:IntKind} {a b:Int} (h:a=b):aM (aU k a)=aM (aU k b):=by rw [h]
theorem gZ (n lo hi:Int) (w:O) (h:lo<=hi) (h1:-1000000<=lo) (h2:hi<=1000000) (_hn1:-9223372036854775808<=n) (_hn2:n<=9223372036854775807) :
  Calls ah 9 #[aU aJ n,aU aJ lo,aU aJ hi] w fun e w'=>e=aM (aU aJ (within n lo hi))/\w=w':=by
 have hm:0<hi-lo+1:=by omega
 have hm2:hi-lo+1<=2000001:=by omega
 have hb:=Yo n (hi-lo+1) hm;have P:=bI (Kh n lo hi h);have Q:=bI (Ki n lo hi h);go_enter Tryz.func9,Tryz.ntmps9;go_wp2
 ·go_ret;exact⟨zu (Q.out (by omega)),rfl⟩
 ·go_ret;exact⟨zu (P.out (by omega)),rfl⟩
end Wi
namespace Va
open Go.RowKit
abbrev vl (t:Bool) (n:Int) (s:ByteArray):U:=.agg #[.bool t,aU aJ n,aR s]
def Fh (t:Bool) (n:Int) (s:ByteArray):Bool:=if t then decide (n=0) && decide (s.size<=12) else s.toList.isEmpty
theorem fu {a b:Bool} (h:a=b):aM (.bool a)=aM (.bool b):=by rw [h]
def acT:Array U:=#[aR ⟨#[]⟩,aR ⟨#[120]⟩,aR ⟨#[120,121]⟩,aR ⟨#[120,121,122]⟩,aR ⟨#[120,122]⟩,aR ⟨#[121]⟩,aR ⟨#[121,121]⟩]
def qp (r:Int):ByteArray:=[⟨#[]⟩,⟨#[120]⟩,⟨#[120,121]⟩,⟨#[120,121,122]⟩,⟨#[120,122]⟩,⟨#[121]⟩,⟨#[121,121]⟩].getD r.toNat ⟨#[]⟩
theorem MJ (r:Int) (h0:0<=r) (h1:r<=6):acT[r.toNat]?=aj (aR (qp r)):=by
 obtain⟨n,rfl⟩:=Int.eq_ofNat_of_zero_le h0;have hn:n<=6:=by omega
 match n,hn with
 | 0,_=>rfl
 | 1,_=>rfl
 | 2,_=>rfl
 | 3,_=>rfl
 | 4,_=>rfl
 | 5,_=>rfl
 | 6,_=>rfl
theorem xO (w:O) :
  Calls ah 65 #[] w fun e w'=>e=aM (aC (aj ⟨w.heap.size,0,aN⟩) 7 7)/\w'=w.alloc (.cells acT 9):=by
 go_enter Tryz.func65,Tryz.ntmps65;go_wp2;go_ret;exact⟨rfl,rfl⟩
def evn (n:Int):Bool:=bits BinOp.and aJ n 1 == 0
def Yg (n:Int):Int:=if evn n then Wi.within (n.tdiv 2) 0 9 else 0
def R7 (n:Int):ByteArray:=if evn n then ⟨#[]⟩ else qp (Wi.within (n.tdiv 2) 0 6)
theorem Yp (n:Int) (h1:-9223372036854775808<=n) (h2:n<=9223372036854775807):-9223372036854775808<=n.tdiv 2/\n.tdiv 2<=9223372036854775807:=by
 have hs:Int.sign 2=1:=rfl;rw [Int.tdiv_eq_ediv,hs]
 split <;> omega
theorem Kj (n:Int) (w:O) (h1:-9223372036854775808<=n) (h2:n<=9223372036854775807) :
  Calls ah 32 #[aU aJ n] w fun e w'=>e=aM (vl (!(evn n)) (Yg n) (R7 n))/\Below w.heap.size w w':=by
 have hh:=Yp n h1 h2;cases he:evn n
 ·have hev:(bits BinOp.and aJ n 1 == 0)=cO:=he;have hw:=Wi.iX (n.tdiv 2) 0 6 (by omega);have C:=bI (fun wx=>Wi.gZ (n.tdiv 2) 0 6 wx (by omega) (by omega) (by omega) hh.1 hh.2);have KN:=bI (show Yg n=0 by simp [Yg,he]);have KS:=bI (show R7 n=qp (Wi.within (n.tdiv 2) 0 6) by simp [R7,he]);clear he hh;generalize Wi.within (n.tdiv 2) 0 6=r at C KS hw;have hr0:=hw.1;have hr1:=hw.2;have TX:=bI (MJ r hr0 hr1);clear hw;go_enter Tryz.func32,Tryz.ntmps32;go_wp2_with fail;refine (xO _).mono ?_;rintro e1 w1 ⟨rfl,rfl⟩;go_wp2_with fail;refine (C.out _).mono ?_;rintro e2 w2 ⟨rfl,rfl⟩;have hc:((w.alloc (.cells #[.bool cO,aU aJ 0,aR ⟨#[]⟩] 93)).alloc (.cells acT 9)).cell? ⟨w.heap.size+1,r.toNat,aN⟩=aj (aR (qp r)):=by
   rw [World.cell?_alloc_at _ _ _ _ (by simp)]; exact TX.out
  go_wp2;rw [KN.out,KS.out];exact bodyPost_ret (v:=vl aD 0 (qp r)) (by simp [results,Tryz.results32,go_sem]) rfl ⟨rfl,((Below.refl _ _).alloc (aT _) _).alloc (by simp) _⟩
 ·have hev:(bits BinOp.and aJ n 1 == 0)=aD:=he;have C:=bI (fun wx=>Wi.gZ (n.tdiv 2) 0 9 wx (by omega) (by omega) (by omega) hh.1 hh.2);have KN:=bI (show Yg n=Wi.within (n.tdiv 2) 0 9 by simp [Yg,he]);have KS:=bI (show R7 n=⟨#[]⟩ by simp [R7,he]);clear he hh;generalize Wi.within (n.tdiv 2) 0 9=r at C KN;go_enter Tryz.func32,Tryz.ntmps32;go_wp2_with fail;refine (C.out _).mono ?_;rintro e2 w2 ⟨rfl,rfl⟩;go_wp2;rw [KN.out,KS.out];exact bodyPost_ret (v:=vl cO r ⟨#[]⟩) (by simp [results,Tryz.results32,go_sem]) rfl ⟨rfl,(Below.refl _ _).alloc (aT _) _⟩
theorem zM (r:Int):(qp r).size<=3:=by
 unfold qp;rcases aB r.toNat 7 with h|h
 ·generalize r.toNat=n at h
  match n,h with
  | 0,_=>decide
  | 1,_=>decide
  | 2,_=>decide
  | 3,_=>decide
  | 4,_=>decide
  | 5,_=>decide
  | 6,_=>decide
 ·rw [List.getD_eq_getElem?_getD,List.getElem?_eq_none (by simpa using h)]
  decide
theorem Hr (n:Int):(R7 n).size<=3:=by
 unfold R7; split
 ·decide
 ·exact zM _
theorem Sz (n:Int):Fh (!(evn n)) (Yg n) (R7 n)=aD:=by
 have hs:=Hr n;cases h:evn n
 ·have h0:Yg n=0:=by simp [Yg,h]
  simp [Fh,h0]; omega
 ·have h0:R7 n=⟨#[]⟩:=by simp [R7,h]
  rw [h0]; simp [Fh]
end Va
end Go.Proofs.YtkcfgbddlpomgaaGreat
