/-
  Numbers in memory, a. Conditions as told.
-/
import Derived.Test.YtmklifheakemeaaGreatLQ000
import Derived.Lib.AppendZerosOnto
import Derived.Lib.Overlaps
import Derived.Deep.RegionLaw
import Derived.Laws.Externs
import Derived.Orders
import Derived.ChangeSlices
import Derived.Below
import Derived.Test.YtmklifheakemeaaGreatLQ001
import Derived.Lib.Bytealg
set_option maxRecDepth 100000
set_option maxHeartbeats 64000000
open _root_.Array renaming getD->aD,getElem?_eq_some_iff->aL,length_toList->aT,getElem?_eq_getElem->aZ,all_eq_true'->bU,replicate->dh
open _root_.Bool renaming true->aF,false->bZ
open _root_.Go renaming World->J,Value->O,Operand->aj,TypeId->aB,Act->bN
open Go.Builtin renaming copy_->aI,append_->aS,firstCells->bS,zeroCells->bW
open Go.IntKind renaming i64->aQ
open Go.Lib renaming compareBytes->X
open Go.Op renaming bytesLess->au
open Go.Oper renaming wp->aU,upon_enter->dw
open Go.Proofs.Tryz renaming prog->ah,underlying22->bg
open Go.Region renaming wanted->U,binds->aV,ready->cu
open Go.Result renaming andThen->aO,andThen_ok->bq
open Go.Value renaming slice->aA,string->aP,int->bF
open _root_.List renaming length_take->ak,append_assoc->ay,getElem?_eq_some_iff->aC,getElem?_take->aG,length_append->aH,size_toArray->aJ,length_drop->aM,getElem?_eq_getElem->aN,getElem?_drop->aW,getElem?_append_right->aX,getD_eq_getElem?_getD->aY,getElem?_append_left->bf,map_toArray->bG,getElem_mem->bH,take_of_length_le->bI,drop_of_length_le->bJ,take_append_drop->bM,map_cons->bR,map_nil->bY,all_eq_true->cK,take_left'->cZ,take_left->dx,take_take->dz,mem_range->dD
open _root_.Nat renaming mul_le_mul_right->D,min_eq_left->Z,add_mul->aR,lt_or_ge->bK,add_zero->bV,le_refl->cO,mul_le_mul->dB
open _root_.Option renaming some->Y,none->aK
open _root_.UInt8 renaming not_lt->bL,le_antisymm->cB
namespace Go.Proofs.YtmklifheakemeaaGreat
namespace Nm
open Go.RowKit Rw
def EI:Ek Int:=⟨3,22,1,8,bF aQ 0,fun n=>.int aQ n,fun n=>[bF aQ n]⟩
theorem UJ:(Tryz.prog.info? 3).map (fun i=>(i.zero,i.size,i.bytes))=Y (Y (bF aQ 0),1,8):=by kernel_rfl
theorem Qh:EI.Ok where
 hu:=bg
 info:=by
  have h:=UJ;cases hi:Tryz.prog.info? 3 with
  | none=>rw [hi] at h; cases h
  | some i =>
   rw [hi] at h;simp only [Option.map_some,Option.some.injEq,Prod.mk.injEq] at h;exact⟨i,hi,h.1,h.2.1,h.2.2⟩
 zs:=rfl
 len:=fun _=>rfl
 one:=fun x u hu=>by
  simp only [EI,List.mem_cons,List.not_mem_nil,or_false] at hu;rw [hu]
  rfl
 pos:=by decide
 few:=by decide
 load:=fun w p x h=>by
  have h0:=h 0 _ rfl;rw [add_zero] at h0;show (Instr.loadAt 3 (.pointer (Y p))).run ah w=.ok (bF aQ x) w;simp [go_sem,h0]
abbrev uW (W:J) (v:O) (l:List Int):Prop:=Row EI W v l
abbrev uX (W:J) (B:Nat) (v:O) (l:List Int):Prop:=Own EI W B v l
theorem Af:∀ l:List Int,flat EI l=l.map (fun n=>.int aQ n)
 | []=>rfl
 | x::r=>by
  show EI.cells x++flat EI r=_;rw [Af r]
  rfl
end Nm
namespace Rw
open Go.RowKit
variable {α:Type} {E:Ek α}
theorem below_setRow {B g:Nat} {W w:J} (h:Below B W w) (hB:B<=g) (cs:Array O):Below B W (w.setRow g cs) :=
 ⟨h.os,h.tape,h.output,by simp [World.setRow]; exact h.size,fun k hk=>by
  have hne:g≠k:=by omega
  have h2:=h.block k hk;simp [World.setRow,Array.getElem?_modify,hne,h2]⟩
theorem dI.set {w:J} {g:Nat} {cur:Array O} {t:aB} (h:dI w g cur t) (cs:Array O):dI (w.setRow g cs) g cs t:=setRow_heap w g cur cs t (0,0) h
theorem dI.other {w:J} {g b:Nat} {cur:Array O} {t:aB} (h:dI w b cur t) (hne:b≠g) (cs:Array O):dI (w.setRow g cs) b cur t:=(setRow_other w g b cs hne).trans h
theorem dI.drew {w:J} {b:Nat} {cur:Array O} {t:aB} (h:dI w b cur t):dI w.drew b cur t:=h
theorem dI.shape {w:J} {b:Nat} {cur:Array O} {t:aB} (h:dI w b cur t):w.shape? b=Y (t,cur.size):=by
 unfold dI at h;simp [World.shape?,h]
theorem gq {W:J} {B:Nat} {v:O} {l:List α} (h:Own E W B v l):(v=aA aK 0 0/\l=[])\/∃ g cap cur,v=aA (Y ⟨g,0,aK⟩) l.length cap/\B<=g/\dI W g cur E.t/\l.length<=cap/\cap<=maxLen/\cur.size=cap * E.n/\cur.toList.take (l.length * E.n)=flat E l:=by
 rcases h.2 with⟨h1,h2⟩|⟨g,cap,cur,h1,h2,h3,h4,h5,h6,h7⟩
 ·exact Or.inl ⟨h1,List.eq_nil_of_length_eq_zero h2⟩
 ·exact Or.inr ⟨g,cap,cur,h1,h2,h3,h4,h5,h6,h7⟩
theorem mG (K:E.Ok) {W:J} {B g cap n:Nat} {cur:Array O} {l:List α} (hn:n=l.length) (hB:B<=g) (hb:dI W g cur E.t) (h1:n<=cap) (h2:cap<=maxLen) (h3:cur.size=cap * E.n) (h4:cur.toList.take (n * E.n)=flat E l):Own E W B (aA (Y ⟨g,0,aK⟩) n cap) l:=by
 subst hn;exact⟨dQ K l,Or.inr ⟨g,cap,cur,rfl,hB,hb,h1,h2,h3,h4⟩⟩
theorem oP (K:E.Ok) (l:List α) (k:Nat):(flat E l).take (k * E.n)=flat E (l.take k):=by
 rcases Nat.le_total k l.length with h|h
 ·conv=>lhs; rw [<- bM k l,gD]
  have e:(flat E (l.take k)).length=k * E.n:=by rw [dQ K,ak,Z h]
  rw [<- e,dx]
 ·rw [bI h,bI];rw [dQ K];exact D _ h
theorem IZ (K:E.Ok) (l:List α) (k:Nat):(flat E l).drop (k * E.n)=flat E (l.drop k):=by
 rcases Nat.le_total k l.length with h|h
 ·conv=>lhs; rw [<- bM k l,gD]
  have e:(flat E (l.take k)).length=k * E.n:=by rw [dQ K,ak,Z h]
  rw [<- e,List.drop_left]
 ·rw [bJ h,bJ]
  ·rfl
  rw [dQ K];exact D _ h
theorem Ag (K:E.Ok) {W:J} {g:Nat} {cur:Array O} {t:aB} {l:List α} (hb:dI W g cur t) (ht:cur.toList.take (l.length * E.n)=flat E l) (k:Nat):∀ j u,(flat E (l.drop k))[j]?=Y u->W.cell? ((⟨g,k * E.n,aK⟩:Addr).add j)=Y u:=by
 intro j u hj;rw [Addr.add_lit,hb.cell];rw [<- IZ K,aW,<- ht,aG] at hj
 split at hj
 ·simpa using hj
 ·cases hj
theorem oQ {W:J} {b:Nat} {cs:Array O} {t:aB} {x:α} (hb:dI W b cs t) (hc:cs.toList=E.cells x):∀ j u,(flat E [x])[j]?=Y u->W.cell? ((⟨b,0,aK⟩:Addr).add j)=Y u:=by
 intro j u hj;rw [nC,hb.cell];rw [IK,<- hc] at hj;simpa using hj
theorem gK (K:E.Ok) (g k len cap:Nat) (h:k<=len) (hc:k<cap) (w:J):(Instr.sliceAt E.ts (aA (Y ⟨g,0,aK⟩) len cap) (Y (bF aQ k)) aK aK).run ah w=.ok (aA (Y ⟨g,k * E.n,aK⟩) (len-k) (cap-k)) w:=by
 rw [z8 K ⟨g,0,aK⟩ k len cap h w,if_neg (by omega),nC]
theorem qE (K:E.Ok) {w:J} {g o nd cd ns sc:Nat} {a:Addr} {cur:Array O} {m:List α} (hb:dI w g cur E.t) (hm:∀ j u,(flat E m)[j]?=Y u->w.cell? (a.add j)=Y u) (hk:min ns nd=m.length) (hr:(o+m.length) * E.n<=cur.size) (ty:aB) :
  (aI #[E.ts,E.ts] ty #[aA (Y ⟨g,o * E.n,aK⟩) nd cd,aA (Y a) ns sc]).run ah w=.ok (bF aQ m.length) (w.setRow g (cur.toList.take (o * E.n)++flat E m++cur.toList.drop ((o+m.length) * E.n)).toArray):=by
 obtain⟨i,i1,i2,i3,i4⟩:=K.info;have hl:=run_loadCells_list (P:=ah) w a (flat E m) hm;have hst:=run_storeCells_at ah g (o * E.n) E.t (flat E m) 0 cur w hb (by rw [dQ K,bV,<- aR]; exact hr) (mD K m);rw [dQ K] at hl;have e:o * E.n+0+(flat E m).length=(o+m.length) * E.n:=by rw [dQ K,bV,aR]
 rw [e,bV] at hst;simp [aI,run_underlying K.hu,Builtin.lenOf,bS,sizeOf,typeInfo,i1,i3,hk,hl,goInt];simpa using congrArg (fun r=>r.andThen fun _ w=>Result.ok (bF aQ m.length) w) hst
/-! ### one element more, in the middle -/
section
variable {l:List α} {k cap:Nat} {cur cs:Array O} {c:α}
theorem oU (K:E.Ok) (hk:k<l.length) (hcap:l.length+1<=cap) (hsz:cur.size=cap * E.n) (ht:cur.toList.take (l.length * E.n)=flat E l) (g b:Nat) (_hne:b≠g) :
  ∃ R1 R2:Array O,
   (∀ (W:J) (ty:aB) (nd dc ns sc:Nat),dI W g cur E.t->min ns nd=l.length-k->(aI #[E.ts,E.ts] ty #[aA (Y ⟨g,(k+1) * E.n,aK⟩) nd dc,aA (Y ⟨g,k * E.n,aK⟩) ns sc]).run ah W=.ok (bF aQ ((l.length-k:Nat):Int)) (W.setRow g R1)) /\
   (∀ (W:J) (ty:aB) (nd dc:Nat),dI W g R1 E.t->dI W b cs E.t->cs.toList=E.cells c->1<=nd->(aI #[E.ts,E.ts] ty #[aA (Y ⟨g,k * E.n,aK⟩) nd dc,aA (Y ⟨b,0,aK⟩) 1 1]).run ah W=.ok (bF aQ 1) (W.setRow g R2)) /\
   (∀ (W:J) (B:Nat),B<=g->cap<=maxLen->dI W g R2 E.t->Own E W B (aA (Y ⟨g,0,aK⟩) (l.length+1) cap) (l.take k++c::l.drop k)):=by
 have hkl:(l.drop k).length=l.length-k:=by simp
 have hs1:(cur.toList.take ((k+1) * E.n)++flat E (l.drop k)++cur.toList.drop ((k+1+(l.drop k).length) * E.n)).length=cap * E.n:=by
  have h1:(k+1) * E.n<=cap * E.n:=D _ (by omega);have h2:(k+1+(l.drop k).length) * E.n<=cap * E.n:=D _ (by omega);simp only [aH,ak,aM,aT,dQ K,hsz];rw [Z h1];have h3:(k+1+(l.drop k).length) * E.n=(k+1) * E.n+(l.drop k).length * E.n:=aR ..;simp only [aM] at h2 h3 ⊢;omega
 refine⟨(cur.toList.take ((k+1) * E.n)++flat E (l.drop k)++cur.toList.drop ((k+1+(l.drop k).length) * E.n)).toArray,
  ((cur.toList.take ((k+1) * E.n)++flat E (l.drop k)++cur.toList.drop ((k+1+(l.drop k).length) * E.n)).take (k * E.n)++flat E [c]++(cur.toList.take ((k+1) * E.n)++flat E (l.drop k)++cur.toList.drop ((k+1+(l.drop k).length) * E.n)).drop ((k+1) * E.n)).toArray,?_,?_,?_⟩
 ·intro W ty nd dc ns sc hb hm;have h:=qE K (o:=k+1) (m:=l.drop k) (nd:=nd) (cd:=dc) (ns:=ns) (sc:=sc) hb (Ag K hb ht k) (by rw [hkl]; exact hm) (by rw [hkl,hsz]; exact D _ (by omega)) ty;rw [hkl] at h ⊢;exact h
 ·intro W ty nd dc hb hx hc hn;have h:=qE K (o:=k) (m:=[c]) (nd:=nd) (cd:=dc) (ns:=1) (sc:=1) hb (oQ hx hc) (by simp; omega) (by rw [aJ,hs1]; exact D _ (by simp; omega)) ty;simpa using h
 ·intro W B hB hm hb;have p1:(cur.toList.take ((k+1) * E.n)).length=(k+1) * E.n:=by
   rw [ak,aT,hsz];exact Z (D _ (by omega))
  have p2:(cur.toList.take ((k+1) * E.n)++flat E (l.drop k)++cur.toList.drop ((k+1+(l.drop k).length) * E.n)).take (k * E.n)=flat E (l.take k):=by
   rw [ay,List.take_append_of_le_length (by rw [p1]; exact D _ (by omega)),dz,Z (D _ (by omega)),<- oP K,<- ht,dz,Z (D _ (by omega))]
  have p3:(cur.toList.take ((k+1) * E.n)++flat E (l.drop k)++cur.toList.drop ((k+1+(l.drop k).length) * E.n)).drop ((k+1) * E.n)=flat E (l.drop k)++cur.toList.drop ((k+1+(l.drop k).length) * E.n):=by
   rw [ay,List.drop_left' p1]
  have e:flat E (l.take k)++flat E [c]++flat E (l.drop k)=flat E (l.take k++c::l.drop k):=by
   rw [gD,show c::l.drop k=[c]++l.drop k from rfl,gD,ay]
  have ln:(l.take k++c::l.drop k).length=l.length+1:=by simp; omega
  have q:(flat E (l.take k)++flat E [c]++flat E (l.drop k)).length=(l.length+1) * E.n:=by rw [e,dQ K,ln]
  refine mG K ln.symm hB hb hcap hm ?_ ?_
  ·rw [aJ,p2,p3,<- ay,aH,q,aM,show cur.toList.length=cap * E.n from Array.length_toList.trans hsz,hkl];have h1:(l.length+1) * E.n<=cap * E.n:=D _ hcap;rw [show k+1+(l.length-k)=l.length+1 by omega];omega
  ·rw [p2,p3,<- ay];exact (cZ q).trans e
theorem qF (K:E.Ok) (tn:aB) (htn:Tryz.prog.underlying tn=Y (.int .i64)) (hk:k<l.length) (hl:l.length<=1000) (hcap:cap<l.length+1) (hlc:l.length<=cap) (ht:cur.toList.take (l.length * E.n)=flat E l) (W:J) (g b:Nat) (hb:dI W g cur E.t) (_hbW:b<W.heap.size) :
  ∃ (G:Nat) (R1 R2 R3:Array O),l.length+1<=G/\G<=maxLen /\
   (∀ ty,(aS #[E.ts,tn] ty #[aA (Y ⟨g,0,aK⟩) k cap,bF aQ ((l.length:Int)+1-k)]).run ah W=.ok (aA (Y ⟨W.heap.size,0,aK⟩) (l.length+1) G) (W.drew.alloc (.cells R1 E.t))) /\
   (∀ (w:J) (ty:aB) (nd dc:Nat),dI w W.heap.size R1 E.t->dI w b cs E.t->cs.toList=E.cells c->1<=nd->(aI #[E.ts,E.ts] ty #[aA (Y ⟨W.heap.size,k * E.n,aK⟩) nd dc,aA (Y ⟨b,0,aK⟩) 1 1]).run ah w=.ok (bF aQ 1) (w.setRow W.heap.size R2)) /\
   (∀ (w:J) (ty:aB) (nd dc ns sc:Nat),dI w W.heap.size R2 E.t->dI w g cur E.t->min ns nd=l.length-k->(aI #[E.ts,E.ts] ty #[aA (Y ⟨W.heap.size,(k+1) * E.n,aK⟩) nd dc,aA (Y ⟨g,k * E.n,aK⟩) ns sc]).run ah w=.ok (bF aQ ((l.length-k:Nat):Int)) (w.setRow W.heap.size R3)) /\
   (∀ (w:J) (B:Nat),B<=W.heap.size->dI w W.heap.size R3 E.t->Own E w B (aA (Y ⟨W.heap.size,0,aK⟩) (l.length+1) G) (l.take k++c::l.drop k)):=by
 obtain⟨i,i1,i2,i3,i4⟩:=K.info;have hf:=K.few;have hpos:=K.pos;have hkl:(l.drop k).length=l.length-k:=by simp
 have hold:(bS i.size k (aA (Y ⟨g,0,aK⟩) k cap)).run ah W.drew=.ok (flat E (l.take k)).toArray W.drew :=
  run_firstCells_some (P:=ah) (w:=W.drew) i.size k ⟨g,0,aK⟩ k cap (flat E (l.take k)) (by rw [dQ K,ak,Z (by omega),i3]) (fun j u hj=>by
   rw [nC];show W.cell? _=_;rw [hb.cell];rw [<- oP K,<- ht,aG] at hj
   split at hj
   ·rw [aG] at hj
    split at hj
    ·simpa using hj
    ·cases hj
   ·cases hj)
 have happ:=fun ty=>Lib.run_append_grow_zeros (P:=ah) W E.ts tn ty E.t i _ aQ aQ K.hu htn i1 i2 (Y ⟨g,0,aK⟩) k cap (flat E (l.take k)) hold (l.length+1-k) (by omega) (by rw [i3]; exact hpos) (by omega) (by omega)
  (by rw [i4]; exact Nat.le_trans (dB (show l.length+1-k<=2000 by omega) hf) (by decide))
  (growslice_fits (by omega) (by rw [i4]; exact Nat.le_trans (dB (show k+(l.length+1-k)<=2000 by omega) hf) (by decide)))
 rw [show k+(l.length+1-k)=l.length+1 by omega] at happ;have hG1:=grownCap_ge W (l.length+1) cap E.t;have hG2:=grownCap_le_maxLen W (l.length+1) cap E.t (by unfold maxLen; omega);generalize grownCap W (l.length+1) cap E.t=G at happ hG1 hG2;obtain⟨R1,hR1⟩:∃ R1:Array O,R1=(flat E (l.take k)).toArray++bW E.z.cells (l.length+1-k)++bW E.z.cells (G-(l.length+1)):=⟨_,rfl⟩;rw [<- hR1] at happ;have hs0:R1.size=G * E.n:=by
  rw [hR1];simp only [Array.size_append,aJ,size_zeroCells,K.zs,dQ K,ak,Z (Nat.le_of_lt hk),<- aR];rw [show k+(l.length+1-k)+(G-(l.length+1))=G by omega]
 have hh:R1.toList.take (k * E.n)=flat E (l.take k):=by
  rw [hR1];simp only [Array.toList_append,ay];have e:(flat E (l.take k)).length=k * E.n:=by rw [dQ K,ak,Z (by omega)]
  rw [<- e];simp
 have q1:(flat E [c]).length=1 * E.n:=by rw [dQ K]; rfl
 have q0:(R1.toList.take (k * E.n)).length=k * E.n:=by
  rw [hh,dQ K,ak,Z (by omega)]
 have hs2:(R1.toList.take (k * E.n)++flat E [c]++R1.toList.drop ((k+[c].length) * E.n)).length=G * E.n:=by
  have h1:(k+1) * E.n<=G * E.n:=D _ (by omega);have h2:(k+1) * E.n=k * E.n+1 * E.n:=aR ..;simp only [aH,q0,q1,aM,aT,hs0,List.length_singleton];omega
 refine⟨G,R1,(R1.toList.take (k * E.n)++flat E [c]++R1.toList.drop ((k+[c].length) * E.n)).toArray,
  ((R1.toList.take (k * E.n)++flat E [c]++R1.toList.drop ((k+[c].length) * E.n)).take ((k+1) * E.n)++flat E (l.drop k)++(R1.toList.take (k * E.n)++flat E [c]++R1.toList.drop ((k+[c].length) * E.n)).drop ((k+1+(l.drop k).length) * E.n)).toArray,hG1,hG2,?_,?_,?_,?_⟩
 ·intro ty;have h:=happ ty;rw [show ((l.length+1-k:Nat):Int)=(l.length:Int)+1-k by omega] at h;exact h
 ·intro w ty nd dc hb' hx hc hn;have h:=qE K (o:=k) (m:=[c]) (nd:=nd) (cd:=dc) (ns:=1) (sc:=1) hb' (oQ hx hc) (by simp; omega) (by rw [hs0]; exact D _ (by simp; omega)) ty;simpa using h
 ·intro w ty nd dc ns sc hb' hx hm;have h:=qE K (o:=k+1) (m:=l.drop k) (nd:=nd) (cd:=dc) (ns:=ns) (sc:=sc) hb' (Ag K hx ht k) (by rw [hkl]; exact hm) (by rw [hkl,aJ,hs2]; exact D _ (by omega)) ty;rw [hkl] at h ⊢;exact h
 ·intro w B hB hb';have p2:(R1.toList.take (k * E.n)++flat E [c]++R1.toList.drop ((k+[c].length) * E.n)).take ((k+1) * E.n)=flat E (l.take k)++flat E [c]:=by
   have e:(R1.toList.take (k * E.n)++flat E [c]).length=(k+1) * E.n:=by rw [aH,q0,q1,<- aR]
   rw [<- e,dx,hh]
  have e:flat E (l.take k)++flat E [c]++flat E (l.drop k)=flat E (l.take k++c::l.drop k):=by
   rw [gD,show c::l.drop k=[c]++l.drop k from rfl,gD,ay]
  have ln:(l.take k++c::l.drop k).length=l.length+1:=by simp; omega
  have q:(flat E (l.take k)++flat E [c]++flat E (l.drop k)).length=(l.length+1) * E.n:=by rw [e,dQ K,ln]
  refine mG K ln.symm hB hb' hG1 hG2 ?_ ?_
  ·rw [aJ,p2,aH,q,aM,hs2,hkl];have h1:(l.length+1) * E.n<=G * E.n:=D _ hG1;rw [show k+1+(l.length-k)=l.length+1 by omega];omega
  ·rw [p2];exact (cZ q).trans e
end
theorem iA {P:Program} {ops:Array Oper} {rest:List Oper} {o:Oper} {a:bN} {Q:Exit->bN->J->Prop} {w w':J} (hgd:o.guard=aK) (s x:aj) (t t':aB)
  (ho:o.op=.call { callee:=.builtin .append,args:=#[s,x],argTypes:=#[t,t'] }) {v xv v':O} (hs:a.eval s=v) (hx:a.eval x=xv) (hr:(aS #[t,t'] o.type #[v,xv]).run P w=.ok v' w')
  (h:wpList P ops Q rest (a.put o.dst v') w'):wpList P ops Q (o::rest) a w:=by
 refine wpList_plain hgd fun K hK=>?_;unfold aU execOp;simp only [ho,resolve,invoke,builtin,Sem.run_bind,Sem.run_pure,bq,bG,bR,bY,hs,hx,hr];exact hK _ _ h
theorem gZ {P:Program} {ops:Array Oper} {o:Oper} {a:bN} {w w':J} {K:bN->J->Prop} {Q:Exit->bN->J->Prop} {E:Prop}
  (hg:o.guard=aK) (s x:aj) (t:aB) (hop:o.op=.call { callee:=.builtin .copy,args:=#[s,x],argTypes:=#[t,t] }) {v xv v':O} (hs:a.eval s=v) (hx:a.eval x=xv)
  (hr:(aI #[t,t] o.type #[v,xv]).run P w=.ok v' w') (hK:K (a.put o.dst v') w') :
  if U o (yielded ops a.tmps)=aF then aU P o a w K Q else E:=by
 have hw:U o (yielded ops a.tmps)=aF:=by simp [U,hg]
 rw [if_pos hw];unfold aU execOp;simp only [hop,resolve,invoke,builtin,Sem.run_bind,Sem.run_pure,bq,bG,bR,bY,hs,hx,hr];exact hK
end Rw
namespace Rg
open Go.RowKit
def left (L:Array Bool):Nat:=L.toList.countP (fun b=>!b)
theorem Kv (L:Array Bool) (i:Nat) (h:L.getD i aF=bZ):left (L.setIfInBounds i aF)+1=left L:=by
 obtain⟨l⟩:=L;have hi:i<l.length:=by
  rcases bK i l.length with h0|h0
  ·exact h0
  ·exact absurd h (by simp [aD,Nat.not_lt.2 h0])
 have hv:l[i]=bZ:=by simpa [aD,hi] using h
 unfold left;simp only [List.setIfInBounds_toArray];rw [List.countP_set hi,hv];have hp:0<l.countP (fun b=>!b):=List.countP_pos_iff.2 ⟨l[i],bH hi,by rw [hv]; rfl⟩;simp;omega
theorem I4 (L:Array Bool) (h:left L=0) (i:Nat):L.getD i aF=aF:=by
 obtain⟨l⟩:=L;unfold left at h;rw [List.countP_eq_zero] at h;rcases bK i l.length with h0|h0
 ·have:=h l[i] (bH h0);simp [aD,h0];simpa using this
 ·simp [aD,Nat.not_lt.2 h0]
def Ah (ops:Array Oper):Bool:=(List.range ops.size).all fun i=>match ops[i]? with
 | some o=>o.after.all fun e=>!Region.binds .any e || decide (e.on<i)
 | none=>aF
def done (L:Array Bool) (i:Nat):Prop:=L.getD i bZ=aF
theorem Ai {ops:Array Oper} (hf:Ah ops=aF) {L:Array Bool} (hs:L.size=ops.size) (h:cu .any ops L=[]):∀ n,n<=ops.size->∀ i,i<n->done L i:=by
 intro n
 induction n with
 | zero=>intro _ i hi; omega
 | succ n ih =>
  intro hn i hi;rcases bK i n with h1|h1
  ·exact ih (by omega) i h1
  ·obtain rfl:i=n:=by omega
   cases hd:L.getD i aF
   ·exfalso;have hm:i∈cu .any ops L:=by
     rw [mem_ready];refine⟨hd,ops[i],aZ (by omega),fun e he hbd=>?_⟩;have h2:=cK.1 hf i (dD.2 (by omega));rw [aZ (by omega)] at h2;have h3:=bU.1 h2 e he;rw [hbd] at h3;exact ih (by omega) e.on (by simpa using h3)
    rw [h] at hm;cases hm
   ·unfold done;have hi2:i<L.size:=by omega
    simp [aD,hi2] at hd ⊢;exact hd
section
variable {P:Program} {ops:Array Oper} {Q:Exit->bN->J->Prop}
theorem DY (I:Array Bool->bN->J->Prop) (hf:Ah ops=aF)
  (hstep:∀ L a w i o,L.size=ops.size->I L a w->ops[i]?=Y o->¬ done L i->(∀ e∈o.after,aV .any e=aF->done L e.on)->wpOp P ops Q i (I (L.setIfInBounds i aF)) a w)
  (hend:∀ L a w,I L a w->(∀ i,i<ops.size->done L i)->Q .normal a w) :
  ∀ (fuel:Nat) (L:Array Bool) (a:bN) (w:J),L.size=ops.size->left L<=fuel->I L a w->wpAny P .any ops Q fuel L a w:=by
 intro fuel
 induction fuel with
 | zero =>
  intro L a w hs hl hI;have hr:cu .any ops L=[]:=by
   rw [List.eq_nil_iff_forall_not_mem];intro i hi;have h1:=(mem_ready.1 hi).1;rw [I4 L (by omega) i] at h1;cases h1
  exact⟨hr,hend L a w hI (Ai hf hs hr ops.size (cO _))⟩
 | succ fuel ih =>
  intro L a w hs hl hI;refine⟨fun hr=>hend L a w hI (Ai hf hs hr ops.size (cO _)),fun i hi=>?_⟩;obtain⟨h1,o,h2,h3⟩:=mem_ready.1 hi;have hlt:i<ops.size:=(aL.1 h2).1;have hnd:¬ done L i:=by
   unfold done;have:i<L.size:=by omega
   simp [aD,this] at h1 ⊢;exact h1
  have hst:=hstep L a w i o hs hI h2 hnd (fun e he hb=>h3 e he hb);have hmono:∀ a' w',I (L.setIfInBounds i aF) a' w'->wpAny P .any ops Q fuel (L.setIfInBounds i aF) a' w':=fun a' w' h =>
   ih _ a' w' (by simpa using hs) (by have:=Kv L i h1; omega) h
  unfold wpOp at hst ⊢;rw [h2] at hst ⊢;simp only at hst ⊢
  split at hst
  ·rename_i hw
   rw [if_pos hw];rcases hst with hst|hst
   ·exact Or.inl (Oper.wp_mono hmono hst)
   ·exact Or.inr hst
  ·rename_i hw
   rw [if_neg hw];exact hmono _ _ hst
theorem kC (I:Array Bool->bN->J->Prop) {id:Nat} {a:bN} {w:J} {l:List Oper} (hm:P.follows .mixedOrders=aF) (hf:Ah l.toArray=aF)
  (h0:I (dh l.length bZ) a { w with drawn:=w.drawn+1 })
  (hstep:∀ L a w i o,L.size=l.length->I L a w->l[i]?=Y o->¬ done L i->(∀ e∈o.after,aV .any e=aF->done L e.on)->wpOp P l.toArray Q i (I (L.setIfInBounds i aF)) a w)
  (hend:∀ L a w,I L a w->(∀ i,i<l.length->done L i)->Q .normal a w):(Code.region id l.toArray aF).wp P Q a w:=by
 refine wp_region_any hm (DY (ops:=l.toArray) I hf (fun L a w i o hs hI ho=>hstep L a w i o (by simpa using hs) hI (by simpa using ho)) (fun L a w hI hd=>hend L a w hI (by simpa using hd)) _ _ _ _ (by simp) ?_ (by simpa using h0));unfold left;have h2:=List.countP_le_length (p:=fun b:Bool=>!b) (l:=List.replicate l.length bZ);simpa using h2
end
theorem fQ {L:Array Bool} {i:Nat} (h:i<L.size) (j:Nat):done (L.setIfInBounds i aF) j↔j=i\/done L j:=by
 unfold done;by_cases e:j=i
 ·subst e; simp [aD,h]
 ·by_cases hj:j<L.size
  ·have h2:i≠j:=fun x=>e x.symm;simp [aD,hj,e,h2]
  ·simp [aD,hj,e]
theorem fF (n j:Nat):¬ done (dh n bZ) j:=by
 unfold done;by_cases hj:j<n <;> simp [aD,hj]
theorem dF {P:Program} {ops:Array Oper} {Q:Exit->bN->J->Prop} {K:bN->J->Prop} {a:bN} {w w':J} {i:Nat} {o:Oper} {v:O}
  (ho:ops[i]?=Y o) (hg:o.guard=aK) (hr:(execOp a.eval o).run P w=.ok (.value v) w') (h:K (a.put o.dst v) w'):wpOp P ops Q i K a w:=by
 unfold wpOp;rw [ho];have hw:U o (yielded ops a.tmps)=aF:=by simp [U,hg]
 simp only [hw,if_true];refine Or.inl ?_;unfold aU;rw [hr];exact h
theorem Xr {P:Program} {s:Sem O} {w w':J} {v:O} (h:s.run P w=.ok v w'):(do pure (Next.value (<- s)):Sem Next).run P w=.ok (.value v) w':=by
 simp [go_sem,h]
theorem jB {P:Program} (ρ:aj->O) (o:Oper) (s x:aj) (t:aB) (ho:o.op=.call { callee:=.builtin .append,args:=#[s,x],argTypes:=#[t,t] }) {v x' v':O} {w w':J}
  (hs:ρ s=v) (hx:ρ x=x') (hrun:(aS #[t,t] o.type #[v,x']).run P w=.ok v' w'):(execOp ρ o).run P w=.ok (.value v') w':=by
 simp [execOp,ho,resolve,invoke,builtin,hs,hx,hrun,aO]
theorem qG {P:Program} (ρ:aj->O) (o:Oper) (t:aB) (x:aj) (l h m:Option aj) (ho:o.op=.slice t x l h m) {v:O} {w:J} (hr:(Instr.sliceAt t (ρ x) (l.map ρ) (h.map ρ) (m.map ρ)).run P w=.ok v w) :
  (execOp ρ o).run P w=.ok (.value v) w:=by
 simp [execOp,ho,hr,aO]
theorem jY {P:Program} (ρ:aj->O) (o:Oper) (t:aB) (x i:aj) (ho:o.op=.indexAddr t x i) {v:O} {w:J} (hr:(Instr.indexAt t (ρ x) (ρ i)).run P w=.ok v w) :
  (execOp ρ o).run P w=.ok (.value v) w:=by
 simp [execOp,ho,hr,aO]
theorem eu {P:Program} (ρ:aj->O) (o:Oper) (t:aB) (x:aj) (ho:o.op=.load t x) {v:O} {w:J} (hr:(Instr.loadAt t (ρ x)).run P w=.ok v w) :
  (execOp ρ o).run P w=.ok (.value v) w:=by
 simp [execOp,ho,hr,aO]
theorem mH {P:Program} (ρ:aj->O) (o:Oper) (t:aB) (n:Nat) (parts:Array (Nat×aj)) (ho:o.op=.buildSlice t n parts) {ps:Array (Nat×O)} (hp:parts.map (fun x=>(x.1,ρ x.2))=ps) {v:O} {w w':J} (hr:(Instr.buildSlice t n ps).run P w=.ok v w') :
  (execOp ρ o).run P w=.ok (.value v) w':=by
 subst hp;simp [execOp,ho,hr,aO]
theorem fM {P:Program} (ρ:aj->O) (o:Oper) (x:aj) (ho:o.op=.move x) (w:J):(execOp ρ o).run P w=.ok (.value (ρ x)) w:=by
 simp [execOp,ho]
theorem kD {P:Program} (ρ:aj->O) (o:Oper) (x:aj) (ho:o.op=.assign x) (w:J):(execOp ρ o).run P w=.ok (.value (ρ x)) w:=by
 simp [execOp,ho]
theorem size_put (a:bN) (d:Nat) (v:O):(a.put (Y d) v).tmps.size=a.tmps.size:=by simp [Act.put]
theorem get_put (a:bN) (d:Nat) (v:O) (j:Nat) (hd:j≠d):(a.put (Y d) v).tmps[j]?=a.tmps[j]?:=by
 have h2:d≠j:=fun x=>hd x.symm;simp [Act.put,h2]
theorem dH {a:bN} {j:Nat} {v:O} (h:a.tmps[j]?=Y v):a.eval (.tmp j)=v:=by
 have h1:=(aL.1 h).1;have h2:=(aL.1 h).2;simp [Act.eval,aD,h1,h2]
theorem Qo {P:Program} {ops:Array Oper} {Q:Exit->bN->J->Prop} {K:bN->J->Prop} {a:bN} {w w':J} {i:Nat} {o:Oper}
  (ho:ops[i]?=Y o) (hg:o.guard=aK) (hr:(execOp a.eval o).run P w=.ok .skip w') (h:K (a.put o.dst undef) w'):wpOp P ops Q i K a w:=by
 unfold wpOp;rw [ho];have hw:U o (yielded ops a.tmps)=aF:=by simp [U,hg]
 simp only [hw,if_true];refine Or.inl ?_;unfold aU;rw [hr];exact h
theorem gF {a:bN} {bl:List O} (d0 m:Nat) (df:a.defers=[]) (sz:a.tmps.size=bl.length) (hle:d0+m<=bl.length) (kp:∀ j,(j<d0\/d0+m<=j)->a.tmps[j]?=bl[j]?) :
  ∃ mid:List O,mid.length=m/\a=⟨(bl.take d0++(mid++bl.drop (d0+m))).toArray,[]⟩:=by
 obtain⟨tmps,defers⟩:=a;have hd:defers=[]:=df;have hs:tmps.size=bl.length:=sz;have hk:∀ j,(j<d0\/d0+m<=j)->tmps[j]?=bl[j]?:=kp;subst hd;have hl:((tmps.toList.drop d0).take m).length=m:=by simp; omega
 refine⟨(tmps.toList.drop d0).take m,hl,congrArg (fun x=>(⟨x,[]⟩:bN)) ?_⟩;apply Array.ext_getElem?;intro j
 conv=>rhs; rw [List.getElem?_toArray]
 by_cases h1:j<d0
 ·rw [hk j (Or.inl h1),bf (by simp; omega),aG,if_pos h1]
 ·have ht:(bl.take d0).length=d0:=by simp; omega
  rw [aX (by omega),ht];by_cases h2:j<d0+m
  ·rw [bf (by omega),aG,if_pos (by omega),aW,Array.getElem?_toList,show d0+(j-d0)=j by omega]
  ·rw [hk j (Or.inr (by omega)),aX (by omega),hl,aW,show d0+m+(j-d0-m)=j by omega]
end Rg
namespace Rw
open Go.RowKit
theorem eG {P:Program} {ops:Array Oper} {o:Oper} {a:bN} {w w':J} {K:bN->J->Prop} {Q:Exit->bN->J->Prop} {E:Prop}
  (hg:o.guard=aK) (s x:aj) (t:aB) (hop:o.op=.call { callee:=.builtin .append,args:=#[s,x],argTypes:=#[t,t] }) {v xv v':O} (hs:a.eval s=v) (hx:a.eval x=xv)
  (hr:(aS #[t,t] o.type #[v,xv]).run P w=.ok v' w') (hK:K (a.put o.dst v') w') :
  if U o (yielded ops a.tmps)=aF then aU P o a w K Q else E:=by
 have hw:U o (yielded ops a.tmps)=aF:=by simp [U,hg]
 rw [if_pos hw];unfold aU execOp;simp only [hop,resolve,invoke,builtin,Sem.run_bind,Sem.run_pure,bq,bG,bR,bY,hs,hx,hr];exact hK
theorem l7 {P:Program} {ops:Array Oper} {o:Oper} {a:bN} {w:J} {K:bN->J->Prop} {Q:Exit->bN->J->Prop} {E:Prop} {f:FuncId} {args:Array O} {R:Ending->J->Prop}
  (hg:o.guard=aK) (hr:(execOp a.eval o).run P w=.ok (.enter f args) w) (hc:Calls P f args w R) (hR:∀ e w',R e w'->∃ v,e=.returned v/\K (a.put o.dst v) w') :
  if U o (yielded ops a.tmps)=aF then aU P o a w K Q else E:=by
 have hw:U o (yielded ops a.tmps)=aF:=by simp [U,hg]
 rw [if_pos hw];unfold aU;rw [hr,dw];refine hc.mono ?_;intro e w' h;obtain⟨v,rfl,hk⟩:=hR e w' h;exact hk
theorem fI {P : Program} {f : FuncId} {fn : Func} {c : Code} (hf : P.funcs[f]? = some fn) (hname : (fn.name == "runtime.NumGoroutine") = false) (hb : fn.body = some c) (args : Array Value) (w : World) : (callFunc f args).run P w = .ok (.enter f args) w := by
 have h1 : fn.name ≠ "runtime.NumGoroutine" := by simpa using hname
 simp [callFunc,hf,h1,hb]
theorem gu {P:Program} (ρ:aj->O) (o:Oper) (x:aj) (t:aB) (f:FuncId) (ho:o.op=.call { callee:=.value (.func f),args:=#[x],argTypes:=#[t] }) {v:O} (hx:ρ x=v) (hf:ρ (.func f)=.func (.func f) #[] #[]) (w:J)
  (hc:(callFunc f #[v]).run P w=.ok (.enter f #[v]) w):(execOp ρ o).run P w=.ok (.enter f #[v]) w:=by
 simp [execOp,ho,resolve,invoke,hx,hf,Deferred.ofValue,hc]
theorem uY {P:Program} (ρ:aj->O) (o:Oper) (x y:aj) (t s:aB) (f:FuncId) (ho:o.op=.call { callee:=.value (.func f),args:=#[x,y],argTypes:=#[t,s] }) {v u:O} (hx:ρ x=v) (hy:ρ y=u) (hf:ρ (.func f)=.func (.func f) #[] #[]) (w:J)
  (hc:(callFunc f #[v,u]).run P w=.ok (.enter f #[v,u]) w):(execOp ρ o).run P w=.ok (.enter f #[v,u]) w:=by
 simp [execOp,ho,resolve,invoke,hx,hy,hf,Deferred.ofValue,hc]
end Rw
namespace Rg
open Go.RowKit
theorem fO {P:Program} {ops:Array Oper} {Q:Exit->bN->J->Prop} {K:bN->J->Prop} {a:bN} {w:J} {i:Nat} {o:Oper} {f:FuncId} {args:Array O} {R:Ending->J->Prop}
  (ho:ops[i]?=Y o) (hg:o.guard=aK) (hr:(execOp a.eval o).run P w=.ok (.enter f args) w) (hc:Calls P f args w R) (hR:∀ e w',R e w'->∃ v,e=.returned v/\K (a.put o.dst v) w'):wpOp P ops Q i K a w:=by
 unfold wpOp;rw [ho];have hw:U o (yielded ops a.tmps)=aF:=by simp [U,hg]
 simp only [hw,if_true];refine Or.inl ?_;unfold aU;rw [hr,dw];refine hc.mono ?_;intro e w' h;obtain⟨v,rfl,hk⟩:=hR e w' h;exact hk
theorem eP {P:Program} (ρ:aj->O) (o:Oper) (s:aB) (x:aj) (f:Nat) (ho:o.op=.fieldAddr s x f) {v:O} {w:J} (hr:(Instr.fieldAt s (ρ x) f).run P w=.ok v w):(execOp ρ o).run P w=.ok (.value v) w:=by
 unfold execOp;rw [ho];exact Xr hr
structure RD (N:Nat) (dst:Nat->Nat) (V:Nat->O->J->Prop) (base:bN) (o:Oper) (a:bN) (w:J):Prop where
 kp:∀ j u,(∀ i,i<N->dst i≠j)->base.tmps[j]?=Y u->a.eval (.tmp j)=u
 at_:∀ e∈o.after,aV .any e=aF->V e.on (a.eval (.tmp (dst e.on))) w
 got:∀ e∈o.after,aV .any e=aF->a.tmps[dst e.on]?=Y (a.eval (.tmp (dst e.on)))
theorem DZ {P:Program} {Q:Exit->bN->J->Prop} {id:Nat} {base:bN} {w:J} {l:List Oper} (N:Nat) (dst:Nat->Nat) (V:Nat->O->J->Prop)
  (hm:P.follows .mixedOrders=aF) (hf:Ah l.toArray=aF) (hN:l.length=N) (_hdst:∀ i o,l[i]?=Y o->o.dst=Y (dst i)) (hinj:∀ i j,i<N->j<N->dst i=dst j->i=j) (hs:∀ i,i<N->dst i<base.tmps.size)
  (hst:∀ i v w' w'',V i v w'->Below w'.heap.size w' w''->V i v w'')
  (hop:∀ i o,i<N->l[i]?=Y o->∀ a w',Below w.heap.size w w'->RD N dst V base o a w'->∀ K:bN->J->Prop,(∀ v w'',V i v w''->Below w'.heap.size w' w''->K (a.put (Y (dst i)) v) w'')->wpOp P l.toArray Q i K a w')
  (hend:∀ a w',a.defers=base.defers->a.tmps.size=base.tmps.size->(∀ j,(∀ i,i<N->dst i≠j)->a.tmps[j]?=base.tmps[j]?)->(∀ i,i<N->∃ v,a.tmps[dst i]?=Y v/\V i v w')->Below w.heap.size w w'->Q .normal a w'):(Code.region id l.toArray aF).wp P Q base w:=by
 refine kC (fun L a x=>(a.defers=base.defers/\a.tmps.size=base.tmps.size/\∀ j,(∀ i,i<N->dst i≠j)->a.tmps[j]?=base.tmps[j]?)/\(∀ i,done L i->i<N->∃ v,a.tmps[dst i]?=Y v/\V i v x)/\Below w.heap.size w x) hm hf ?_ ?_ ?_
 ·exact⟨⟨rfl,rfl,fun _ _=>rfl⟩,fun i h=>absurd h (fF _ _),(Below.refl _ _).drew⟩
 ·intro L a x i o hsz ⟨⟨h1,h2,h3⟩,hv,hb⟩ ho hnd jO;have hi:i<l.length:=(aC.1 ho).1;have rV:i<L.size:=by omega
  have hon:∀ e∈o.after,aV .any e=aF->e.on<N:=fun e he hb=>by
   have h7:=cK.1 hf i (dD.2 (by simpa using hi));have ho':(l.toArray)[i]?=Y o:=by simpa using ho
   rw [ho'] at h7;have h8:=bU.1 h7 e he;rw [hb] at h8;have:e.on<i:=by simpa using h8
   omega
  have seen:RD N dst V base o a x:=⟨fun j u hj hu=>dH (by rw [h3 j hj]; exact hu),fun e he hbd=>by
   obtain⟨v,q1,q2⟩:=hv e.on (jO e he hbd) (hon e he hbd);rw [dH q1];exact q2,fun e he hbd=>by
   obtain⟨v,q1,q2⟩:=hv e.on (jO e he hbd) (hon e he hbd);rw [dH q1];exact q1⟩
  refine hop i o (by omega) ho a x hb seen _ fun v w'' hvw hbw=>?_;refine⟨⟨h1,by rw [size_put]; exact h2,fun j hj=>?_⟩,fun k hk hkN=>?_,hb.trans (hbw.mono hb.size)⟩
  ·rw [get_put _ _ _ _ (fun e=>hj i (by omega) e.symm)];exact h3 j hj
  ·by_cases e:k=i
   ·subst e;have:dst k<a.tmps.size:=by rw [h2]; exact hs k hkN
    exact⟨v,by simp [Act.put,this],hvw⟩
   ·rw [get_put _ _ _ _ (fun e2=>e (hinj k i hkN (by omega) e2))];rcases (fQ rV k).1 hk with h9|h9
    ·exact absurd h9 e
    ·obtain⟨u,q1,q2⟩:=hv k h9 hkN;exact⟨u,q1,hst k u _ _ q2 hbw⟩
 ·intro L a x ⟨⟨h1,h2,h3⟩,hv,hb⟩ hd;exact hend a x h1 h2 h3 (fun i hi=>hv i (hd i (by omega)) hi) hb
end Rg
namespace In
open Go.RowKit Go.ChangeShapes Go.WideShapes
structure gy (W:J) (nv:O) (zs:List Int):Prop where
 shape:∃ ao cap,nv=aA ao zs.length cap
 at_:∀ (i:Nat) (z:Int),zs[i]?=Y z->(-9223372036854775808<=z/\z<=9223372036854775807)/\∃ p:Addr,p.block<W.heap.size/\(∀ w,(Instr.indexAt 22 nv (bF aQ i)).run ah w=.ok (.pointer (Y p)) w)/\W.cell? p=Y (bF aQ z)
theorem gy.on {W W':J} {nv:O} {zs:List Int} (h:gy W nv zs) (hb:Below W.heap.size W W'):gy W' nv zs :=
 ⟨h.shape,fun i z hz=>by
  obtain⟨h1,p,h2,h3,h4⟩:=h.at_ i z hz;exact⟨h1,p,Nat.lt_of_lt_of_le h2 hb.size,h3,by rw [hb.cell h2]; exact h4⟩⟩
theorem Qp {n:Int} (h:(Lit.int aQ n).wf=aF):-9223372036854775808<=n/\n<=9223372036854775807:=by
 have h2:(decide (IntKind.i64.min<=n) && decide (n<=IntKind.i64.max))=aF:=h;rw [Bool.and_eq_true,decide_eq_true_eq,decide_eq_true_eq,show IntKind.i64.min=-9223372036854775808 by decide,show IntKind.i64.max=9223372036854775807 by decide] at h2;exact h2
theorem UK:Tryz.prog.cellsOf 3=1:=by kernel_rfl
theorem D5 (a:Addr) (m len cap:Nat) (h:m<len) (w:J):(Instr.indexAt 22 (aA (Y a) len cap) (bF aQ m)).run ah w=.ok (.pointer (Y (a.add m))) w:=by
 have h1:(m:Int)<len:=by omega
 simp [go_sem,bg,h1]
theorem uI {H:Type} {enc:aB×O->H} {W:J} {sp:Nat->Bool} {held:Bool} {fuel:Nat} {v:O} {x:DataW H×List MemPlace}
  (hf:DataW.trod enc ah W 0 sp held fuel 22 [v]=Y x):∃ zs,zs.length<=maxLen/\gy W v zs:=by
 rcases open_ints bg Tryz.underlying3 UK hf with⟨h1,_⟩|⟨a',len',cap',zs,h1,_,h3,h4,h5,_,h7,h8⟩
 ·have e:v=aA aK 0 0:=by simpa using h1
  rw [e];exact⟨[],Nat.zero_le _,⟨aK,0,rfl⟩,fun i z h=>by simp at h⟩
 ·have e:v=aA (Y a') len' cap':=by simpa using h1
  rw [e];have hle:len'<=zs.length:=by rw [h5]; split <;> omega
  have hl:(zs.take len').length=len':=by simp; omega
  refine⟨zs.take len',by omega,⟨Y a',cap',by rw [hl]⟩,fun i z hz=>?_⟩;obtain⟨hi,hzi⟩:=aC.1 hz;have hi2:i<len':=by omega
  have hz2:zs[i]'(by omega)=z:=by simpa using hzi
  have hc:=h7 i (by omega);have hg:zs.getD i 0=z:=by rw [<- hz2]; simp [List.getD,show i<zs.length by omega]
  rw [hg] at hc;exact⟨Qp (h8 z (by rw [<- hz2]; exact bH _)),a'.add i,World.block_lt_of_cell? W _ hc,fun w=>D5 a' i len' cap' hi2 w,hc⟩
end In
namespace At
open Go.RowKit Va
abbrev A4:=ByteArray×Bool×Int×ByteArray
abbrev av (x:A4):O:=.agg #[aP x.1,.bool x.2.1,bF aQ x.2.2.1,aP x.2.2.2]
def UM (x:A4):List O:=[aP x.1,.bool x.2.1,bF aQ x.2.2.1,aP x.2.2.2]
end At
namespace Nm
def hor (l:List UInt8):Int:=l.foldl (fun h b=>h * 256+(b.toNat:Int)) 0
def nY (l:List UInt8):Int:=IntKind.i64.wrap (hor l)
end Nm
namespace Kp
open Go.RowKit Va In
def nm (i:Nat):ByteArray:=⟨#[UInt8.ofNat (97+i)]⟩
def qH:Array O:=#[aP ⟨#[97]⟩,aP ⟨#[98]⟩,aP ⟨#[99]⟩,aP ⟨#[100]⟩,aP ⟨#[101]⟩,aP ⟨#[102]⟩,aP ⟨#[103]⟩]
theorem Xt (i:Nat) (h:i<7):qH[i]?=Y (aP (nm i)):=by
 match i,h with
 | 0,_=>rfl
 | 1,_=>rfl
 | 2,_=>rfl
 | 3,_=>rfl
 | 4,_=>rfl
 | 5,_=>rfl
 | 6,_=>rfl
theorem I5 (w:J):Calls ah 42 #[] w fun e w'=>e=.returned (aA (Y ⟨w.heap.size,0,aK⟩) 7 7)/\w'=w.alloc (.cells qH 9):=by
 go_enter Tryz.func42,Tryz.ntmps42;go_wp2;go_ret;exact⟨rfl,rfl⟩
def nZ (zs:List Int) (i:Nat):Int:=if zs=[] then 0 else zs.getD (i % zs.length) 0
theorem Kw (nv:O) (zs:List Int) (i:Nat) (w:J) (hz:gy w nv zs) (hl:zs.length<=maxLen) (hi:i<=100) :
  Calls ah 44 #[nv,bF aQ i] w fun e w'=>e=.returned (bF aQ (nZ zs i))/\w=w':=by
 obtain⟨ao,cap,rfl⟩:=hz.shape;unfold maxLen at hl;cases zs with
 | nil =>
  go_enter Tryz.func44,Tryz.ntmps44;go_wp2;go_ret;exact⟨rfl,rfl⟩
 | cons z r =>
  have hm:i % (z::r).length<(z::r).length:=Nat.mod_lt _ (by simp);obtain⟨y,hy⟩:∃ y,(z::r)[i % (z::r).length]?=Y y:=⟨_,aN hm⟩;obtain⟨_,p,_,hix,hpc⟩:=hz.at_ _ y hy;have P:=Lib.hid (show nZ (z::r) i=y by unfold nZ; rw [if_neg (by simp),aY,hy]; rfl);have h0:((((z::r).length:Nat):Int) == 0)=bZ:=by simp; omega
  have hne:(((z::r).length:Nat):Int)≠0:=by simp; omega
  have ht:(i:Int) % ((z::r).length:Nat)=((i % (z::r).length:Nat):Int):=rfl;have ht2:(i:Int).tmod ((z::r).length:Nat)=((i % (z::r).length:Nat):Int):=by
   rw [Int.tmod_eq_emod_of_nonneg (by omega)]; rfl
  have hn0:0<(((z::r).length:Nat):Int):=by simp
  generalize (z::r).length=n at *;generalize i % n=m at *;clear hz hy hm;go_enter Tryz.func44,Tryz.ntmps44;go_wp2;go_ret;exact⟨Wi.zD P.out.symm,rfl⟩
def odd (z:Int):Bool:=bits BinOp.and aQ z 1 == 1
theorem Ky {W:J} {nv:O} {zs:List Int} (hz:gy W nv zs) (i:Nat):-9223372036854775808<=nZ zs i/\nZ zs i<=9223372036854775807:=by
 unfold nZ
 split
 ·omega
 ·rename_i h
  have hm:i % zs.length<zs.length:=Nat.mod_lt _ (List.length_pos_iff.2 h);have:=(hz.at_ _ _ (aN hm)).1;rw [aY,aN hm];exact this
end Kp
namespace Pr
open Go.RowKit Pu
def iU:List Cn->ByteArray->Nat
 | [],_=>0
 | x::r,n=>if au x.1.toList n.toList=aF then iU r n+1 else 0
theorem qI:∀ l n,iU l n<=l.length
 | [],n=>cO _
 | x::r,n=>by
  have:=qI r n;simp only [iU]
  split <;> simp; omega
theorem Gc:∀ (l:List Cn) (n:ByteArray) (k:Nat),k<=l.length->(∀ (j:Nat) (y:Cn),j<k->l[j]?=Y y->au y.1.toList n.toList=aF)->(∀ y:Cn,l[k]?=Y y->au y.1.toList n.toList=bZ)->iU l n=k
 | [],n,k,hk,_,_=>by simp at hk; simp [iU,hk]
 | x::r,n,0,_,_,h=>by simp [iU,h x rfl]
 | x::r,n,k+1,hk,h1,h2=>by
  simp only [iU];rw [if_pos (h1 0 x (by omega) rfl),Gc r n k (by simpa using hk) (fun j y hj hy=>h1 (j+1) y (by omega) (by simpa using hy)) (fun y hy=>h2 y (by simpa using hy))]
def iY (l:List Cn) (n:ByteArray):Bool:=match l[iU l n]? with
 | some x=>decide (x.1=n)
 | none=>bZ
def Kz (m:List Cn) (c:Cn):Option (List Cn):=match m[iU m c.1]? with
 | some x=>if x.1=c.1 then (eX x.2 c.2).map fun k=>m.set (iU m c.1) (x.1,k) else Y (m.take (iU m c.1)++c::m.drop (iU m c.1))
 | none=>Y (m.take (iU m c.1)++c::m.drop (iU m c.1))
theorem zF:∀ (m:List Cn) (c:Cn),lg m c=Kz m c
 | [],c=>rfl
 | x::r,c=>by
  unfold Kz;simp only [lg,iU]
  split
  ·rw [zF r c,Kz];simp only [List.getElem?_cons_succ,List.take_succ_cons,List.drop_succ_cons,List.set_cons_succ];cases h:r[iU r c.1]? with
   | none=>simp
   | some y =>
    simp only
    split
    ·simp [Option.map_map,Function.comp_def]
    ·simp
  ·simp
theorem yh {m:List Cn} {c:Cn} (h:iY m c.1=aF):∃ x,m[iU m c.1]?=Y x/\x.1=c.1/\lg m c=(eX x.2 c.2).map fun k=>m.set (iU m c.1) (x.1,k):=by
 rw [zF];unfold iY at h;unfold Kz;cases hx:m[iU m c.1]? with
 | none=>rw [hx] at h; cases h
 | some x =>
  rw [hx] at h;have e:x.1=c.1:=by simpa using h
  exact⟨x,rfl,e,by simp only; rw [if_pos e]⟩
theorem uJ {m:List Cn} {c:Cn} (h:iY m c.1=bZ):lg m c=Y (m.take (iU m c.1)++c::m.drop (iU m c.1)):=by
 rw [zF];unfold iY at h;unfold Kz;cases hx:m[iU m c.1]? with
 | none=>rfl
 | some x =>
  rw [hx] at h;have e:¬ x.1=c.1:=by simpa using h
  simp only;rw [if_neg e]
theorem Aj:∀ a b:List UInt8,X a b<0↔au a b=aF
 | [],[]=>by simp [X,au]
 | [],_::_=>by simp [X,au]
 | _::_,[]=>by simp [X,au]
 | a::x,b::y=>by
  simp only [X,au];by_cases h1:a<b
  ·rw [if_pos h1]; simp [h1]
  ·rw [if_neg h1];by_cases h2:b<a
   ·have h3:a≠b:=by rintro rfl; exact h1 h2
    rw [if_pos h2]; simp [h1,h3]
   ·have h3:a=b:=cB (bL.1 h2) (bL.1 h1);subst h3;rw [if_neg h2,Aj x y]; simp [h1]
theorem Ak:∀ a b:List UInt8,X a b=0↔a=b
 | [],[]=>by simp [X]
 | [],_::_=>by simp [X]
 | _::_,[]=>by simp [X]
 | a::x,b::y=>by
  simp only [X];by_cases h1:a<b
  ·rw [if_pos h1];have h3:a≠b:=by rintro rfl; exact absurd h1 (UInt8.lt_irrefl _)
   simp [h3]
  ·rw [if_neg h1];by_cases h2:b<a
   ·have h3:a≠b:=by rintro rfl; exact h1 h2
    rw [if_pos h2]; simp [h3]
   ·have h3:a=b:=cB (bL.1 h2) (bL.1 h1);subst h3;rw [if_neg h2,Ak x y]; simp
def zG (a b:ByteArray):Int:=X a.data.toList b.data.toList
theorem I6 (a b:ByteArray):decide (zG a b<0)=au a.toList b.toList:=by
 rw [ByteArray.toList_eq,ByteArray.toList_eq,Bool.eq_iff_iff,decide_eq_true_eq];exact Aj _ _
theorem I7 (a b:ByteArray):zG a b=0↔a=b:=by
 unfold zG;rw [Ak];exact⟨mF,fun h=>by rw [h]⟩
theorem yj {l:List Cn} (h:iP l) {i j:Nat} {x y:Cn} (hij:i<=j) (hi:l[i]?=Y x) (hj:l[j]?=Y y) {n:ByteArray} (hy:au y.1.toList n.toList=aF):au x.1.toList n.toList=aF:=by
 rcases bK i j with h1|h1
 ·obtain⟨a1,a2⟩:=aC.1 hi;obtain⟨b1,b2⟩:=aC.1 hj;have h2:=List.pairwise_iff_getElem.1 h i j a1 b1 h1;rw [a2,b2] at h2;exact Xp.uT _ _ _ h2 hy
 ·obtain rfl:i=j:=by omega
  rw [hi] at hj;obtain rfl:=Option.some.inj hj;exact hy
end Pr
end Go.Proofs.YtmklifheakemeaaGreat
