/-
  Numbers in memory, a. Conditions as told.
-/
import Derived.Test.YtkcfgbddlpomgaaBQ000
import Derived.Lib.AppendZerosOnto
import Derived.Lib.Overlaps
import Derived.Deep.RegionLaw
import Derived.Laws.Externs
import Derived.Orders
import Derived.IntWalk
set_option maxRecDepth 100000
set_option maxHeartbeats 64000000
open _root_.Array renaming getD->ay,getElem?_eq_some_iff->aF,length_toList->aM,getElem?_eq_getElem->aP,replicate->bD
open _root_.Bool renaming true->aL,false->bQ
open _root_.Go renaming World->J,Value->O,Operand->X,TypeId->au,Act->aY,maxLen->bJ,Exit->bP
open Go.Builtin renaming copy_->aC,append_->aK,firstCells->aX,zeroCells->bf
open Go.IntKind renaming i64->aU
open Go.Oper renaming wp->aT,upon_enter->bE,wp_mono->bO
open Go.Proofs.Try renaming prog->aj
open Go.Region renaming wanted->U,ready->bq,binds->bN
open Go.Result renaming andThen->aG,andThen_ok->bg
open Go.Value renaming slice->ah,int->aW
open _root_.List renaming length_take->Y,append_assoc->Z,getElem?_take->aA,length_append->aB,size_toArray->aD,length_drop->aH,getElem?_drop->aN,getElem?_append_right->aO,getElem?_append_left->aQ,take_of_length_le->aR,drop_of_length_le->aS,take_append_drop->aV,map_toArray->bA,getElem_mem->bB,take_left'->bC,take_left->bF,take_take->bG,map_cons->bI,map_nil->bM
open _root_.Nat renaming mul_le_mul_right->D,min_eq_left->V,add_mul->aJ,add_zero->aZ,lt_or_ge->bn,mul_le_mul->bH,le_total->bK,le_trans->bL,le_refl->bR,not_lt->bS
open _root_.Option renaming some->ak,none->aI
namespace Go.Proofs.Ytkcfgbddlpomgaa
namespace Nm
open Go.RowKit Rw
def EI:Ek Int:=⟨3,24,1,8,aW aU 0,fun n=>.int aU n,fun n=>[aW aU n]⟩
theorem Bn:(Try.prog.info? 3).map (fun i=>(i.zero,i.size,i.bytes))=ak (ak (aW aU 0),1,8):=by kernel_rfl
theorem wH:EI.Ok where
 hu:=Try.underlying24
 info:=by
  have h:=Bn;cases hi:Try.prog.info? 3 with
  | none=>rw [hi] at h; cases h
  | some i =>
   rw [hi] at h;simp only [Option.map_some,Option.some.injEq,Prod.mk.injEq] at h;exact⟨i,hi,h.1,h.2.1,h.2.2⟩
 zs:=rfl
 len:=fun _=>rfl
 one:=fun x u hu=>by
  simp only [EI,List.mem_cons,List.not_mem_nil,or_false] at hu;rw [hu]
  rfl
 pos:=by decide
 few:=by decide
 load:=fun w p x h=>by
  have h0:=h 0 _ rfl;rw [add_zero] at h0;show (Instr.loadAt 3 (.pointer (ak p))).run aj w=.ok (aW aU x) w;simp [go_sem,h0]
abbrev om (W:J) (v:O) (l:List Int):Prop:=Row EI W v l
abbrev gK (W:J) (B:Nat) (v:O) (l:List Int):Prop:=Own EI W B v l
theorem Ib {W:J} {v:O} {l:List Int} {ao:Option Addr} {n c k:Nat} {x:Int} (h:om W v l) (hv:v=ah ao n c) (hn:l.length=n) (hk:l[k]?=ak x) :
  ∃ p:Addr,(∀ w,(Instr.indexAt 24 (ah ao n c) (aW aU k)).run aj w=.ok (.pointer (ak p)) w)/\p.block<W.heap.size/\∀ w,Below W.heap.size W w->w.cell? p=ak (aW aU x):=by
 obtain⟨p,h1,h3,h2⟩:=iW wH h hv hn hk;exact⟨p,h1,h3,fun w hw=>by
  have h0:=h2 w hw 0 _ rfl
  rwa [add_zero] at h0⟩
theorem Gc {w:J} (B:Nat) {v x:O} {l m:List Int} (hown:gK w B v l) (hx:om w x m) (hn:l.length<=1000) (hm:m.length<=1000) (hB:B<=w.heap.size) :
  ∃ v' w',(aK #[24,24] 24 #[v,x]).run aj w=.ok v' w'/\gK w' B v' (l++m)/\w.grownBy w' v.ownBlock:=iq wH B hown hx hn hm hB 24
theorem wI (w:J) (c:Int):om (w.alloc (.cells #[aW aU c] 3)) (ah (ak ⟨w.heap.size,0,aI⟩) 1 1) [c] :=
 Row.dw (jk wH w [c] 1 rfl (by simp) _ rfl)
theorem o9:∀ l:List Int,flat EI l=l.map (fun n=>.int aU n)
 | []=>rfl
 | x::r=>by
  show EI.cells x++flat EI r=_;rw [o9 r]
  rfl
end Nm
namespace Rw
open Go.RowKit
variable {α:Type} {E:Ek α}
theorem below_setRow {B g:Nat} {W w:J} (h:Below B W w) (hB:B<=g) (cs:Array O):Below B W (w.setRow g cs) :=
 ⟨h.os,h.tape,h.output,by simp [World.setRow]; exact h.size,fun k hk=>by
  have hne:g≠k:=by omega
  have h2:=h.block k hk;simp [World.setRow,Array.getElem?_modify,hne,h2]⟩
theorem dh.set {w:J} {g:Nat} {cur:Array O} {t:au} (h:dh w g cur t) (cs:Array O):dh (w.setRow g cs) g cs t:=setRow_heap w g cur cs t (0,0) h
theorem dh.other {w:J} {g b:Nat} {cur:Array O} {t:au} (h:dh w b cur t) (hne:b≠g) (cs:Array O):dh (w.setRow g cs) b cur t:=(setRow_other w g b cs hne).trans h
theorem dh.shape {w:J} {b:Nat} {cur:Array O} {t:au} (h:dh w b cur t):w.shape? b=ak (t,cur.size):=by
 unfold dh at h;simp [World.shape?,h]
theorem eH {W:J} {B:Nat} {v:O} {l:List α} (h:Own E W B v l):(v=ah aI 0 0/\l=[])\/∃ g cap cur,v=ah (ak ⟨g,0,aI⟩) l.length cap/\B<=g/\dh W g cur E.t/\l.length<=cap/\cap<=bJ/\cur.size=cap * E.n/\cur.toList.take (l.length * E.n)=flat E l:=by
 rcases h.2 with⟨h1,h2⟩|⟨g,cap,cur,h1,h2,h3,h4,h5,h6,h7⟩
 ·exact Or.inl ⟨h1,List.eq_nil_of_length_eq_zero h2⟩
 ·exact Or.inr ⟨g,cap,cur,h1,h2,h3,h4,h5,h6,h7⟩
theorem jK (K:E.Ok) {W:J} {B g cap n:Nat} {cur:Array O} {l:List α} (hn:n=l.length) (hB:B<=g) (hb:dh W g cur E.t) (h1:n<=cap) (h2:cap<=bJ) (h3:cur.size=cap * E.n) (h4:cur.toList.take (n * E.n)=flat E l):Own E W B (ah (ak ⟨g,0,aI⟩) n cap) l:=by
 subst hn;exact⟨cB K l,Or.inr ⟨g,cap,cur,rfl,hB,hb,h1,h2,h3,h4⟩⟩
theorem j6 (K:E.Ok) (l:List α) (k:Nat):(flat E l).take (k * E.n)=flat E (l.take k):=by
 rcases bK k l.length with h|h
 ·conv=>lhs; rw [<- aV k l,dP]
  have e:(flat E (l.take k)).length=k * E.n:=by rw [cB K,Y,V h]
  rw [<- e,bF]
 ·rw [aR h,aR];rw [cB K];exact D _ h
theorem uh (K:E.Ok) (l:List α) (k:Nat):(flat E l).drop (k * E.n)=flat E (l.drop k):=by
 rcases bK k l.length with h|h
 ·conv=>lhs; rw [<- aV k l,dP]
  have e:(flat E (l.take k)).length=k * E.n:=by rw [cB K,Y,V h]
  rw [<- e,List.drop_left]
 ·rw [aS h,aS]
  ·rfl
  rw [cB K];exact D _ h
theorem pq (K:E.Ok) {W:J} {g:Nat} {cur:Array O} {t:au} {l:List α} (hb:dh W g cur t) (ht:cur.toList.take (l.length * E.n)=flat E l) (k:Nat):∀ j u,(flat E (l.drop k))[j]?=ak u->W.cell? ((⟨g,k * E.n,aI⟩:Addr).add j)=ak u:=by
 intro j u hj;rw [Addr.add_lit,hb.cell];rw [<- uh K,aN,<- ht,aA] at hj
 split at hj
 ·simpa using hj
 ·cases hj
theorem jL {W:J} {b:Nat} {cs:Array O} {t:au} {x:α} (hb:dh W b cs t) (hc:cs.toList=E.cells x):∀ j u,(flat E [x])[j]?=ak u->W.cell? ((⟨b,0,aI⟩:Addr).add j)=ak u:=by
 intro j u hj;rw [kZ,hb.cell];rw [ug,<- hc] at hj;simpa using hj
theorem eD (K:E.Ok) (g k len cap:Nat) (h:k<=len) (hc:k<cap) (w:J):(Instr.sliceAt E.ts (ah (ak ⟨g,0,aI⟩) len cap) (ak (aW aU k)) aI aI).run aj w=.ok (ah (ak ⟨g,k * E.n,aI⟩) (len-k) (cap-k)) w:=by
 rw [o8 K ⟨g,0,aI⟩ k len cap h w,if_neg (by omega),kZ]
theorem jM (K:E.Ok) {w:J} {g o nd cd ns sc:Nat} {a:Addr} {cur:Array O} {m:List α} (hb:dh w g cur E.t) (hm:∀ j u,(flat E m)[j]?=ak u->w.cell? (a.add j)=ak u) (hk:min ns nd=m.length) (hr:(o+m.length) * E.n<=cur.size) (ty:au) :
  (aC #[E.ts,E.ts] ty #[ah (ak ⟨g,o * E.n,aI⟩) nd cd,ah (ak a) ns sc]).run aj w=.ok (aW aU m.length) (w.setRow g (cur.toList.take (o * E.n)++flat E m++cur.toList.drop ((o+m.length) * E.n)).toArray):=by
 obtain⟨i,i1,i2,i3,i4⟩:=K.info;have hl:=run_loadCells_list (P:=aj) w a (flat E m) hm;have hst:=run_storeCells_at aj g (o * E.n) E.t (flat E m) 0 cur w hb (by rw [cB K,aZ,<- aJ]; exact hr) (jg K m);rw [cB K] at hl;have e:o * E.n+0+(flat E m).length=(o+m.length) * E.n:=by rw [cB K,aZ,aJ]
 rw [e,aZ] at hst;simp [aC,run_underlying K.hu,Builtin.lenOf,aX,sizeOf,typeInfo,i1,i3,hk,hl,goInt];simpa using congrArg (fun r=>r.andThen fun _ w=>Result.ok (aW aU m.length) w) hst
/-! ### one element more, in the middle -/
section
variable {l:List α} {k cap:Nat} {cur cs:Array O} {c:α}
theorem kg (K:E.Ok) (hk:k<l.length) (hcap:l.length+1<=cap) (hsz:cur.size=cap * E.n) (ht:cur.toList.take (l.length * E.n)=flat E l) (g b:Nat) (_hne:b≠g) :
  ∃ R1 R2:Array O,
   (∀ (W:J) (ty:au) (nd dc ns sc:Nat),dh W g cur E.t->min ns nd=l.length-k->(aC #[E.ts,E.ts] ty #[ah (ak ⟨g,(k+1) * E.n,aI⟩) nd dc,ah (ak ⟨g,k * E.n,aI⟩) ns sc]).run aj W=.ok (aW aU ((l.length-k:Nat):Int)) (W.setRow g R1)) /\
   (∀ (W:J) (ty:au) (nd dc:Nat),dh W g R1 E.t->dh W b cs E.t->cs.toList=E.cells c->1<=nd->(aC #[E.ts,E.ts] ty #[ah (ak ⟨g,k * E.n,aI⟩) nd dc,ah (ak ⟨b,0,aI⟩) 1 1]).run aj W=.ok (aW aU 1) (W.setRow g R2)) /\
   (∀ (W:J) (B:Nat),B<=g->cap<=bJ->dh W g R2 E.t->Own E W B (ah (ak ⟨g,0,aI⟩) (l.length+1) cap) (l.take k++c::l.drop k)):=by
 have hkl:(l.drop k).length=l.length-k:=by simp
 have hs1:(cur.toList.take ((k+1) * E.n)++flat E (l.drop k)++cur.toList.drop ((k+1+(l.drop k).length) * E.n)).length=cap * E.n:=by
  have h1:(k+1) * E.n<=cap * E.n:=D _ (by omega);have h2:(k+1+(l.drop k).length) * E.n<=cap * E.n:=D _ (by omega);simp only [aB,Y,aH,aM,cB K,hsz];rw [V h1];have h3:(k+1+(l.drop k).length) * E.n=(k+1) * E.n+(l.drop k).length * E.n:=aJ ..;simp only [aH] at h2 h3 ⊢;omega
 refine⟨(cur.toList.take ((k+1) * E.n)++flat E (l.drop k)++cur.toList.drop ((k+1+(l.drop k).length) * E.n)).toArray,
  ((cur.toList.take ((k+1) * E.n)++flat E (l.drop k)++cur.toList.drop ((k+1+(l.drop k).length) * E.n)).take (k * E.n)++flat E [c]++(cur.toList.take ((k+1) * E.n)++flat E (l.drop k)++cur.toList.drop ((k+1+(l.drop k).length) * E.n)).drop ((k+1) * E.n)).toArray,?_,?_,?_⟩
 ·intro W ty nd dc ns sc hb hm;have h:=jM K (o:=k+1) (m:=l.drop k) (nd:=nd) (cd:=dc) (ns:=ns) (sc:=sc) hb (pq K hb ht k) (by rw [hkl]; exact hm) (by rw [hkl,hsz]; exact D _ (by omega)) ty;rw [hkl] at h ⊢;exact h
 ·intro W ty nd dc hb hx hc hn;have h:=jM K (o:=k) (m:=[c]) (nd:=nd) (cd:=dc) (ns:=1) (sc:=1) hb (jL hx hc) (by simp; omega) (by rw [aD,hs1]; exact D _ (by simp; omega)) ty;simpa using h
 ·intro W B hB hm hb;have p1:(cur.toList.take ((k+1) * E.n)).length=(k+1) * E.n:=by
   rw [Y,aM,hsz];exact V (D _ (by omega))
  have p2:(cur.toList.take ((k+1) * E.n)++flat E (l.drop k)++cur.toList.drop ((k+1+(l.drop k).length) * E.n)).take (k * E.n)=flat E (l.take k):=by
   rw [Z,List.take_append_of_le_length (by rw [p1]; exact D _ (by omega)),bG,V (D _ (by omega)),<- j6 K,<- ht,bG,V (D _ (by omega))]
  have p3:(cur.toList.take ((k+1) * E.n)++flat E (l.drop k)++cur.toList.drop ((k+1+(l.drop k).length) * E.n)).drop ((k+1) * E.n)=flat E (l.drop k)++cur.toList.drop ((k+1+(l.drop k).length) * E.n):=by
   rw [Z,List.drop_left' p1]
  have e:flat E (l.take k)++flat E [c]++flat E (l.drop k)=flat E (l.take k++c::l.drop k):=by
   rw [dP,show c::l.drop k=[c]++l.drop k from rfl,dP,Z]
  have ln:(l.take k++c::l.drop k).length=l.length+1:=by simp; omega
  have q:(flat E (l.take k)++flat E [c]++flat E (l.drop k)).length=(l.length+1) * E.n:=by rw [e,cB K,ln]
  refine jK K ln.symm hB hb hcap hm ?_ ?_
  ·rw [aD,p2,p3,<- Z,aB,q,aH,show cur.toList.length=cap * E.n from Array.length_toList.trans hsz,hkl];have h1:(l.length+1) * E.n<=cap * E.n:=D _ hcap;rw [show k+1+(l.length-k)=l.length+1 by omega];omega
  ·rw [p2,p3,<- Z];exact (bC q).trans e
theorem lG (K:E.Ok) (tn:au) (htn:Try.prog.underlying tn=ak (.int .i64)) (hk:k<l.length) (hl:l.length<=1000) (hcap:cap<l.length+1) (hlc:l.length<=cap) (ht:cur.toList.take (l.length * E.n)=flat E l) (W:J) (g b:Nat) (hb:dh W g cur E.t) (_hbW:b<W.heap.size) :
  ∃ (G:Nat) (R1 R2 R3:Array O),l.length+1<=G/\G<=bJ /\
   (∀ ty,(aK #[E.ts,tn] ty #[ah (ak ⟨g,0,aI⟩) k cap,aW aU ((l.length:Int)+1-k)]).run aj W=.ok (ah (ak ⟨W.heap.size,0,aI⟩) (l.length+1) G) (W.drew.alloc (.cells R1 E.t))) /\
   (∀ (w:J) (ty:au) (nd dc:Nat),dh w W.heap.size R1 E.t->dh w b cs E.t->cs.toList=E.cells c->1<=nd->(aC #[E.ts,E.ts] ty #[ah (ak ⟨W.heap.size,k * E.n,aI⟩) nd dc,ah (ak ⟨b,0,aI⟩) 1 1]).run aj w=.ok (aW aU 1) (w.setRow W.heap.size R2)) /\
   (∀ (w:J) (ty:au) (nd dc ns sc:Nat),dh w W.heap.size R2 E.t->dh w g cur E.t->min ns nd=l.length-k->(aC #[E.ts,E.ts] ty #[ah (ak ⟨W.heap.size,(k+1) * E.n,aI⟩) nd dc,ah (ak ⟨g,k * E.n,aI⟩) ns sc]).run aj w=.ok (aW aU ((l.length-k:Nat):Int)) (w.setRow W.heap.size R3)) /\
   (∀ (w:J) (B:Nat),B<=W.heap.size->dh w W.heap.size R3 E.t->Own E w B (ah (ak ⟨W.heap.size,0,aI⟩) (l.length+1) G) (l.take k++c::l.drop k)):=by
 obtain⟨i,i1,i2,i3,i4⟩:=K.info;have hf:=K.few;have hpos:=K.pos;have hkl:(l.drop k).length=l.length-k:=by simp
 have hold:(aX i.size k (ah (ak ⟨g,0,aI⟩) k cap)).run aj W.drew=.ok (flat E (l.take k)).toArray W.drew :=
  run_firstCells_some (P:=aj) (w:=W.drew) i.size k ⟨g,0,aI⟩ k cap (flat E (l.take k)) (by rw [cB K,Y,V (by omega),i3]) (fun j u hj=>by
   rw [kZ];show W.cell? _=_;rw [hb.cell];rw [<- j6 K,<- ht,aA] at hj
   split at hj
   ·rw [aA] at hj
    split at hj
    ·simpa using hj
    ·cases hj
   ·cases hj)
 have happ:=fun ty=>Lib.run_append_grow_zeros (P:=aj) W E.ts tn ty E.t i _ aU aU K.hu htn i1 i2 (ak ⟨g,0,aI⟩) k cap (flat E (l.take k)) hold (l.length+1-k) (by omega) (by rw [i3]; exact hpos) (by omega) (by omega)
  (by rw [i4]; exact bL (bH (show l.length+1-k<=2000 by omega) hf) (by decide))
  (growslice_fits (by omega) (by rw [i4]; exact bL (bH (show k+(l.length+1-k)<=2000 by omega) hf) (by decide)))
 rw [show k+(l.length+1-k)=l.length+1 by omega] at happ;have hG1:=grownCap_ge W (l.length+1) cap E.t;have hG2:=grownCap_le_maxLen W (l.length+1) cap E.t (by unfold bJ; omega);generalize grownCap W (l.length+1) cap E.t=G at happ hG1 hG2;obtain⟨R1,Gd⟩:∃ R1:Array O,R1=(flat E (l.take k)).toArray++bf E.z.cells (l.length+1-k)++bf E.z.cells (G-(l.length+1)):=⟨_,rfl⟩;rw [<- Gd] at happ;have hs0:R1.size=G * E.n:=by
  rw [Gd];simp only [Array.size_append,aD,size_zeroCells,K.zs,cB K,Y,V (Nat.le_of_lt hk),<- aJ];rw [show k+(l.length+1-k)+(G-(l.length+1))=G by omega]
 have hh:R1.toList.take (k * E.n)=flat E (l.take k):=by
  rw [Gd];simp only [Array.toList_append,Z];have e:(flat E (l.take k)).length=k * E.n:=by rw [cB K,Y,V (by omega)]
  rw [<- e];simp
 have q1:(flat E [c]).length=1 * E.n:=by rw [cB K]; rfl
 have q0:(R1.toList.take (k * E.n)).length=k * E.n:=by
  rw [hh,cB K,Y,V (by omega)]
 have hs2:(R1.toList.take (k * E.n)++flat E [c]++R1.toList.drop ((k+[c].length) * E.n)).length=G * E.n:=by
  have h1:(k+1) * E.n<=G * E.n:=D _ (by omega);have h2:(k+1) * E.n=k * E.n+1 * E.n:=aJ ..;simp only [aB,q0,q1,aH,aM,hs0,List.length_singleton];omega
 refine⟨G,R1,(R1.toList.take (k * E.n)++flat E [c]++R1.toList.drop ((k+[c].length) * E.n)).toArray,
  ((R1.toList.take (k * E.n)++flat E [c]++R1.toList.drop ((k+[c].length) * E.n)).take ((k+1) * E.n)++flat E (l.drop k)++(R1.toList.take (k * E.n)++flat E [c]++R1.toList.drop ((k+[c].length) * E.n)).drop ((k+1+(l.drop k).length) * E.n)).toArray,hG1,hG2,?_,?_,?_,?_⟩
 ·intro ty;have h:=happ ty;rw [show ((l.length+1-k:Nat):Int)=(l.length:Int)+1-k by omega] at h;exact h
 ·intro w ty nd dc hb' hx hc hn;have h:=jM K (o:=k) (m:=[c]) (nd:=nd) (cd:=dc) (ns:=1) (sc:=1) hb' (jL hx hc) (by simp; omega) (by rw [hs0]; exact D _ (by simp; omega)) ty;simpa using h
 ·intro w ty nd dc ns sc hb' hx hm;have h:=jM K (o:=k+1) (m:=l.drop k) (nd:=nd) (cd:=dc) (ns:=ns) (sc:=sc) hb' (pq K hx ht k) (by rw [hkl]; exact hm) (by rw [hkl,aD,hs2]; exact D _ (by omega)) ty;rw [hkl] at h ⊢;exact h
 ·intro w B hB hb';have p2:(R1.toList.take (k * E.n)++flat E [c]++R1.toList.drop ((k+[c].length) * E.n)).take ((k+1) * E.n)=flat E (l.take k)++flat E [c]:=by
   have e:(R1.toList.take (k * E.n)++flat E [c]).length=(k+1) * E.n:=by rw [aB,q0,q1,<- aJ]
   rw [<- e,bF,hh]
  have e:flat E (l.take k)++flat E [c]++flat E (l.drop k)=flat E (l.take k++c::l.drop k):=by
   rw [dP,show c::l.drop k=[c]++l.drop k from rfl,dP,Z]
  have ln:(l.take k++c::l.drop k).length=l.length+1:=by simp; omega
  have q:(flat E (l.take k)++flat E [c]++flat E (l.drop k)).length=(l.length+1) * E.n:=by rw [e,cB K,ln]
  refine jK K ln.symm hB hb' hG1 hG2 ?_ ?_
  ·rw [aD,p2,aB,q,aH,hs2,hkl];have h1:(l.length+1) * E.n<=G * E.n:=D _ hG1;rw [show k+1+(l.length-k)=l.length+1 by omega];omega
  ·rw [p2];exact (bC q).trans e
end
theorem fU {P:Program} {ops:Array Oper} {rest:List Oper} {o:Oper} {a:aY} {Q:bP->aY->J->Prop} {w w':J} (hgd:o.guard=aI) (s x:X) (t t':au)
  (ho:o.op=.call { callee:=.builtin .append,args:=#[s,x],argTypes:=#[t,t'] }) {v xv v':O} (hs:a.eval s=v) (hx:a.eval x=xv) (hr:(aK #[t,t'] o.type #[v,xv]).run P w=.ok v' w')
  (h:wpList P ops Q rest (a.put o.dst v') w'):wpList P ops Q (o::rest) a w:=by
 refine wpList_plain hgd fun K hK=>?_;unfold aT execOp;simp only [ho,resolve,invoke,builtin,Sem.run_bind,Sem.run_pure,bg,bA,bI,bM,hs,hx,hr];exact hK _ _ h
theorem fB {P:Program} {ops:Array Oper} {o:Oper} {a:aY} {w w':J} {K:aY->J->Prop} {Q:bP->aY->J->Prop} {E:Prop}
  (hg:o.guard=aI) (s x:X) (t:au) (hop:o.op=.call { callee:=.builtin .copy,args:=#[s,x],argTypes:=#[t,t] }) {v xv v':O} (hs:a.eval s=v) (hx:a.eval x=xv)
  (hr:(aC #[t,t] o.type #[v,xv]).run P w=.ok v' w') (hK:K (a.put o.dst v') w') :
  if U o (yielded ops a.tmps)=aL then aT P o a w K Q else E:=by
 have hw:U o (yielded ops a.tmps)=aL:=by simp [U,hg]
 rw [if_pos hw];unfold aT execOp;simp only [hop,resolve,invoke,builtin,Sem.run_bind,Sem.run_pure,bg,bA,bI,bM,hs,hx,hr];exact hK
end Rw
namespace Rg
open Go.RowKit
def left (L:Array Bool):Nat:=L.toList.countP (fun b=>!b)
theorem wJ (L:Array Bool) (i:Nat) (h:L.getD i aL=bQ):left (L.setIfInBounds i aL)+1=left L:=by
 obtain⟨l⟩:=L;have hi:i<l.length:=by
  rcases bn i l.length with h0|h0
  ·exact h0
  ·exact absurd h (by simp [ay,bS.2 h0])
 have hv:l[i]=bQ:=by simpa [ay,hi] using h
 unfold left;simp only [List.setIfInBounds_toArray];rw [List.countP_set hi,hv];have hp:0<l.countP (fun b=>!b):=List.countP_pos_iff.2 ⟨l[i],bB hi,by rw [hv]; rfl⟩;simp;omega
theorem uj (L:Array Bool) (h:left L=0) (i:Nat):L.getD i aL=aL:=by
 obtain⟨l⟩:=L;unfold left at h;rw [List.countP_eq_zero] at h;rcases bn i l.length with h0|h0
 ·have:=h l[i] (bB h0);simp [ay,h0];simpa using this
 ·simp [ay,bS.2 h0]
def wK (ops:Array Oper):Bool:=(List.range ops.size).all fun i=>match ops[i]? with
 | some o=>o.after.all fun e=>!Region.binds .any e || decide (e.on<i)
 | none=>aL
def done (L:Array Bool) (i:Nat):Prop:=L.getD i bQ=aL
theorem pz {ops:Array Oper} (hf:wK ops=aL) {L:Array Bool} (hs:L.size=ops.size) (h:bq .any ops L=[]):∀ n,n<=ops.size->∀ i,i<n->done L i:=by
 intro n
 induction n with
 | zero=>intro _ i hi; omega
 | succ n ih =>
  intro hn i hi;rcases bn i n with h1|h1
  ·exact ih (by omega) i h1
  ·obtain rfl:i=n:=by omega
   cases hd:L.getD i aL
   ·exfalso;have hm:i∈bq .any ops L:=by
     rw [mem_ready];refine⟨hd,ops[i],aP (by omega),fun e he hbd=>?_⟩;have h2:=List.all_eq_true.1 hf i (List.mem_range.2 (by omega));rw [aP (by omega)] at h2;have h3:=Array.all_eq_true'.1 h2 e he;rw [hbd] at h3;exact ih (by omega) e.on (by simpa using h3)
    rw [h] at hm;cases hm
   ·unfold done;have hi2:i<L.size:=by omega
    simp [ay,hi2] at hd ⊢;exact hd
section
variable {P:Program} {ops:Array Oper} {Q:bP->aY->J->Prop}
theorem qN (I:Array Bool->aY->J->Prop) (hf:wK ops=aL)
  (hstep:∀ L a w i o,L.size=ops.size->I L a w->ops[i]?=ak o->¬ done L i->(∀ e∈o.after,bN .any e=aL->done L e.on)->wpOp P ops Q i (I (L.setIfInBounds i aL)) a w)
  (hend:∀ L a w,I L a w->(∀ i,i<ops.size->done L i)->Q .normal a w) :
  ∀ (fuel:Nat) (L:Array Bool) (a:aY) (w:J),L.size=ops.size->left L<=fuel->I L a w->wpAny P .any ops Q fuel L a w:=by
 intro fuel
 induction fuel with
 | zero =>
  intro L a w hs hl hI;have hr:bq .any ops L=[]:=by
   rw [List.eq_nil_iff_forall_not_mem];intro i hi;have h1:=(mem_ready.1 hi).1;rw [uj L (by omega) i] at h1;cases h1
  exact⟨hr,hend L a w hI (pz hf hs hr ops.size (bR _))⟩
 | succ fuel ih =>
  intro L a w hs hl hI;refine⟨fun hr=>hend L a w hI (pz hf hs hr ops.size (bR _)),fun i hi=>?_⟩;obtain⟨h1,o,h2,h3⟩:=mem_ready.1 hi;have hlt:i<ops.size:=(aF.1 h2).1;have hnd:¬ done L i:=by
   unfold done;have:i<L.size:=by omega
   simp [ay,this] at h1 ⊢;exact h1
  have hst:=hstep L a w i o hs hI h2 hnd (fun e he hb=>h3 e he hb);have hmono:∀ a' w',I (L.setIfInBounds i aL) a' w'->wpAny P .any ops Q fuel (L.setIfInBounds i aL) a' w':=fun a' w' h =>
   ih _ a' w' (by simpa using hs) (by have:=wJ L i h1; omega) h
  unfold wpOp at hst ⊢;rw [h2] at hst ⊢;simp only at hst ⊢
  split at hst
  ·rename_i hw
   rw [if_pos hw];rcases hst with hst|hst
   ·exact Or.inl (bO hmono hst)
   ·exact Or.inr hst
  ·rename_i hw
   rw [if_neg hw];exact hmono _ _ hst
theorem lH (I:Array Bool->aY->J->Prop) {id:Nat} {a:aY} {w:J} {l:List Oper} (hm:P.follows .mixedOrders=aL) (hf:wK l.toArray=aL)
  (h0:I (bD l.length bQ) a { w with drawn:=w.drawn+1 })
  (hstep:∀ L a w i o,L.size=l.length->I L a w->l[i]?=ak o->¬ done L i->(∀ e∈o.after,bN .any e=aL->done L e.on)->wpOp P l.toArray Q i (I (L.setIfInBounds i aL)) a w)
  (hend:∀ L a w,I L a w->(∀ i,i<l.length->done L i)->Q .normal a w):(Code.region id l.toArray aL).wp P Q a w:=by
 refine wp_region_any hm (qN (ops:=l.toArray) I hf (fun L a w i o hs hI ho=>hstep L a w i o (by simpa using hs) hI (by simpa using ho)) (fun L a w hI hd=>hend L a w hI (by simpa using hd)) _ _ _ _ (by simp) ?_ (by simpa using h0));unfold left;have h2:=List.countP_le_length (p:=fun b:Bool=>!b) (l:=List.replicate l.length bQ);simpa using h2
end
theorem fE {L:Array Bool} {i:Nat} (h:i<L.size) (j:Nat):done (L.setIfInBounds i aL) j↔j=i\/done L j:=by
 unfold done;by_cases e:j=i
 ·subst e; simp [ay,h]
 ·by_cases hj:j<L.size
  ·have h2:i≠j:=fun x=>e x.symm;simp [ay,hj,e,h2]
  ·simp [ay,hj,e]
theorem fZ (n j:Nat):¬ done (bD n bQ) j:=by
 unfold done;by_cases hj:j<n <;> simp [ay,hj]
theorem cu {P:Program} {ops:Array Oper} {Q:bP->aY->J->Prop} {K:aY->J->Prop} {a:aY} {w w':J} {i:Nat} {o:Oper} {v:O}
  (ho:ops[i]?=ak o) (hg:o.guard=aI) (hr:(execOp a.eval o).run P w=.ok (.value v) w') (h:K (a.put o.dst v) w'):wpOp P ops Q i K a w:=by
 unfold wpOp;rw [ho];have hw:U o (yielded ops a.tmps)=aL:=by simp [U,hg]
 simp only [hw,if_true];refine Or.inl ?_;unfold aT;rw [hr];exact h
theorem Dx {P:Program} {s:Sem O} {w w':J} {v:O} (h:s.run P w=.ok v w'):(do pure (Next.value (<- s)):Sem Next).run P w=.ok (.value v) w':=by
 simp [go_sem,h]
theorem um {P:Program} (ρ:X->O) (o:Oper) (s x:X) (t:au) (ho:o.op=.call { callee:=.builtin .append,args:=#[s,x],argTypes:=#[t,t] }) {v x' v':O} {w w':J}
  (hs:ρ s=v) (hx:ρ x=x') (hrun:(aK #[t,t] o.type #[v,x']).run P w=.ok v' w'):(execOp ρ o).run P w=.ok (.value v') w':=by
 simp [execOp,ho,resolve,invoke,builtin,hs,hx,hrun,aG]
theorem iD {P:Program} (ρ:X->O) (o:Oper) (t:au) (x i:X) (ho:o.op=.indexAddr t x i) {v:O} {w:J} (hr:(Instr.indexAt t (ρ x) (ρ i)).run P w=.ok v w) :
  (execOp ρ o).run P w=.ok (.value v) w:=by
 simp [execOp,ho,hr,aG]
theorem dO {P:Program} (ρ:X->O) (o:Oper) (t:au) (x:X) (ho:o.op=.load t x) {v:O} {w:J} (hr:(Instr.loadAt t (ρ x)).run P w=.ok v w) :
  (execOp ρ o).run P w=.ok (.value v) w:=by
 simp [execOp,ho,hr,aG]
theorem pE {P:Program} (ρ:X->O) (o:Oper) (t:au) (n:Nat) (parts:Array (Nat×X)) (ho:o.op=.buildSlice t n parts) {ps:Array (Nat×O)} (hp:parts.map (fun x=>(x.1,ρ x.2))=ps) {v:O} {w w':J} (hr:(Instr.buildSlice t n ps).run P w=.ok v w') :
  (execOp ρ o).run P w=.ok (.value v) w':=by
 subst hp;simp [execOp,ho,hr,aG]
theorem gN {P:Program} (ρ:X->O) (o:Oper) (x:X) (ho:o.op=.move x) (w:J):(execOp ρ o).run P w=.ok (.value (ρ x)) w:=by
 simp [execOp,ho]
theorem ny {P:Program} (ρ:X->O) (o:Oper) (x:X) (ho:o.op=.assign x) (w:J):(execOp ρ o).run P w=.ok (.value (ρ x)) w:=by
 simp [execOp,ho]
theorem size_put (a:aY) (d:Nat) (v:O):(a.put (ak d) v).tmps.size=a.tmps.size:=by simp [Act.put]
theorem get_put (a:aY) (d:Nat) (v:O) (j:Nat) (hd:j≠d):(a.put (ak d) v).tmps[j]?=a.tmps[j]?:=by
 have h2:d≠j:=fun x=>hd x.symm;simp [Act.put,h2]
theorem cO {a:aY} {j:Nat} {v:O} (h:a.tmps[j]?=ak v):a.eval (.tmp j)=v:=by
 have h1:=(aF.1 h).1;have h2:=(aF.1 h).2;simp [Act.eval,ay,h1,h2]
theorem zF {P:Program} {ops:Array Oper} {Q:bP->aY->J->Prop} {K:aY->J->Prop} {a:aY} {w w':J} {i:Nat} {o:Oper}
  (ho:ops[i]?=ak o) (hg:o.guard=aI) (hr:(execOp a.eval o).run P w=.ok .skip w') (h:K (a.put o.dst undef) w'):wpOp P ops Q i K a w:=by
 unfold wpOp;rw [ho];have hw:U o (yielded ops a.tmps)=aL:=by simp [U,hg]
 simp only [hw,if_true];refine Or.inl ?_;unfold aT;rw [hr];exact h
theorem fH {a:aY} {bl:List O} (d0 m:Nat) (df:a.defers=[]) (sz:a.tmps.size=bl.length) (hle:d0+m<=bl.length) (kp:∀ j,(j<d0\/d0+m<=j)->a.tmps[j]?=bl[j]?) :
  ∃ mid:List O,mid.length=m/\a=⟨(bl.take d0++(mid++bl.drop (d0+m))).toArray,[]⟩:=by
 obtain⟨tmps,defers⟩:=a;have hd:defers=[]:=df;have hs:tmps.size=bl.length:=sz;have hk:∀ j,(j<d0\/d0+m<=j)->tmps[j]?=bl[j]?:=kp;subst hd;have hl:((tmps.toList.drop d0).take m).length=m:=by simp; omega
 refine⟨(tmps.toList.drop d0).take m,hl,congrArg (fun x=>(⟨x,[]⟩:aY)) ?_⟩;apply Array.ext_getElem?;intro j
 conv=>rhs; rw [List.getElem?_toArray]
 by_cases h1:j<d0
 ·rw [hk j (Or.inl h1),aQ (by simp; omega),aA,if_pos h1]
 ·have ht:(bl.take d0).length=d0:=by simp; omega
  rw [aO (by omega),ht];by_cases h2:j<d0+m
  ·rw [aQ (by omega),aA,if_pos (by omega),aN,Array.getElem?_toList,show d0+(j-d0)=j by omega]
  ·rw [hk j (Or.inr (by omega)),aO (by omega),hl,aN,show d0+m+(j-d0-m)=j by omega]
end Rg
namespace Rw
open Go.RowKit
theorem iy {P:Program} {ops:Array Oper} {o:Oper} {a:aY} {w:J} {K:aY->J->Prop} {Q:bP->aY->J->Prop} {E:Prop} {f:FuncId} {args:Array O} {R:Ending->J->Prop}
  (hg:o.guard=aI) (hr:(execOp a.eval o).run P w=.ok (.enter f args) w) (hc:Calls P f args w R) (hR:∀ e w',R e w'->∃ v,e=.returned v/\K (a.put o.dst v) w') :
  if U o (yielded ops a.tmps)=aL then aT P o a w K Q else E:=by
 have hw:U o (yielded ops a.tmps)=aL:=by simp [U,hg]
 rw [if_pos hw];unfold aT;rw [hr,bE];refine hc.mono ?_;intro e w' h;obtain⟨v,rfl,hk⟩:=hR e w' h;exact hk
theorem dV {P : Program} {f : FuncId} {fn : Func} {c : Code} (hf : P.funcs[f]? = some fn) (hname : (fn.name == "runtime.NumGoroutine") = false) (hb : fn.body = some c) (args : Array Value) (w : World) : (callFunc f args).run P w = .ok (.enter f args) w := by
 have h1 : fn.name ≠ "runtime.NumGoroutine" := by simpa using hname
 simp [callFunc,hf,h1,hb]
theorem eO {P:Program} (ρ:X->O) (o:Oper) (x:X) (t:au) (f:FuncId) (ho:o.op=.call { callee:=.value (.func f),args:=#[x],argTypes:=#[t] }) {v:O} (hx:ρ x=v) (hf:ρ (.func f)=.func (.func f) #[] #[]) (w:J)
  (hc:(callFunc f #[v]).run P w=.ok (.enter f #[v]) w):(execOp ρ o).run P w=.ok (.enter f #[v]) w:=by
 simp [execOp,ho,resolve,invoke,hx,hf,Deferred.ofValue,hc]
theorem jN {P:Program} (ρ:X->O) (o:Oper) (x y:X) (t s:au) (f:FuncId) (ho:o.op=.call { callee:=.value (.func f),args:=#[x,y],argTypes:=#[t,s] }) {v u:O} (hx:ρ x=v) (hy:ρ y=u) (hf:ρ (.func f)=.func (.func f) #[] #[]) (w:J)
  (hc:(callFunc f #[v,u]).run P w=.ok (.enter f #[v,u]) w):(execOp ρ o).run P w=.ok (.enter f #[v,u]) w:=by
 simp [execOp,ho,resolve,invoke,hx,hy,hf,Deferred.ofValue,hc]
end Rw
namespace Rg
open Go.RowKit
theorem eU {P:Program} {ops:Array Oper} {Q:bP->aY->J->Prop} {K:aY->J->Prop} {a:aY} {w:J} {i:Nat} {o:Oper} {f:FuncId} {args:Array O} {R:Ending->J->Prop}
  (ho:ops[i]?=ak o) (hg:o.guard=aI) (hr:(execOp a.eval o).run P w=.ok (.enter f args) w) (hc:Calls P f args w R) (hR:∀ e w',R e w'->∃ v,e=.returned v/\K (a.put o.dst v) w'):wpOp P ops Q i K a w:=by
 unfold wpOp;rw [ho];have hw:U o (yielded ops a.tmps)=aL:=by simp [U,hg]
 simp only [hw,if_true];refine Or.inl ?_;unfold aT;rw [hr,bE];refine hc.mono ?_;intro e w' h;obtain⟨v,rfl,hk⟩:=hR e w' h;exact hk
theorem dH {P:Program} (ρ:X->O) (o:Oper) (s:au) (x:X) (f:Nat) (ho:o.op=.fieldAddr s x f) {v:O} {w:J} (hr:(Instr.fieldAt s (ρ x) f).run P w=.ok v w):(execOp ρ o).run P w=.ok (.value v) w:=by
 unfold execOp;rw [ho];exact Dx hr
theorem wpOp_mono {P:Program} {ops:Array Oper} {Q:bP->aY->J->Prop} {i:Nat} {K K':aY->J->Prop} {a:aY} {w:J} (h:∀ a w,K a w->K' a w) (hw:wpOp P ops Q i K a w):wpOp P ops Q i K' a w:=by
 unfold wpOp at hw ⊢;cases ho:ops[i]? with
 | none =>
  rw [ho] at hw;exact h _ _ hw
 | some o =>
  rw [ho] at hw;simp only at hw ⊢
  split at hw
  ·rename_i h1
   rw [if_pos h1];rcases hw with hw|hw
   ·exact Or.inl (bO h hw)
   ·exact Or.inr hw
  ·rename_i h1
   rw [if_neg h1];exact h _ _ hw
def dW (P:Program) (ops:Array Oper) (Q:bP->aY->J->Prop):Nat->Nat->aY->J->Prop
 | 0,_,a,w=>Q .normal a w
 | n+1,k,a,w=>wpOp P ops Q k (fun a w=>dW P ops Q n (k+1) a w) a w
theorem nA {P:Program} (ρ:X->O) (o:Oper) (t:au) (parts:Array (Nat×X)) (ho:o.op=.build t parts) {ps:Array (Nat×O)} (hp:parts.map (fun x=>(x.1,ρ x.2))=ps) {v:O} {w:J} (hr:(Instr.build t ps).run P w=.ok v w) :
  (execOp ρ o).run P w=.ok (.value v) w:=by
 subst hp;simp [execOp,ho,hr,aG]
theorem wL {P:Program} (ρ:X->O) (o:Oper) (t:au) (x y:X) (ho:o.op=.store t x y) {w w':J} (hr:(Instr.storeAt t (ρ x) (ρ y)).run P w=.ok () w') :
  (execOp ρ o).run P w=.ok .skip w':=by
 simp [execOp,ho,hr,aG]
end Rg
namespace Nm
def hor (l:List UInt8):Int:=l.foldl (fun h b=>h * 256+(b.toNat:Int)) 0
def mX (l:List UInt8):Int:=IntKind.i64.wrap (hor l)
end Nm
end Go.Proofs.Ytkcfgbddlpomgaa
