/-
  Numbers in memory, a. Conditions as told.
-/
import Derived.Test.YtghlpefopidlaaaGreatOQ000
import Derived.Lib.AppendZerosOnto
import Derived.Lib.Overlaps
import Derived.Deep.RegionLaw
import Derived.Laws.Externs
import Derived.Test.YtghlpefopidlaaaGreatOQ001
import Derived.Shelf.Slices.In.SortNone
import Derived.Shelf.Sort.Plain
import Derived.Shelf.Slices.CompactI
import Derived.Shelf.Slices.SearchI
import Derived.OpenShut
import Derived.Carry
import Derived.ChangeMaps5
import Derived.ChangeArms
set_option maxRecDepth 100000
set_option maxHeartbeats 64000000
open _root_.Array renaming length_toList->aM
open _root_.Bool renaming and_eq_true->aH,true->aK,false->dn
open _root_.Go renaming World->au,TypeId->aC,Value->aD
open Go.Builtin renaming copy_->ak,firstCells->bq,zeroCells->bG,append_->bV
open Go.Proofs.Tryz renaming prog->U,underlying24->aF,underlying0->aP,underlying3->aQ,underlying4->aR,zeroValue24->aS,zeroValue0->aX,zeroValue3->aY,zeroValue4->aZ,sizeOf24->bg,underlying155->bC,sizeOf0->bH,sizeOf3->bI,sizeOf4->bJ,isAgg24->bK,zeroValue155->bL,isAgg0->bR,isAgg3->bS,isAgg4->bT,sizeOf155->cK,isAgg155->cO
open Go.Value renaming slice->aj,int->bM
open _root_.List renaming mem_cons->J,length_take->V,append_assoc->X,length_append->Z,pairwise_cons->ah,size_toArray->ay,length_drop->aA,map_cons->aI,mem_cons_of_mem->aL,getElem?_take->aN,mem_cons_self->aO,take_of_length_le->aU,drop_of_length_le->aV,take_append_drop->bf,map_toArray->bO,length_cons->bP,take_left'->bU,length_map->bX,mem_filter->bY,take_left->bZ,take_take->cu,map_nil->dh
open _root_.Nat renaming mul_le_mul_right->D,min_eq_left->L,add_mul->aJ,add_zero->bD,le_trans->bF,mul_le_mul->cB,le_total->cZ
open _root_.Option renaming some->O,none->aB,map_eq_none_iff->aW
open Option.some renaming inj->Y
open _root_.Or renaming inr->aG,inl->aT
namespace Go.Proofs.YtghlpefopidlaaaGreat.Nm
open Go.RowKit Rw
def EI:Ek Int:=⟨3,24,1,8,bM .i64 0,fun n=>.int .i64 n,fun n=>[bM .i64 n]⟩
theorem Rc:(Tryz.prog.info? 3).map (fun i=>(i.zero,i.size,i.bytes))=O (O (bM .i64 0),1,8):=by kernel_rfl
theorem Ng:EI.Ok where
 hu:=aF
 info:=by
  have h:=Rc;cases hi:Tryz.prog.info? 3 with
  | none=>rw [hi] at h; cases h
  | some i =>
   rw [hi] at h;simp only [Option.map_some,Option.some.injEq,Prod.mk.injEq] at h;exact⟨i,hi,h.1,h.2.1,h.2.2⟩
 zs:=rfl
 len:=fun _=>rfl
 one:=fun x u hu=>by
  simp only [EI,J,List.not_mem_nil,or_false] at hu;rw [hu]
  rfl
 pos:=by decide
 few:=by decide
 load:=fun w p x h=>by
  have h0:=h 0 _ rfl;rw [add_zero] at h0;show (Instr.loadAt 3 (.pointer (O p))).run U w=.ok (bM .i64 x) w;simp [go_sem,h0]
abbrev Gq (W:au) (v:aD) (l:List Int):Prop:=Row EI W v l
abbrev um (W:au) (B:Nat) (v:aD) (l:List Int):Prop:=Own EI W B v l
theorem zX:∀ l:List Int,flat EI l=l.map (fun n=>.int .i64 n)
 | []=>rfl
 | x::r=>by
  show EI.cells x++flat EI r=_;rw [zX r]
  rfl
end Go.Proofs.YtghlpefopidlaaaGreat.Nm
namespace Go.Proofs.YtghlpefopidlaaaGreat.Rw
open Go.RowKit
variable {α:Type} {E:Ek α}
theorem below_setRow {B g:Nat} {W w:au} (h:Below B W w) (hB:B<=g) (cs:Array aD):Below B W (w.setRow g cs) :=
 ⟨h.os,h.tape,h.output,by simp [World.setRow]; exact h.size,fun k hk=>by
  have hne:g≠k:=by omega
  have h2:=h.block k hk;simp [World.setRow,Array.getElem?_modify,hne,h2]⟩
theorem dx.set {w:au} {g:Nat} {cur:Array aD} {t:aC} (h:dx w g cur t) (cs:Array aD):dx (w.setRow g cs) g cs t:=setRow_heap w g cur cs t (0,0) h
theorem dx.other {w:au} {g b:Nat} {cur:Array aD} {t:aC} (h:dx w b cur t) (hne:b≠g) (cs:Array aD):dx (w.setRow g cs) b cur t:=(setRow_other w g b cs hne).trans h
theorem dx.shape {w:au} {b:Nat} {cur:Array aD} {t:aC} (h:dx w b cur t):w.shape? b=O (t,cur.size):=by
 unfold dx at h;simp [World.shape?,h]
theorem eT {W:au} {B:Nat} {v:aD} {l:List α} (h:Own E W B v l):(v=aj aB 0 0/\l=[])\/∃ g cap cur,v=aj (O ⟨g,0,aB⟩) l.length cap/\B<=g/\dx W g cur E.t/\l.length<=cap/\cap<=maxLen/\cur.size=cap * E.n/\cur.toList.take (l.length * E.n)=flat E l:=by
 rcases h.2 with⟨h1,h2⟩|⟨g,cap,cur,h1,h2,h3,h4,h5,h6,h7⟩
 ·exact aT ⟨h1,List.eq_nil_of_length_eq_zero h2⟩
 ·exact aG ⟨g,cap,cur,h1,h2,h3,h4,h5,h6,h7⟩
theorem jR (K:E.Ok) {W:au} {B g cap n:Nat} {cur:Array aD} {l:List α} (hn:n=l.length) (hB:B<=g) (hb:dx W g cur E.t) (h1:n<=cap) (h2:cap<=maxLen) (h3:cur.size=cap * E.n) (h4:cur.toList.take (n * E.n)=flat E l):Own E W B (aj (O ⟨g,0,aB⟩) n cap) l:=by
 subst hn;exact⟨dz K l,aG ⟨g,cap,cur,rfl,hB,hb,h1,h2,h3,h4⟩⟩
theorem kF (K:E.Ok) (l:List α) (k:Nat):(flat E l).take (k * E.n)=flat E (l.take k):=by
 rcases cZ k l.length with h|h
 ·conv=>lhs; rw [<- bf k l,eY]
  have e:(flat E (l.take k)).length=k * E.n:=by rw [dz K,V,L h]
  rw [<- e,bZ]
 ·rw [aU h,aU];rw [dz K];exact D _ h
theorem rC (K:E.Ok) (l:List α) (k:Nat):(flat E l).drop (k * E.n)=flat E (l.drop k):=by
 rcases cZ k l.length with h|h
 ·conv=>lhs; rw [<- bf k l,eY]
  have e:(flat E (l.take k)).length=k * E.n:=by rw [dz K,V,L h]
  rw [<- e,List.drop_left]
 ·rw [aV h,aV]
  ·rfl
  rw [dz K];exact D _ h
theorem qp (K:E.Ok) {W:au} {g:Nat} {cur:Array aD} {t:aC} {l:List α} (hb:dx W g cur t) (ht:cur.toList.take (l.length * E.n)=flat E l) (k:Nat):∀ j u,(flat E (l.drop k))[j]?=O u->W.cell? ((⟨g,k * E.n,aB⟩:Addr).add j)=O u:=by
 intro j u hj;rw [Addr.add_lit,hb.cell];rw [<- rC K,List.getElem?_drop,<- ht,aN] at hj
 split at hj
 ·simpa using hj
 ·cases hj
theorem mY {W:au} {b:Nat} {cs:Array aD} {t:aC} {x:α} (hb:dx W b cs t) (hc:cs.toList=E.cells x):∀ j u,(flat E [x])[j]?=O u->W.cell? ((⟨b,0,aB⟩:Addr).add j)=O u:=by
 intro j u hj;rw [lM,hb.cell];rw [Gm,<- hc] at hj;simpa using hj
theorem fu (K:E.Ok) (g k len cap:Nat) (h:k<=len) (hc:k<cap) (w:au):(Instr.sliceAt E.ts (aj (O ⟨g,0,aB⟩) len cap) (O (bM .i64 k)) aB aB).run U w=.ok (aj (O ⟨g,k * E.n,aB⟩) (len-k) (cap-k)) w:=by
 rw [ql K ⟨g,0,aB⟩ k len cap h w,if_neg (by omega),lM]
theorem qw (K:E.Ok) {w:au} {g o nd cd ns sc:Nat} {a:Addr} {cur:Array aD} {m:List α} (hb:dx w g cur E.t) (hm:∀ j u,(flat E m)[j]?=O u->w.cell? (a.add j)=O u) (hk:min ns nd=m.length) (hr:(o+m.length) * E.n<=cur.size) (ty:aC) :
  (ak #[E.ts,E.ts] ty #[aj (O ⟨g,o * E.n,aB⟩) nd cd,aj (O a) ns sc]).run U w=.ok (bM .i64 m.length) (w.setRow g (cur.toList.take (o * E.n)++flat E m++cur.toList.drop ((o+m.length) * E.n)).toArray):=by
 obtain⟨i,i1,i2,i3,i4⟩:=K.info;have hl:=run_loadCells_list (P:=U) w a (flat E m) hm;have hst:=run_storeCells_at U g (o * E.n) E.t (flat E m) 0 cur w hb (by rw [dz K,bD,<- aJ]; exact hr) (jG K m);rw [dz K] at hl;have e:o * E.n+0+(flat E m).length=(o+m.length) * E.n:=by rw [dz K,bD,aJ]
 rw [e,bD] at hst;simp [ak,run_underlying K.hu,Builtin.lenOf,bq,sizeOf,typeInfo,i1,i3,hk,hl,goInt];simpa using congrArg (fun r=>r.andThen fun _ w=>Result.ok (bM .i64 m.length) w) hst
/-! ### one element more, in the middle -/
section
variable {l:List α} {k cap:Nat} {cur cs:Array aD} {c:α}
theorem mh (K:E.Ok) (hk:k<l.length) (hcap:l.length+1<=cap) (hsz:cur.size=cap * E.n) (ht:cur.toList.take (l.length * E.n)=flat E l) (g b:Nat) (_hne:b≠g) :
  ∃ R1 R2:Array aD,
   (∀ (W:au) (ty:aC) (nd dc ns sc:Nat),dx W g cur E.t->min ns nd=l.length-k->(ak #[E.ts,E.ts] ty #[aj (O ⟨g,(k+1) * E.n,aB⟩) nd dc,aj (O ⟨g,k * E.n,aB⟩) ns sc]).run U W=.ok (bM .i64 ((l.length-k:Nat):Int)) (W.setRow g R1)) /\
   (∀ (W:au) (ty:aC) (nd dc:Nat),dx W g R1 E.t->dx W b cs E.t->cs.toList=E.cells c->1<=nd->(ak #[E.ts,E.ts] ty #[aj (O ⟨g,k * E.n,aB⟩) nd dc,aj (O ⟨b,0,aB⟩) 1 1]).run U W=.ok (bM .i64 1) (W.setRow g R2)) /\
   (∀ (W:au) (B:Nat),B<=g->cap<=maxLen->dx W g R2 E.t->Own E W B (aj (O ⟨g,0,aB⟩) (l.length+1) cap) (l.take k++c::l.drop k)):=by
 have hkl:(l.drop k).length=l.length-k:=by simp
 have hs1:(cur.toList.take ((k+1) * E.n)++flat E (l.drop k)++cur.toList.drop ((k+1+(l.drop k).length) * E.n)).length=cap * E.n:=by
  have h1:(k+1) * E.n<=cap * E.n:=D _ (by omega);have h2:(k+1+(l.drop k).length) * E.n<=cap * E.n:=D _ (by omega);simp only [Z,V,aA,aM,dz K,hsz];rw [L h1];have h3:(k+1+(l.drop k).length) * E.n=(k+1) * E.n+(l.drop k).length * E.n:=aJ ..;simp only [aA] at h2 h3 ⊢;omega
 refine⟨(cur.toList.take ((k+1) * E.n)++flat E (l.drop k)++cur.toList.drop ((k+1+(l.drop k).length) * E.n)).toArray,
  ((cur.toList.take ((k+1) * E.n)++flat E (l.drop k)++cur.toList.drop ((k+1+(l.drop k).length) * E.n)).take (k * E.n)++flat E [c]++(cur.toList.take ((k+1) * E.n)++flat E (l.drop k)++cur.toList.drop ((k+1+(l.drop k).length) * E.n)).drop ((k+1) * E.n)).toArray,?_,?_,?_⟩
 ·intro W ty nd dc ns sc hb hm;have h:=qw K (o:=k+1) (m:=l.drop k) (nd:=nd) (cd:=dc) (ns:=ns) (sc:=sc) hb (qp K hb ht k) (by rw [hkl]; exact hm) (by rw [hkl,hsz]; exact D _ (by omega)) ty;rw [hkl] at h ⊢;exact h
 ·intro W ty nd dc hb hx hc hn;have h:=qw K (o:=k) (m:=[c]) (nd:=nd) (cd:=dc) (ns:=1) (sc:=1) hb (mY hx hc) (by simp; omega) (by rw [ay,hs1]; exact D _ (by simp; omega)) ty;simpa using h
 ·intro W B hB hm hb;have p1:(cur.toList.take ((k+1) * E.n)).length=(k+1) * E.n:=by
   rw [V,aM,hsz];exact L (D _ (by omega))
  have p2:(cur.toList.take ((k+1) * E.n)++flat E (l.drop k)++cur.toList.drop ((k+1+(l.drop k).length) * E.n)).take (k * E.n)=flat E (l.take k):=by
   rw [X,List.take_append_of_le_length (by rw [p1]; exact D _ (by omega)),cu,L (D _ (by omega)),<- kF K,<- ht,cu,L (D _ (by omega))]
  have p3:(cur.toList.take ((k+1) * E.n)++flat E (l.drop k)++cur.toList.drop ((k+1+(l.drop k).length) * E.n)).drop ((k+1) * E.n)=flat E (l.drop k)++cur.toList.drop ((k+1+(l.drop k).length) * E.n):=by
   rw [X,List.drop_left' p1]
  have e:flat E (l.take k)++flat E [c]++flat E (l.drop k)=flat E (l.take k++c::l.drop k):=by
   rw [eY,show c::l.drop k=[c]++l.drop k from rfl,eY,X]
  have ln:(l.take k++c::l.drop k).length=l.length+1:=by simp; omega
  have q:(flat E (l.take k)++flat E [c]++flat E (l.drop k)).length=(l.length+1) * E.n:=by rw [e,dz K,ln]
  refine jR K ln.symm hB hb hcap hm ?_ ?_
  ·rw [ay,p2,p3,<- X,Z,q,aA,show cur.toList.length=cap * E.n from Array.length_toList.trans hsz,hkl];have h1:(l.length+1) * E.n<=cap * E.n:=D _ hcap;rw [show k+1+(l.length-k)=l.length+1 by omega];omega
  ·rw [p2,p3,<- X];exact (bU q).trans e
theorem nU (K:E.Ok) (tn:aC) (htn:Tryz.prog.underlying tn=O (.int .i64)) (hk:k<l.length) (hl:l.length<=1000) (hcap:cap<l.length+1) (hlc:l.length<=cap) (ht:cur.toList.take (l.length * E.n)=flat E l) (W:au) (g b:Nat) (hb:dx W g cur E.t) (_hbW:b<W.heap.size) :
  ∃ (G:Nat) (R1 R2 R3:Array aD),l.length+1<=G/\G<=maxLen /\
   (∀ ty,(bV #[E.ts,tn] ty #[aj (O ⟨g,0,aB⟩) k cap,bM .i64 ((l.length:Int)+1-k)]).run U W=.ok (aj (O ⟨W.heap.size,0,aB⟩) (l.length+1) G) (W.drew.alloc (.cells R1 E.t))) /\
   (∀ (w:au) (ty:aC) (nd dc:Nat),dx w W.heap.size R1 E.t->dx w b cs E.t->cs.toList=E.cells c->1<=nd->(ak #[E.ts,E.ts] ty #[aj (O ⟨W.heap.size,k * E.n,aB⟩) nd dc,aj (O ⟨b,0,aB⟩) 1 1]).run U w=.ok (bM .i64 1) (w.setRow W.heap.size R2)) /\
   (∀ (w:au) (ty:aC) (nd dc ns sc:Nat),dx w W.heap.size R2 E.t->dx w g cur E.t->min ns nd=l.length-k->(ak #[E.ts,E.ts] ty #[aj (O ⟨W.heap.size,(k+1) * E.n,aB⟩) nd dc,aj (O ⟨g,k * E.n,aB⟩) ns sc]).run U w=.ok (bM .i64 ((l.length-k:Nat):Int)) (w.setRow W.heap.size R3)) /\
   (∀ (w:au) (B:Nat),B<=W.heap.size->dx w W.heap.size R3 E.t->Own E w B (aj (O ⟨W.heap.size,0,aB⟩) (l.length+1) G) (l.take k++c::l.drop k)):=by
 obtain⟨i,i1,i2,i3,i4⟩:=K.info;have hf:=K.few;have hpos:=K.pos;have hkl:(l.drop k).length=l.length-k:=by simp
 have hold:(bq i.size k (aj (O ⟨g,0,aB⟩) k cap)).run U W.drew=.ok (flat E (l.take k)).toArray W.drew :=
  run_firstCells_some (P:=U) (w:=W.drew) i.size k ⟨g,0,aB⟩ k cap (flat E (l.take k)) (by rw [dz K,V,L (by omega),i3]) (fun j u hj=>by
   rw [lM];show W.cell? _=_;rw [hb.cell];rw [<- kF K,<- ht,aN] at hj
   split at hj
   ·rw [aN] at hj
    split at hj
    ·simpa using hj
    ·cases hj
   ·cases hj)
 have happ:=fun ty=>Lib.run_append_grow_zeros (P:=U) W E.ts tn ty E.t i _ .i64 .i64 K.hu htn i1 i2 (O ⟨g,0,aB⟩) k cap (flat E (l.take k)) hold (l.length+1-k) (by omega) (by rw [i3]; exact hpos) (by omega) (by omega)
  (by rw [i4]; exact bF (cB (show l.length+1-k<=2000 by omega) hf) (by decide))
  (growslice_fits (by omega) (by rw [i4]; exact bF (cB (show k+(l.length+1-k)<=2000 by omega) hf) (by decide)))
 rw [show k+(l.length+1-k)=l.length+1 by omega] at happ;have hG1:=grownCap_ge W (l.length+1) cap E.t;have hG2:=grownCap_le_maxLen W (l.length+1) cap E.t (by unfold maxLen; omega);generalize grownCap W (l.length+1) cap E.t=G at happ hG1 hG2;obtain⟨R1,XI⟩:∃ R1:Array aD,R1=(flat E (l.take k)).toArray++bG E.z.cells (l.length+1-k)++bG E.z.cells (G-(l.length+1)):=⟨_,rfl⟩;rw [<- XI] at happ;have hs0:R1.size=G * E.n:=by
  rw [XI];simp only [Array.size_append,ay,size_zeroCells,K.zs,dz K,V,L (Nat.le_of_lt hk),<- aJ];rw [show k+(l.length+1-k)+(G-(l.length+1))=G by omega]
 have hh:R1.toList.take (k * E.n)=flat E (l.take k):=by
  rw [XI];simp only [Array.toList_append,X];have e:(flat E (l.take k)).length=k * E.n:=by rw [dz K,V,L (by omega)]
  rw [<- e];simp
 have q1:(flat E [c]).length=1 * E.n:=by rw [dz K]; rfl
 have q0:(R1.toList.take (k * E.n)).length=k * E.n:=by
  rw [hh,dz K,V,L (by omega)]
 have hs2:(R1.toList.take (k * E.n)++flat E [c]++R1.toList.drop ((k+[c].length) * E.n)).length=G * E.n:=by
  have h1:(k+1) * E.n<=G * E.n:=D _ (by omega);have h2:(k+1) * E.n=k * E.n+1 * E.n:=aJ ..;simp only [Z,q0,q1,aA,aM,hs0,List.length_singleton];omega
 refine⟨G,R1,(R1.toList.take (k * E.n)++flat E [c]++R1.toList.drop ((k+[c].length) * E.n)).toArray,
  ((R1.toList.take (k * E.n)++flat E [c]++R1.toList.drop ((k+[c].length) * E.n)).take ((k+1) * E.n)++flat E (l.drop k)++(R1.toList.take (k * E.n)++flat E [c]++R1.toList.drop ((k+[c].length) * E.n)).drop ((k+1+(l.drop k).length) * E.n)).toArray,hG1,hG2,?_,?_,?_,?_⟩
 ·intro ty;have h:=happ ty;rw [show ((l.length+1-k:Nat):Int)=(l.length:Int)+1-k by omega] at h;exact h
 ·intro w ty nd dc hb' hx hc hn;have h:=qw K (o:=k) (m:=[c]) (nd:=nd) (cd:=dc) (ns:=1) (sc:=1) hb' (mY hx hc) (by simp; omega) (by rw [hs0]; exact D _ (by simp; omega)) ty;simpa using h
 ·intro w ty nd dc ns sc hb' hx hm;have h:=qw K (o:=k+1) (m:=l.drop k) (nd:=nd) (cd:=dc) (ns:=ns) (sc:=sc) hb' (qp K hx ht k) (by rw [hkl]; exact hm) (by rw [hkl,ay,hs2]; exact D _ (by omega)) ty;rw [hkl] at h ⊢;exact h
 ·intro w B hB hb';have p2:(R1.toList.take (k * E.n)++flat E [c]++R1.toList.drop ((k+[c].length) * E.n)).take ((k+1) * E.n)=flat E (l.take k)++flat E [c]:=by
   have e:(R1.toList.take (k * E.n)++flat E [c]).length=(k+1) * E.n:=by rw [Z,q0,q1,<- aJ]
   rw [<- e,bZ,hh]
  have e:flat E (l.take k)++flat E [c]++flat E (l.drop k)=flat E (l.take k++c::l.drop k):=by
   rw [eY,show c::l.drop k=[c]++l.drop k from rfl,eY,X]
  have ln:(l.take k++c::l.drop k).length=l.length+1:=by simp; omega
  have q:(flat E (l.take k)++flat E [c]++flat E (l.drop k)).length=(l.length+1) * E.n:=by rw [e,dz K,ln]
  refine jR K ln.symm hB hb' hG1 hG2 ?_ ?_
  ·rw [ay,p2,Z,q,aA,hs2,hkl];have h1:(l.length+1) * E.n<=G * E.n:=D _ hG1;rw [show k+1+(l.length-k)=l.length+1 by omega];omega
  ·rw [p2];exact (bU q).trans e
end
theorem fZ {P:Program} {ops:Array Oper} {rest:List Oper} {o:Oper} {a:Act} {Q:Exit->Act->au->Prop} {w w':au} (hgd:o.guard=aB) (s x:Operand) (t t':aC)
  (ho:o.op=.call { callee:=.builtin .append,args:=#[s,x],argTypes:=#[t,t'] }) {v xv v':aD} (hs:a.eval s=v) (hx:a.eval x=xv) (hr:(bV #[t,t'] o.type #[v,xv]).run P w=.ok v' w')
  (h:wpList P ops Q rest (a.put o.dst v') w'):wpList P ops Q (o::rest) a w:=by
 refine wpList_plain hgd fun K hK=>?_;unfold Oper.wp execOp;simp only [ho,resolve,invoke,builtin,Sem.run_bind,Sem.run_pure,Result.andThen_ok,bO,aI,dh,hs,hx,hr];exact hK _ _ h
theorem fO {P:Program} {ops:Array Oper} {o:Oper} {a:Act} {w w':au} {K:Act->au->Prop} {Q:Exit->Act->au->Prop} {E:Prop}
  (hg:o.guard=aB) (s x:Operand) (t:aC) (hop:o.op=.call { callee:=.builtin .copy,args:=#[s,x],argTypes:=#[t,t] }) {v xv v':aD} (hs:a.eval s=v) (hx:a.eval x=xv)
  (hr:(ak #[t,t] o.type #[v,xv]).run P w=.ok v' w') (hK:K (a.put o.dst v') w') :
  if Region.wanted o (yielded ops a.tmps)=aK then Oper.wp P o a w K Q else E:=by
 have hw:Region.wanted o (yielded ops a.tmps)=aK:=by simp [Region.wanted,hg]
 rw [if_pos hw];unfold Oper.wp execOp;simp only [hop,resolve,invoke,builtin,Sem.run_bind,Sem.run_pure,Result.andThen_ok,bO,aI,dh,hs,hx,hr];exact hK
end Go.Proofs.YtghlpefopidlaaaGreat.Rw
namespace Go.Proofs.YtghlpefopidlaaaGreat.Rl
open Go.RowKit Pu Pr
def names (m:List Cn):List ByteArray:=m.map (·.1)
def has (m:List Cn) (n:ByteArray):Bool:=m.any fun x=>decide (x.1=n)
theorem tJ (m:List Cn) (n:ByteArray):has m n=aK↔n∈names m:=by
 simp only [has,names,List.any_eq_true,decide_eq_true_eq,List.mem_map]
def fresh (m r:List Cn):Nat:=r.countP fun y=>!has m y.1
def Clear (m r:List Cn):Prop:=∀ x∈m,∀ y∈r,x.1=y.1->fE x.2 y.2≠aB
def uo (m r:List Cn):Prop:=Clear m r/\m.length+fresh m r<=5
def mZ (a b:List Cn):Bool:=match iL a.length a b with
 | .ok _=>aK
 | .error _=>dn
theorem wY {c:Cn} {r:List Cn} (h:gU (c::r)):∀ y∈r,y.1≠c.1:=fun y hy e=>tH ((ah.1 h).1 y hy) e.symm
theorem uq:∀ (m:List Cn) (c:Cn) (m':List Cn),gU m->jX m c=O m'->m'.length=m.length+(if has m c.1 then 0 else 1)
 | [],c,m',_,h=>by
  obtain rfl:=Y h
  rfl
 | x::r,c,m',hr,h=>by
  obtain⟨h1,h2⟩:=ah.1 hr;simp only [jX] at h
  split at h
  ·rename_i hl
   cases hi:jX r c with
   | none=>rw [hi] at h; cases h
   | some n =>
    rw [hi] at h;obtain rfl:=Y h;have e:=uq r c n h2 hi;have hx:has (x::r) c.1=has r c.1:=by simp [has,tH hl]
    rw [hx];simp only [bP];omega
  ·rename_i hl
   split at h
   ·rename_i he
    cases hb:fE x.2 c.2 with
    | none=>rw [hb] at h; cases h
    | some k =>
     rw [hb] at h;obtain rfl:=Y h;have hx:has (x::r) c.1=aK:=by simp [has,he]
     rw [hx]
     rfl
   ·rename_i he
    obtain rfl:=Y h;have hx:has (x::r) c.1=dn:=by
     simp only [has,List.any_cons,Bool.or_eq_false_iff,decide_eq_false_iff_not,List.any_eq_false,decide_eq_true_eq];refine⟨he,fun y hy e=>?_⟩;have h3:=h1 y hy;rw [e] at h3;exact hl h3
    rw [hx]
    rfl
theorem ER:∀ (m:List Cn) (c:Cn) (m':List Cn),gU m->jX m c=O m'->(∀ x,x.1≠c.1->(x∈m'↔x∈m))/\(∀ n,n∈names m'↔n=c.1\/n∈names m)
 | [],c,m',_,h=>by
  obtain rfl:=Y h;exact⟨fun x hx=>by simp; intro e; exact hx (by rw [e]),fun n=>by simp [names]⟩
 | x::r,c,m',hr,h=>by
  obtain⟨h1,h2⟩:=ah.1 hr;simp only [jX] at h
  split at h
  ·cases hi:jX r c with
   | none=>rw [hi] at h; cases h
   | some n =>
    rw [hi] at h;obtain rfl:=Y h;obtain⟨e1,e2⟩:=ER r c n h2 hi;refine⟨fun y hy=>by rw [J,J,e1 y hy],fun k=>?_⟩;have:=e2 k;simp only [names,aI,J] at this ⊢;rw [this];constructor
    ·rintro (h|h|h)
     ·exact aG (aT h)
     ·exact aT h
     ·exact aG (aG h)
    ·rintro (h|h|h)
     ·exact aG (aT h)
     ·exact aT h
     ·exact aG (aG h)
  ·split at h
   ·rename_i he
    cases hb:fE x.2 c.2 with
    | none=>rw [hb] at h; cases h
    | some k =>
     rw [hb] at h;obtain rfl:=Y h;refine⟨fun y hy=>?_,fun n=>?_⟩
     ·simp only [J];constructor
      ·rintro (h|h)
       ·exact absurd (by rw [h]; exact he) hy
       ·exact aG h
      ·rintro (h|h)
       ·exact absurd (by rw [h]; exact he) hy
       ·exact aG h
     ·simp only [names,aI,J,he];constructor
      ·rintro (h|h)
       ·exact aT h
       ·exact aG (aG h)
      ·rintro (h|h|h)
       ·exact aT h
       ·exact aT h
       ·exact aG h
   ·obtain rfl:=Y h;refine⟨fun y hy=>?_,fun n=>?_⟩
    ·simp only [J];constructor
     ·rintro (h|h)
      ·exact absurd (by rw [h]) hy
      ·exact h
     ·exact aG
    ·simp only [names,aI,J]
theorem uw:∀ (m:List Cn) (c:Cn),gU m->(jX m c=aB↔∃ x∈m,x.1=c.1/\fE x.2 c.2=aB)
 | [],c,_=>by simp [jX]
 | x::r,c,hr=>by
  obtain⟨h1,h2⟩:=ah.1 hr;have e:=uw r c h2;simp only [jX]
  split
  ·rename_i hl
   rw [aW,e];constructor
   ·rintro⟨y,hy,h3⟩;exact⟨y,aL _ hy,h3⟩
   ·rintro⟨y,hy,h3⟩;rcases J.1 hy with rfl|hy
    ·exact absurd h3.1 (tH hl)
    ·exact⟨y,hy,h3⟩
  ·rename_i hl
   split
   ·rename_i he
    rw [aW];constructor
    ·intro h;exact⟨x,aO ..,he,h⟩
    ·rintro⟨y,hy,h3,h4⟩;rcases J.1 hy with rfl|hy
     ·exact h4
     ·have h5:=h1 y hy;rw [he,h3,Tw.rA] at h5;cases h5
   ·rename_i he
    constructor
    ·intro h; cases h
    ·rintro⟨y,hy,h3,h4⟩;rcases J.1 hy with rfl|hy
     ·exact absurd h3 he
     ·have h5:=h1 y hy;rw [h3] at h5;exact absurd h5 hl
theorem Gr {m m' r:List Cn} {c:Cn} (hm:∀ n,n∈names m'↔n=c.1\/n∈names m) (hr:∀ y∈r,y.1≠c.1):fresh m' r=fresh m r:=by
 unfold fresh;refine List.countP_congr fun y hy=>?_;have h1:has m' y.1=has m y.1:=by
  rw [Bool.eq_iff_iff,tJ,tJ,hm];constructor
  ·rintro (h|h)
   ·exact absurd h (hr y hy)
   ·exact h
  ·exact aG
 rw [h1]
theorem Gs {m m' r:List Cn} {c:Cn} (hm:∀ x,x.1≠c.1->(x∈m'↔x∈m)) (hr:∀ y∈r,y.1≠c.1):Clear m' r↔Clear m r:=by
 constructor
 ·intro h x hx y hy e;exact h x ((hm x (by rw [e]; exact hr y hy)).2 hx) y hy e
 ·intro h x hx y hy e;exact h x ((hm x (by rw [e]; exact hr y hy)).1 hx) y hy e
theorem uy:∀ (r m:List Cn) (at_:Nat),gU m->gU r->m.length<=5->((∃ p,iL at_ m r=.ok p)↔uo m r)
 | [],m,at_,_,_,h5=>by
  simp only [iL];exact⟨fun _=>⟨fun x _ y hy=>by simp at hy,by simpa [fresh] using h5⟩,fun _=>⟨m,rfl⟩⟩
 | c::r,m,at_,hm,hr,h5=>by
  have hh:=wY hr;have hr2:=(ah.1 hr).2;simp only [iL];cases hi:jX m c with
  | none =>
   obtain⟨x,hx,e1,e2⟩:=(uw m c hm).1 hi;constructor
   ·rintro⟨p,hp⟩; cases hp
   ·intro h;exact absurd e2 (h.1 x hx c (aO ..) e1)
  | some m' =>
   have e1:=uq m c m' hm hi;obtain⟨e2,e3⟩:=ER m c m' hm hi;have e4:=(kL m c m' hm hi).1;have e5:fresh m (c::r)=fresh m r+(if has m c.1 then 0 else 1):=by
    unfold fresh;rw [List.countP_cons];cases has m c.1 <;> rfl
   have e6:Clear m (c::r)↔Clear m r:=by
    constructor
    ·exact fun h x hx y hy=>h x hx y (aL _ hy)
    ·intro h x hx y hy e;rcases J.1 hy with rfl|hy
     ·intro hn;have:=(uw m y hm).2 ⟨x,hx,e,hn⟩;rw [hi] at this;cases this
     ·exact h x hx y hy e
   simp only;by_cases h6:5<m'.length
   ·rw [if_pos h6];constructor
    ·rintro⟨p,hp⟩; cases hp
    ·intro h;have h7:=h.2;rw [e5] at h7;omega
   ·rw [if_neg h6,uy r m' (at_+1) e4 hr2 (by omega)];unfold uo;rw [Gs e2 hh,Gr e3 hh,e6,e5,e1];constructor
    ·rintro⟨h7,h8⟩; exact⟨h7,by omega⟩
    ·rintro⟨h7,h8⟩; exact⟨h7,by omega⟩
theorem p8 {a b:List Cn} (ha:gU a) (hb:gU b) (h5:a.length<=5):mZ a b=aK↔uo a b:=by
 rw [<- uy b a a.length ha hb h5];unfold mZ;cases h:iL a.length a b with
 | ok p=>exact⟨fun _=>⟨p,rfl⟩,fun _=>rfl⟩
 | error e =>
  refine⟨fun h=>?_,?_⟩
  ·cases h
  ·rintro⟨p,hp⟩;cases hp
theorem JD (a b:Kd) (ha:fD a=aK) (hb:fD b=aK):fE a b=aB->fE b a=aB:=by
 intro h;cases h2:fE b a with
 | none=>rfl
 | some c =>
  obtain⟨c1,c2⟩:=wV b a c hb ha h2;obtain⟨v,hv⟩:=ug c c1;rw [c2,Bool.and_comm,wW a b h v] at hv;cases hv
theorem Gt {m r:List Cn} (gm:∀ c∈m,fD c.2=aK) (gr:∀ c∈r,fD c.2=aK) (h:Clear m r):Clear r m :=
 fun x hx y hy e hn=>h y hy x hx e.symm (JD _ _ (gr x hx) (gm y hy) hn)
theorem wZ {α:Type} [DecidableEq α]:∀ (l m:List α),l.Nodup->(∀ x∈l,x∈m)->l.length<=m.length
 | [],m,_,_=>Nat.zero_le _
 | x::r,m,hn,hs=>by
  obtain⟨h1,h2⟩:=List.nodup_cons.1 hn;have hx:=hs x (aO ..);have h3:=wZ r (m.erase x) h2 fun y hy=>(List.mem_erase_of_ne (by rintro rfl; exact h1 hy)).2 (hs y (aL _ hy));rw [List.length_erase_of_mem hx] at h3;have:=List.length_pos_of_mem hx;simp only [bP];omega
def union (m r:List Cn):List ByteArray:=names m++(names r).filter fun n=>!has m n
theorem Gu (m r:List Cn):(union m r).length=m.length+fresh m r:=by
 unfold union fresh names;rw [Z,bX,List.countP_eq_length_filter,List.filter_map,bX]
 rfl
theorem xg (m r:List Cn) (n:ByteArray):n∈union m r↔n∈names m\/n∈names r:=by
 unfold union;rw [List.mem_append,bY];by_cases h:n∈names m
 ·exact⟨fun _=>aT h,fun _=>aT h⟩
 ·have h2:has m n=dn:=by
   cases h3:has m n
   ·rfl
   ·exact absurd ((tJ m n).1 h3) h
  rw [h2];simp
theorem zY {m r:List Cn} (hm:gU m) (hr:gU r):(union m r).Nodup:=by
 unfold union;rw [List.nodup_append];refine⟨nT hm,(nT hr).filter _,fun a ha b hb e=>?_⟩;have h2:=(bY.1 hb).2;rw [<- e,(tJ m a).2 ha] at h2;cases h2
theorem uo.symm {m r:List Cn} (hm:gU m) (hr:gU r) (gm:∀ c∈m,fD c.2=aK) (gr:∀ c∈r,fD c.2=aK) (h:uo m r):uo r m:=by
 refine⟨Gt gm gr h.1,?_⟩;have h2:=h.2;rw [<- Gu] at h2 ⊢;exact bF (wZ _ _ (zY hr hm) fun n hn=>(xg m r n).2 ((xg r m n).1 hn).symm) h2
/-! ### match -/
theorem Ud {l:List Cn} (h:gU l) {x y:Cn} (hx:x∈l) (hy:y∈l) (e:x.1=y.1):x=y:=by
 induction l with
 | nil=>cases hx
 | cons z r ih =>
  have h1:=wY h;have h2:=(ah.1 h).2;rcases J.1 hx with rfl|hx2 <;> rcases J.1 hy with rfl|hy2
  ·rfl
  ·exact absurd e.symm (h1 y hy2)
  ·exact absurd e (h1 x hx2)
  ·exact ih h2 hx2 hy2
/-! ### cover -/
def iU:Kd->Kd->Bool
 | .rg p q,.rg r s=>decide (r<=p) && decide (q<=s)
 | .tx s,.tx t=>s.data.toList == t.data.toList
 | .tx s,.pr t=>pfx t s
 | .pr s,.pr t=>pfx t s
 | _,_=>dn
theorem pG (a b:Kd) (h:iU a b=aK) (v:V3) (hv:dQ a v=aK):dQ b v=aK:=by
 obtain⟨t,n,u⟩:=v;cases a <;> cases b <;> simp only [iU,aH,decide_eq_true_eq,beq_iff_eq] at h <;> simp only [dQ,aH,decide_eq_true_eq,beq_iff_eq] at hv ⊢
 ·exact⟨hv.1,by omega,by omega⟩
 ·cases h
 ·cases h
 ·cases h
 ·exact⟨hv.1,hv.2.trans h⟩
 ·exact⟨hv.1,by rw [eX,hv.2,<- eX]; exact h⟩
 ·cases h
 ·cases h
 ·exact⟨hv.1,(eX _ _).2 (((eX _ _).1 h).trans ((eX _ _).1 hv.2))⟩
theorem wH (a b:Kd) (ha:fD a=aK) (h:∀ v,dQ a v=aK->dQ b v=aK):iU a b=aK:=by
 cases a with
 | rg p q =>
  simp only [fD,decide_eq_true_eq] at ha;have h1:=h (dn,p,⟨#[]⟩) (by rw [uh]; simp [ha]);have h2:=h (dn,q,⟨#[]⟩) (by rw [uh]; simp [ha]);cases b with
  | rg r s =>
   rw [uh] at h1 h2;simp only [aH,decide_eq_true_eq] at h1 h2;simp [iU,h1.1,h2.2]
  | tx t=>simp [dQ] at h1
  | pr t=>simp [dQ] at h1
 | tx s =>
  have h1:=h (aK,0,s) (by rw [kC]; simp);cases b with
  | rg r t=>rw [oL] at h1; cases h1
  | tx t=>rw [kC] at h1; exact h1
  | pr t=>rw [jP] at h1; exact h1
 | pr s =>
  have h1:=h (aK,0,s) (by rw [jP]; exact mg s);cases b with
  | rg r t=>rw [oL] at h1; cases h1
  | tx t =>
   have h2:=h (aK,0,more s) (by rw [jP]; exact zV s);rw [kC,beq_iff_eq] at h1 h2;rw [<- h1] at h2;have h3:=congrArg List.length h2;simp [more] at h3
  | pr t=>rw [jP] at h1; exact h1
def qx (a b:List Cn):Bool:=a.all fun x=>b.any fun y=>decide (y.1=x.1) && iU y.2 x.2
theorem Gv (a:List Cn) (h5:a.length<=5):uo [] a:=by
 refine⟨fun x hx=>by simp at hx,?_⟩;have:fresh [] a<=a.length:=List.countP_le_length;simp only [List.length_nil];omega
end Go.Proofs.YtghlpefopidlaaaGreat.Rl
namespace Go.Proofs
open Go.Shelf
def Tryz.sortI_ren:Go.Shelf.Ren:=⟨fun | 189=>40 | 125=>109 | 257=>108 | 128=>153 | 129=>154 | 294=>144 | 295=>145 | 296=>146 | 297=>147 | 298=>148 | 299=>149 | 216=>150 | 300=>151 | 301=>152 | 328=>175 | 329=>176 | 330=>177 | 331=>178 | 332=>179 | 215=>128 | 343=>194 | n=>n,fun | 28=>24 | 3=>3 | 46=>155 | 0=>0 | 51=>199 | 53=>201 | 4=>4 | 183=>192 | 182=>191 | 131=>84 | 5=>5 | 9=>9 | 218=>215 | 222=>219 | 228=>234 | 229=>235 | n=>n,fun | n=>n⟩
theorem Tryz.sortI:Go.Proofs.Lays.n189 U Tryz.sortI_ren:={
 mixed:=by kernel_rfl
 f125:=Tryz.func109.trans (congrArg O (by kernel_rfl))
 f128:=Tryz.func153.trans (congrArg O (by kernel_rfl))
 f129:=Tryz.func154.trans (congrArg O (by kernel_rfl))
 f189:=Tryz.func40.trans (congrArg O (by kernel_rfl))
 f215:=Tryz.func128.trans (congrArg O (by kernel_rfl))
 f216:=Tryz.func150.trans (congrArg O (by kernel_rfl))
 f257:=Tryz.func108.trans (congrArg O (by kernel_rfl))
 f294:=Tryz.func144.trans (congrArg O (by kernel_rfl))
 f295:=Tryz.func145.trans (congrArg O (by kernel_rfl))
 f296:=Tryz.func146.trans (congrArg O (by kernel_rfl))
 f297:=Tryz.func147.trans (congrArg O (by kernel_rfl))
 f298:=Tryz.func148.trans (congrArg O (by kernel_rfl))
 f299:=Tryz.func149.trans (congrArg O (by kernel_rfl))
 f300:=Tryz.func151.trans (congrArg O (by kernel_rfl))
 f301:=Tryz.func152.trans (congrArg O (by kernel_rfl))
 f328:=Tryz.func175.trans (congrArg O (by kernel_rfl))
 f329:=Tryz.func176.trans (congrArg O (by kernel_rfl))
 f330:=Tryz.func177.trans (congrArg O (by kernel_rfl))
 f331:=Tryz.func178.trans (congrArg O (by kernel_rfl))
 f332:=Tryz.func179.trans (congrArg O (by kernel_rfl))
 f343:=Tryz.func194.trans (congrArg O (by kernel_rfl))
 t0:=aP
 a0:=bR
 z0:=bH
 v0:=aX
 t3:=aQ
 a3:=bS
 z3:=bI
 v3:=aY
 t4:=aR
 a4:=bT
 z4:=bJ
 v4:=aZ
 t5:=Tryz.underlying5
 a5:=Tryz.isAgg5
 z5:=Tryz.sizeOf5
 v5:=Tryz.zeroValue5
 t9:=Tryz.underlying9
 a9:=Tryz.isAgg9
 z9:=Tryz.sizeOf9
 v9:=Tryz.zeroValue9
 t28:=aF
 a28:=bK
 z28:=bg
 v28:=aS
 t46:=bC
 a46:=cO
 z46:=cK
 v46:=bL
 t51:=Tryz.underlying199
 a51:=Tryz.isAgg199
 z51:=Tryz.sizeOf199
 v51:=Tryz.zeroValue199
 t53:=Tryz.underlying201
 a53:=Tryz.isAgg201
 z53:=Tryz.sizeOf201
 v53:=Tryz.zeroValue201
 t131:=Tryz.underlying84
 a131:=Tryz.isAgg84
 z131:=Tryz.sizeOf84
 v131:=Tryz.zeroValue84
 t182:=Tryz.underlying191
 a182:=Tryz.isAgg191
 z182:=Tryz.sizeOf191
 v182:=Tryz.zeroValue191
 t183:=Tryz.underlying192
 a183:=Tryz.isAgg192
 z183:=Tryz.sizeOf192
 v183:=Tryz.zeroValue192
 t218:=Tryz.underlying215
 a218:=Tryz.isAgg215
 z218:=Tryz.sizeOf215
 v218:=Tryz.zeroValue215
 t222:=Tryz.underlying219
 a222:=Tryz.isAgg219
 z222:=Tryz.sizeOf219
 v222:=Tryz.zeroValue219
 t228:=Tryz.underlying234
 a228:=Tryz.isAgg234
 z228:=Tryz.sizeOf234
 v228:=Tryz.zeroValue234
 t229:=Tryz.underlying235
 a229:=Tryz.isAgg235
 z229:=Tryz.sizeOf235
 v229:=Tryz.zeroValue235 }
def Tryz.cptI_ren:Go.Shelf.Ren:=⟨fun | 20=>41 | n=>n,fun | 0=>0 | 3=>3 | 4=>4 | 22=>24 | n=>n,fun | n=>n⟩
theorem Tryz.cptI:Go.Proofs.Lays2.n20 U Tryz.cptI_ren:={
 mixed:=by kernel_rfl
 i3:=by kernel_rfl
 f20:=Tryz.func41.trans (congrArg O (by kernel_rfl))
 t0:=aP
 a0:=bR
 z0:=bH
 v0:=aX
 t3:=aQ
 a3:=bS
 z3:=bI
 v3:=aY
 t4:=aR
 a4:=bT
 z4:=bJ
 v4:=aZ
 t22:=aF
 a22:=bK
 z22:=bg
 v22:=aS }
def Tryz.bsI_ren:Go.Shelf.Ren:=⟨fun | 25=>165 | 31=>150 | 32=>186 | 37=>128 | n=>n,fun | 0=>0 | 3=>3 | 4=>4 | 22=>24 | 40=>155 | n=>n,fun | n=>n⟩
theorem Tryz.bsI:Go.Proofs.Lays2.n25 U Tryz.bsI_ren:={
 mixed:=by kernel_rfl
 f25:=Tryz.func165.trans (congrArg O (by kernel_rfl))
 f31:=Tryz.func150.trans (congrArg O (by kernel_rfl))
 f32:=Tryz.func186.trans (congrArg O (by kernel_rfl))
 f37:=Tryz.func128.trans (congrArg O (by kernel_rfl))
 t0:=aP
 a0:=bR
 z0:=bH
 v0:=aX
 t3:=aQ
 a3:=bS
 z3:=bI
 v3:=aY
 t4:=aR
 a4:=bT
 z4:=bJ
 v4:=aZ
 t22:=aF
 a22:=bK
 z22:=bg
 v22:=aS
 t40:=bC
 a40:=cO
 z40:=cK
 v40:=bL }
end Go.Proofs
namespace Go.Proofs.YtghlpefopidlaaaGreat.Ar
open Go.ChangeShapes Go.WideShapes Go.RowKit
def readable (P:Program) (ts:List aC):Bool:=ts.all fun t=>P.readableRec t && decide (t<P.types.size)
theorem carry {H:Type} {enc:aC×aD->H} {P:Program} (hl:laidOutB P=aK) {W W':au} (hb:Below W.heap.size W W') :
  ∀ (ts:List aC) (vs:List aD) (ds:List (DataW H)) (ps:List MemPlace),readable P ts=aK->DataW.TrodAll enc P W 0 (fun _=>aK) aK ts vs ds ps->(∀ x∈ps,x.block<W.heap.size) ->
   DataW.TrodAll enc P W' 0 (fun b=>decide (b<W.heap.size)) aK ts vs ds ps
 | [],vs,ds,ps,_,h,_=>by
  obtain⟨rfl,rfl,rfl⟩:=trodAll_nil h;exact trodAll_mk0
 | t::ts,vs,ds,ps,hr,h,hlt=>by
  obtain⟨v,vs',d,ds',p,q,rfl,rfl,rfl,h1,h2⟩:=trodAll_cons h;simp only [readable,List.all_cons,aH,decide_eq_true_eq] at hr;exact trodAll_cons_mk (Below.trod hl hr.1.1 hr.1.2 h1 hb (fun x hx=>hlt x (List.mem_append_left _ hx)))
   (carry hl hb ts vs' ds' q hr.2 h2 (fun x hx=>hlt x (List.mem_append_right _ hx)))
end Go.Proofs.YtghlpefopidlaaaGreat.Ar
