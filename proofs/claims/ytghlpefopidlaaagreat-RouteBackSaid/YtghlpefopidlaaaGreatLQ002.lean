/-
  Numbers in memory, a. Conditions as told.
-/
import Derived.Test.YtghlpefopidlaaaGreatLQ000
import Derived.Lib.AppendZerosOnto
import Derived.Lib.Overlaps
import Derived.Deep.RegionLaw
import Derived.Laws.Externs
import Derived.Test.YtghlpefopidlaaaGreatLQ001
import Derived.Shelf.Slices.In.SortNone
import Derived.Shelf.Sort.Plain
import Derived.Shelf.Slices.CompactI
import Derived.Shelf.Slices.SearchI
import Derived.OpenShut
import Derived.Carry
import Derived.ChangeMaps5
import Derived.ChangeArms
set_option maxRecDepth 100000
set_option maxHeartbeats 64000000
open _root_.Array renaming length_toList->aM
open _root_.Bool renaming and_eq_true->aH,true->aK,false->dD
open _root_.Go renaming World->ak,Value->aB,TypeId->aC
open Go.Builtin renaming copy_->au,firstCells->bG,zeroCells->bL,append_->cu
open Go.Proofs.Tryz renaming prog->U,underlying24->aF,underlying0->aP,underlying3->aQ,underlying4->aR,zeroValue24->aS,zeroValue0->aX,zeroValue3->aY,zeroValue4->aZ,sizeOf24->bF,underlying155->bH,sizeOf0->bM,sizeOf3->bN,sizeOf4->bO,isAgg24->bR,zeroValue155->bS,isAgg0->bW,isAgg3->bX,isAgg4->bY,sizeOf155->dn,isAgg155->dw
open Go.Value renaming slice->aj,int->bg
open _root_.List renaming mem_cons->J,length_take->V,append_assoc->X,length_append->Z,pairwise_cons->ah,size_toArray->ay,length_drop->aA,map_cons->aI,mem_cons_of_mem->aL,getElem?_take->aN,mem_cons_self->aO,take_of_length_le->aU,drop_of_length_le->aV,take_append_drop->bf,map_toArray->bU,length_cons->bV,take_left'->bZ,length_map->cB,mem_filter->cK,take_left->cO,take_take->cZ,map_nil->dB
open _root_.Nat renaming mul_le_mul_right->D,min_eq_left->L,add_mul->aJ,add_zero->bI,le_trans->bK,mul_le_mul->dh,le_total->dx
open _root_.Option renaming some->O,none->aD,map_eq_none_iff->aW
open Option.some renaming inj->Y
open _root_.Or renaming inr->aG,inl->aT
namespace Go.Proofs.YtghlpefopidlaaaGreat.Nm
open Go.RowKit Rw
def EI:Ek Int:=⟨3,24,1,8,bg .i64 0,fun n=>.int .i64 n,fun n=>[bg .i64 n]⟩
theorem ahy:(Tryz.prog.info? 3).map (fun i=>(i.zero,i.size,i.bytes))=O (O (bg .i64 0),1,8):=by kernel_rfl
theorem VH:EI.Ok where
 hu:=aF
 info:=by
  have h:=ahy;cases hi:Tryz.prog.info? 3 with
  | none=>rw [hi] at h; cases h
  | some i =>
   rw [hi] at h;simp only [Option.map_some,Option.some.injEq,Prod.mk.injEq] at h;exact⟨i,hi,h.1,h.2.1,h.2.2⟩
 zs:=rfl
 len:=fun _=>rfl
 one:=fun x u hu=>by
  simp only [EI,J,List.not_mem_nil,or_false] at hu;rw [hu]
  rfl
 pos:=by decide
 few:=by decide
 load:=fun w p x h=>by
  have h0:=h 0 _ rfl;rw [add_zero] at h0;show (Instr.loadAt 3 (.pointer (O p))).run U w=.ok (bg .i64 x) w;simp [go_sem,h0]
abbrev uR (W:ak) (v:aB) (l:List Int):Prop:=Row EI W v l
abbrev Ay (W:ak) (B:Nat) (v:aB) (l:List Int):Prop:=Own EI W B v l
theorem elI {W:ak} {v:aB} {l:List Int} {ao:Option Addr} {n c k:Nat} {x:Int} (h:uR W v l) (hv:v=aj ao n c) (hn:l.length=n) (hk:l[k]?=O x) :
  ∃ p:Addr,(∀ w,(Instr.indexAt 24 (aj ao n c) (bg .i64 k)).run U w=.ok (.pointer (O p)) w)/\p.block<W.heap.size/\∀ w,Below W.heap.size W w->w.cell? p=O (bg .i64 x):=by
 obtain⟨p,h1,h3,h2⟩:=qA VH h hv hn hk;exact⟨p,h1,h3,fun w hw=>by
  have h0:=h2 w hw 0 _ rfl
  rwa [add_zero] at h0⟩
theorem JW:∀ l:List Int,flat EI l=l.map (fun n=>.int .i64 n)
 | []=>rfl
 | x::r=>by
  show EI.cells x++flat EI r=_;rw [JW r]
  rfl
end Go.Proofs.YtghlpefopidlaaaGreat.Nm
namespace Go.Proofs.YtghlpefopidlaaaGreat.Rw
open Go.RowKit
variable {α:Type} {E:Ek α}
theorem below_setRow {B g:Nat} {W w:ak} (h:Below B W w) (hB:B<=g) (cs:Array aB):Below B W (w.setRow g cs) :=
 ⟨h.os,h.tape,h.output,by simp [World.setRow]; exact h.size,fun k hk=>by
  have hne:g≠k:=by omega
  have h2:=h.block k hk;simp [World.setRow,Array.getElem?_modify,hne,h2]⟩
theorem dK.set {w:ak} {g:Nat} {cur:Array aB} {t:aC} (h:dK w g cur t) (cs:Array aB):dK (w.setRow g cs) g cs t:=setRow_heap w g cur cs t (0,0) h
theorem dK.other {w:ak} {g b:Nat} {cur:Array aB} {t:aC} (h:dK w b cur t) (hne:b≠g) (cs:Array aB):dK (w.setRow g cs) b cur t:=(setRow_other w g b cs hne).trans h
theorem dK.drew {w:ak} {b:Nat} {cur:Array aB} {t:aC} (h:dK w b cur t):dK w.drew b cur t:=h
theorem dK.shape {w:ak} {b:Nat} {cur:Array aB} {t:aC} (h:dK w b cur t):w.shape? b=O (t,cur.size):=by
 unfold dK at h;simp [World.shape?,h]
theorem gB {W:ak} {B:Nat} {v:aB} {l:List α} (h:Own E W B v l):(v=aj aD 0 0/\l=[])\/∃ g cap cur,v=aj (O ⟨g,0,aD⟩) l.length cap/\B<=g/\dK W g cur E.t/\l.length<=cap/\cap<=maxLen/\cur.size=cap * E.n/\cur.toList.take (l.length * E.n)=flat E l:=by
 rcases h.2 with⟨h1,h2⟩|⟨g,cap,cur,h1,h2,h3,h4,h5,h6,h7⟩
 ·exact aT ⟨h1,List.eq_nil_of_length_eq_zero h2⟩
 ·exact aG ⟨g,cap,cur,h1,h2,h3,h4,h5,h6,h7⟩
theorem oI (K:E.Ok) {W:ak} {B g cap n:Nat} {cur:Array aB} {l:List α} (hn:n=l.length) (hB:B<=g) (hb:dK W g cur E.t) (h1:n<=cap) (h2:cap<=maxLen) (h3:cur.size=cap * E.n) (h4:cur.toList.take (n * E.n)=flat E l):Own E W B (aj (O ⟨g,0,aD⟩) n cap) l:=by
 subst hn;exact⟨eD K l,aG ⟨g,cap,cur,rfl,hB,hb,h1,h2,h3,h4⟩⟩
theorem qb (K:E.Ok) (l:List α) (k:Nat):(flat E l).take (k * E.n)=flat E (l.take k):=by
 rcases dx k l.length with h|h
 ·conv=>lhs; rw [<- bf k l,gK]
  have e:(flat E (l.take k)).length=k * E.n:=by rw [eD K,V,L h]
  rw [<- e,cO]
 ·rw [aU h,aU];rw [eD K];exact D _ h
theorem yX (K:E.Ok) (l:List α) (k:Nat):(flat E l).drop (k * E.n)=flat E (l.drop k):=by
 rcases dx k l.length with h|h
 ·conv=>lhs; rw [<- bf k l,gK]
  have e:(flat E (l.take k)).length=k * E.n:=by rw [eD K,V,L h]
  rw [<- e,List.drop_left]
 ·rw [aV h,aV]
  ·rfl
  rw [eD K];exact D _ h
theorem xL (K:E.Ok) {W:ak} {g:Nat} {cur:Array aB} {t:aC} {l:List α} (hb:dK W g cur t) (ht:cur.toList.take (l.length * E.n)=flat E l) (k:Nat):∀ j u,(flat E (l.drop k))[j]?=O u->W.cell? ((⟨g,k * E.n,aD⟩:Addr).add j)=O u:=by
 intro j u hj;rw [Addr.add_lit,hb.cell];rw [<- yX K,List.getElem?_drop,<- ht,aN] at hj
 split at hj
 ·simpa using hj
 ·cases hj
theorem tu {W:ak} {b:Nat} {cs:Array aB} {t:aC} {x:α} (hb:dK W b cs t) (hc:cs.toList=E.cells x):∀ j u,(flat E [x])[j]?=O u->W.cell? ((⟨b,0,aD⟩:Addr).add j)=O u:=by
 intro j u hj;rw [lY,hb.cell];rw [Te,<- hc] at hj;simpa using hj
theorem gY (K:E.Ok) (g k len cap:Nat) (h:k<=len) (hc:k<cap) (w:ak):(Instr.sliceAt E.ts (aj (O ⟨g,0,aD⟩) len cap) (O (bg .i64 k)) aD aD).run U w=.ok (aj (O ⟨g,k * E.n,aD⟩) (len-k) (cap-k)) w:=by
 rw [xK K ⟨g,0,aD⟩ k len cap h w,if_neg (by omega),lY]
theorem xM (K:E.Ok) {w:ak} {g o nd cd ns sc:Nat} {a:Addr} {cur:Array aB} {m:List α} (hb:dK w g cur E.t) (hm:∀ j u,(flat E m)[j]?=O u->w.cell? (a.add j)=O u) (hk:min ns nd=m.length) (hr:(o+m.length) * E.n<=cur.size) (ty:aC) :
  (au #[E.ts,E.ts] ty #[aj (O ⟨g,o * E.n,aD⟩) nd cd,aj (O a) ns sc]).run U w=.ok (bg .i64 m.length) (w.setRow g (cur.toList.take (o * E.n)++flat E m++cur.toList.drop ((o+m.length) * E.n)).toArray):=by
 obtain⟨i,i1,i2,i3,i4⟩:=K.info;have hl:=run_loadCells_list (P:=U) w a (flat E m) hm;have hst:=run_storeCells_at U g (o * E.n) E.t (flat E m) 0 cur w hb (by rw [eD K,bI,<- aJ]; exact hr) (nR K m);rw [eD K] at hl;have e:o * E.n+0+(flat E m).length=(o+m.length) * E.n:=by rw [eD K,bI,aJ]
 rw [e,bI] at hst;simp [au,run_underlying K.hu,Builtin.lenOf,bG,sizeOf,typeInfo,i1,i3,hk,hl,goInt];simpa using congrArg (fun r=>r.andThen fun _ w=>Result.ok (bg .i64 m.length) w) hst
/-! ### one element more, in the middle -/
section
variable {l:List α} {k cap:Nat} {cur cs:Array aB} {c:α}
theorem rW (K:E.Ok) (hk:k<l.length) (hcap:l.length+1<=cap) (hsz:cur.size=cap * E.n) (ht:cur.toList.take (l.length * E.n)=flat E l) (g b:Nat) (_hne:b≠g) :
  ∃ R1 R2:Array aB,
   (∀ (W:ak) (ty:aC) (nd dc ns sc:Nat),dK W g cur E.t->min ns nd=l.length-k->(au #[E.ts,E.ts] ty #[aj (O ⟨g,(k+1) * E.n,aD⟩) nd dc,aj (O ⟨g,k * E.n,aD⟩) ns sc]).run U W=.ok (bg .i64 ((l.length-k:Nat):Int)) (W.setRow g R1)) /\
   (∀ (W:ak) (ty:aC) (nd dc:Nat),dK W g R1 E.t->dK W b cs E.t->cs.toList=E.cells c->1<=nd->(au #[E.ts,E.ts] ty #[aj (O ⟨g,k * E.n,aD⟩) nd dc,aj (O ⟨b,0,aD⟩) 1 1]).run U W=.ok (bg .i64 1) (W.setRow g R2)) /\
   (∀ (W:ak) (B:Nat),B<=g->cap<=maxLen->dK W g R2 E.t->Own E W B (aj (O ⟨g,0,aD⟩) (l.length+1) cap) (l.take k++c::l.drop k)):=by
 have hkl:(l.drop k).length=l.length-k:=by simp
 have hs1:(cur.toList.take ((k+1) * E.n)++flat E (l.drop k)++cur.toList.drop ((k+1+(l.drop k).length) * E.n)).length=cap * E.n:=by
  have h1:(k+1) * E.n<=cap * E.n:=D _ (by omega);have h2:(k+1+(l.drop k).length) * E.n<=cap * E.n:=D _ (by omega);simp only [Z,V,aA,aM,eD K,hsz];rw [L h1];have h3:(k+1+(l.drop k).length) * E.n=(k+1) * E.n+(l.drop k).length * E.n:=aJ ..;simp only [aA] at h2 h3 ⊢;omega
 refine⟨(cur.toList.take ((k+1) * E.n)++flat E (l.drop k)++cur.toList.drop ((k+1+(l.drop k).length) * E.n)).toArray,
  ((cur.toList.take ((k+1) * E.n)++flat E (l.drop k)++cur.toList.drop ((k+1+(l.drop k).length) * E.n)).take (k * E.n)++flat E [c]++(cur.toList.take ((k+1) * E.n)++flat E (l.drop k)++cur.toList.drop ((k+1+(l.drop k).length) * E.n)).drop ((k+1) * E.n)).toArray,?_,?_,?_⟩
 ·intro W ty nd dc ns sc hb hm;have h:=xM K (o:=k+1) (m:=l.drop k) (nd:=nd) (cd:=dc) (ns:=ns) (sc:=sc) hb (xL K hb ht k) (by rw [hkl]; exact hm) (by rw [hkl,hsz]; exact D _ (by omega)) ty;rw [hkl] at h ⊢;exact h
 ·intro W ty nd dc hb hx hc hn;have h:=xM K (o:=k) (m:=[c]) (nd:=nd) (cd:=dc) (ns:=1) (sc:=1) hb (tu hx hc) (by simp; omega) (by rw [ay,hs1]; exact D _ (by simp; omega)) ty;simpa using h
 ·intro W B hB hm hb;have p1:(cur.toList.take ((k+1) * E.n)).length=(k+1) * E.n:=by
   rw [V,aM,hsz];exact L (D _ (by omega))
  have p2:(cur.toList.take ((k+1) * E.n)++flat E (l.drop k)++cur.toList.drop ((k+1+(l.drop k).length) * E.n)).take (k * E.n)=flat E (l.take k):=by
   rw [X,List.take_append_of_le_length (by rw [p1]; exact D _ (by omega)),cZ,L (D _ (by omega)),<- qb K,<- ht,cZ,L (D _ (by omega))]
  have p3:(cur.toList.take ((k+1) * E.n)++flat E (l.drop k)++cur.toList.drop ((k+1+(l.drop k).length) * E.n)).drop ((k+1) * E.n)=flat E (l.drop k)++cur.toList.drop ((k+1+(l.drop k).length) * E.n):=by
   rw [X,List.drop_left' p1]
  have e:flat E (l.take k)++flat E [c]++flat E (l.drop k)=flat E (l.take k++c::l.drop k):=by
   rw [gK,show c::l.drop k=[c]++l.drop k from rfl,gK,X]
  have ln:(l.take k++c::l.drop k).length=l.length+1:=by simp; omega
  have q:(flat E (l.take k)++flat E [c]++flat E (l.drop k)).length=(l.length+1) * E.n:=by rw [e,eD K,ln]
  refine oI K ln.symm hB hb hcap hm ?_ ?_
  ·rw [ay,p2,p3,<- X,Z,q,aA,show cur.toList.length=cap * E.n from Array.length_toList.trans hsz,hkl];have h1:(l.length+1) * E.n<=cap * E.n:=D _ hcap;rw [show k+1+(l.length-k)=l.length+1 by omega];omega
  ·rw [p2,p3,<- X];exact (bZ q).trans e
theorem uS (K:E.Ok) (tn:aC) (htn:Tryz.prog.underlying tn=O (.int .i64)) (hk:k<l.length) (hl:l.length<=1000) (hcap:cap<l.length+1) (hlc:l.length<=cap) (ht:cur.toList.take (l.length * E.n)=flat E l) (W:ak) (g b:Nat) (hb:dK W g cur E.t) (_hbW:b<W.heap.size) :
  ∃ (G:Nat) (R1 R2 R3:Array aB),l.length+1<=G/\G<=maxLen /\
   (∀ ty,(cu #[E.ts,tn] ty #[aj (O ⟨g,0,aD⟩) k cap,bg .i64 ((l.length:Int)+1-k)]).run U W=.ok (aj (O ⟨W.heap.size,0,aD⟩) (l.length+1) G) (W.drew.alloc (.cells R1 E.t))) /\
   (∀ (w:ak) (ty:aC) (nd dc:Nat),dK w W.heap.size R1 E.t->dK w b cs E.t->cs.toList=E.cells c->1<=nd->(au #[E.ts,E.ts] ty #[aj (O ⟨W.heap.size,k * E.n,aD⟩) nd dc,aj (O ⟨b,0,aD⟩) 1 1]).run U w=.ok (bg .i64 1) (w.setRow W.heap.size R2)) /\
   (∀ (w:ak) (ty:aC) (nd dc ns sc:Nat),dK w W.heap.size R2 E.t->dK w g cur E.t->min ns nd=l.length-k->(au #[E.ts,E.ts] ty #[aj (O ⟨W.heap.size,(k+1) * E.n,aD⟩) nd dc,aj (O ⟨g,k * E.n,aD⟩) ns sc]).run U w=.ok (bg .i64 ((l.length-k:Nat):Int)) (w.setRow W.heap.size R3)) /\
   (∀ (w:ak) (B:Nat),B<=W.heap.size->dK w W.heap.size R3 E.t->Own E w B (aj (O ⟨W.heap.size,0,aD⟩) (l.length+1) G) (l.take k++c::l.drop k)):=by
 obtain⟨i,i1,i2,i3,i4⟩:=K.info;have hf:=K.few;have hpos:=K.pos;have hkl:(l.drop k).length=l.length-k:=by simp
 have hold:(bG i.size k (aj (O ⟨g,0,aD⟩) k cap)).run U W.drew=.ok (flat E (l.take k)).toArray W.drew :=
  run_firstCells_some (P:=U) (w:=W.drew) i.size k ⟨g,0,aD⟩ k cap (flat E (l.take k)) (by rw [eD K,V,L (by omega),i3]) (fun j u hj=>by
   rw [lY];show W.cell? _=_;rw [hb.cell];rw [<- qb K,<- ht,aN] at hj
   split at hj
   ·rw [aN] at hj
    split at hj
    ·simpa using hj
    ·cases hj
   ·cases hj)
 have happ:=fun ty=>Lib.run_append_grow_zeros (P:=U) W E.ts tn ty E.t i _ .i64 .i64 K.hu htn i1 i2 (O ⟨g,0,aD⟩) k cap (flat E (l.take k)) hold (l.length+1-k) (by omega) (by rw [i3]; exact hpos) (by omega) (by omega)
  (by rw [i4]; exact bK (dh (show l.length+1-k<=2000 by omega) hf) (by decide))
  (growslice_fits (by omega) (by rw [i4]; exact bK (dh (show k+(l.length+1-k)<=2000 by omega) hf) (by decide)))
 rw [show k+(l.length+1-k)=l.length+1 by omega] at happ;have hG1:=grownCap_ge W (l.length+1) cap E.t;have hG2:=grownCap_le_maxLen W (l.length+1) cap E.t (by unfold maxLen; omega);generalize grownCap W (l.length+1) cap E.t=G at happ hG1 hG2;obtain⟨R1,hR1⟩:∃ R1:Array aB,R1=(flat E (l.take k)).toArray++bL E.z.cells (l.length+1-k)++bL E.z.cells (G-(l.length+1)):=⟨_,rfl⟩;rw [<- hR1] at happ;have hs0:R1.size=G * E.n:=by
  rw [hR1];simp only [Array.size_append,ay,size_zeroCells,K.zs,eD K,V,L (Nat.le_of_lt hk),<- aJ];rw [show k+(l.length+1-k)+(G-(l.length+1))=G by omega]
 have hh:R1.toList.take (k * E.n)=flat E (l.take k):=by
  rw [hR1];simp only [Array.toList_append,X];have e:(flat E (l.take k)).length=k * E.n:=by rw [eD K,V,L (by omega)]
  rw [<- e];simp
 have q1:(flat E [c]).length=1 * E.n:=by rw [eD K]; rfl
 have q0:(R1.toList.take (k * E.n)).length=k * E.n:=by
  rw [hh,eD K,V,L (by omega)]
 have hs2:(R1.toList.take (k * E.n)++flat E [c]++R1.toList.drop ((k+[c].length) * E.n)).length=G * E.n:=by
  have h1:(k+1) * E.n<=G * E.n:=D _ (by omega);have h2:(k+1) * E.n=k * E.n+1 * E.n:=aJ ..;simp only [Z,q0,q1,aA,aM,hs0,List.length_singleton];omega
 refine⟨G,R1,(R1.toList.take (k * E.n)++flat E [c]++R1.toList.drop ((k+[c].length) * E.n)).toArray,
  ((R1.toList.take (k * E.n)++flat E [c]++R1.toList.drop ((k+[c].length) * E.n)).take ((k+1) * E.n)++flat E (l.drop k)++(R1.toList.take (k * E.n)++flat E [c]++R1.toList.drop ((k+[c].length) * E.n)).drop ((k+1+(l.drop k).length) * E.n)).toArray,hG1,hG2,?_,?_,?_,?_⟩
 ·intro ty;have h:=happ ty;rw [show ((l.length+1-k:Nat):Int)=(l.length:Int)+1-k by omega] at h;exact h
 ·intro w ty nd dc hb' hx hc hn;have h:=xM K (o:=k) (m:=[c]) (nd:=nd) (cd:=dc) (ns:=1) (sc:=1) hb' (tu hx hc) (by simp; omega) (by rw [hs0]; exact D _ (by simp; omega)) ty;simpa using h
 ·intro w ty nd dc ns sc hb' hx hm;have h:=xM K (o:=k+1) (m:=l.drop k) (nd:=nd) (cd:=dc) (ns:=ns) (sc:=sc) hb' (xL K hx ht k) (by rw [hkl]; exact hm) (by rw [hkl,ay,hs2]; exact D _ (by omega)) ty;rw [hkl] at h ⊢;exact h
 ·intro w B hB hb';have p2:(R1.toList.take (k * E.n)++flat E [c]++R1.toList.drop ((k+[c].length) * E.n)).take ((k+1) * E.n)=flat E (l.take k)++flat E [c]:=by
   have e:(R1.toList.take (k * E.n)++flat E [c]).length=(k+1) * E.n:=by rw [Z,q0,q1,<- aJ]
   rw [<- e,cO,hh]
  have e:flat E (l.take k)++flat E [c]++flat E (l.drop k)=flat E (l.take k++c::l.drop k):=by
   rw [gK,show c::l.drop k=[c]++l.drop k from rfl,gK,X]
  have ln:(l.take k++c::l.drop k).length=l.length+1:=by simp; omega
  have q:(flat E (l.take k)++flat E [c]++flat E (l.drop k)).length=(l.length+1) * E.n:=by rw [e,eD K,ln]
  refine oI K ln.symm hB hb' hG1 hG2 ?_ ?_
  ·rw [ay,p2,Z,q,aA,hs2,hkl];have h1:(l.length+1) * E.n<=G * E.n:=D _ hG1;rw [show k+1+(l.length-k)=l.length+1 by omega];omega
  ·rw [p2];exact (bZ q).trans e
end
theorem jf {P:Program} {ops:Array Oper} {rest:List Oper} {o:Oper} {a:Act} {Q:Exit->Act->ak->Prop} {w w':ak} (hgd:o.guard=aD) (s x:Operand) (t t':aC)
  (ho:o.op=.call { callee:=.builtin .append,args:=#[s,x],argTypes:=#[t,t'] }) {v xv v':aB} (hs:a.eval s=v) (hx:a.eval x=xv) (hr:(cu #[t,t'] o.type #[v,xv]).run P w=.ok v' w')
  (h:wpList P ops Q rest (a.put o.dst v') w'):wpList P ops Q (o::rest) a w:=by
 refine wpList_plain hgd fun K hK=>?_;unfold Oper.wp execOp;simp only [ho,resolve,invoke,builtin,Sem.run_bind,Sem.run_pure,Result.andThen_ok,bU,aI,dB,hs,hx,hr];exact hK _ _ h
theorem iP {P:Program} {ops:Array Oper} {o:Oper} {a:Act} {w w':ak} {K:Act->ak->Prop} {Q:Exit->Act->ak->Prop} {E:Prop}
  (hg:o.guard=aD) (s x:Operand) (t:aC) (hop:o.op=.call { callee:=.builtin .copy,args:=#[s,x],argTypes:=#[t,t] }) {v xv v':aB} (hs:a.eval s=v) (hx:a.eval x=xv)
  (hr:(au #[t,t] o.type #[v,xv]).run P w=.ok v' w') (hK:K (a.put o.dst v') w') :
  if Region.wanted o (yielded ops a.tmps)=aK then Oper.wp P o a w K Q else E:=by
 have hw:Region.wanted o (yielded ops a.tmps)=aK:=by simp [Region.wanted,hg]
 rw [if_pos hw];unfold Oper.wp execOp;simp only [hop,resolve,invoke,builtin,Sem.run_bind,Sem.run_pure,Result.andThen_ok,bU,aI,dB,hs,hx,hr];exact hK
end Go.Proofs.YtghlpefopidlaaaGreat.Rw
namespace Go.Proofs.YtghlpefopidlaaaGreat.Rl
open Go.RowKit Pu Pr
abbrev An:=ByteArray×V3
def names (m:List Cn):List ByteArray:=m.map (·.1)
def has (m:List Cn) (n:ByteArray):Bool:=m.any fun x=>decide (x.1=n)
theorem Bb (m:List Cn) (n:ByteArray):has m n=aK↔n∈names m:=by
 simp only [has,names,List.any_eq_true,decide_eq_true_eq,List.mem_map]
def fresh (m r:List Cn):Nat:=r.countP fun y=>!has m y.1
def Clear (m r:List Cn):Prop:=∀ x∈m,∀ y∈r,x.1=y.1->fH x.2 y.2≠aD
def FT (m r:List Cn):Prop:=Clear m r/\m.length+fresh m r<=5
def pI (a b:List Cn):Bool:=match jT a.length a b with
 | .ok _=>aK
 | .error _=>dD
theorem FX {c:Cn} {r:List Cn} (h:iU (c::r)):∀ y∈r,y.1≠c.1:=fun y hy e=>Ba ((ah.1 h).1 y hy) e.symm
theorem wX:∀ (m:List Cn) (c:Cn) (m':List Cn),iU m->ng m c=O m'->m'.length=m.length+(if has m c.1 then 0 else 1)
 | [],c,m',_,h=>by
  obtain rfl:=Y h
  rfl
 | x::r,c,m',hr,h=>by
  obtain⟨h1,h2⟩:=ah.1 hr;simp only [ng] at h
  split at h
  ·rename_i hl
   cases hi:ng r c with
   | none=>rw [hi] at h; cases h
   | some n =>
    rw [hi] at h;obtain rfl:=Y h;have e:=wX r c n h2 hi;have hx:has (x::r) c.1=has r c.1:=by simp [has,Ba hl]
    rw [hx];simp only [bV];omega
  ·rename_i hl
   split at h
   ·rename_i he
    cases hb:fH x.2 c.2 with
    | none=>rw [hb] at h; cases h
    | some k =>
     rw [hb] at h;obtain rfl:=Y h;have hx:has (x::r) c.1=aK:=by simp [has,he]
     rw [hx]
     rfl
   ·rename_i he
    obtain rfl:=Y h;have hx:has (x::r) c.1=dD:=by
     simp only [has,List.any_cons,Bool.or_eq_false_iff,decide_eq_false_iff_not,List.any_eq_false,decide_eq_true_eq];refine⟨he,fun y hy e=>?_⟩;have h3:=h1 y hy;rw [e] at h3;exact hl h3
    rw [hx]
    rfl
theorem P5:∀ (m:List Cn) (c:Cn) (m':List Cn),iU m->ng m c=O m'->(∀ x,x.1≠c.1->(x∈m'↔x∈m))/\(∀ n,n∈names m'↔n=c.1\/n∈names m)
 | [],c,m',_,h=>by
  obtain rfl:=Y h;exact⟨fun x hx=>by simp; intro e; exact hx (by rw [e]),fun n=>by simp [names]⟩
 | x::r,c,m',hr,h=>by
  obtain⟨h1,h2⟩:=ah.1 hr;simp only [ng] at h
  split at h
  ·cases hi:ng r c with
   | none=>rw [hi] at h; cases h
   | some n =>
    rw [hi] at h;obtain rfl:=Y h;obtain⟨e1,e2⟩:=P5 r c n h2 hi;refine⟨fun y hy=>by rw [J,J,e1 y hy],fun k=>?_⟩;have:=e2 k;simp only [names,aI,J] at this ⊢;rw [this];constructor
    ·rintro (h|h|h)
     ·exact aG (aT h)
     ·exact aT h
     ·exact aG (aG h)
    ·rintro (h|h|h)
     ·exact aG (aT h)
     ·exact aT h
     ·exact aG (aG h)
  ·split at h
   ·rename_i he
    cases hb:fH x.2 c.2 with
    | none=>rw [hb] at h; cases h
    | some k =>
     rw [hb] at h;obtain rfl:=Y h;refine⟨fun y hy=>?_,fun n=>?_⟩
     ·simp only [J];constructor
      ·rintro (h|h)
       ·exact absurd (by rw [h]; exact he) hy
       ·exact aG h
      ·rintro (h|h)
       ·exact absurd (by rw [h]; exact he) hy
       ·exact aG h
     ·simp only [names,aI,J,he];constructor
      ·rintro (h|h)
       ·exact aT h
       ·exact aG (aG h)
      ·rintro (h|h|h)
       ·exact aT h
       ·exact aT h
       ·exact aG h
   ·obtain rfl:=Y h;refine⟨fun y hy=>?_,fun n=>?_⟩
    ·simp only [J];constructor
     ·rintro (h|h)
      ·exact absurd (by rw [h]) hy
      ·exact h
     ·exact aG
    ·simp only [names,aI,J]
theorem BD:∀ (m:List Cn) (c:Cn),iU m->(ng m c=aD↔∃ x∈m,x.1=c.1/\fH x.2 c.2=aD)
 | [],c,_=>by simp [ng]
 | x::r,c,hr=>by
  obtain⟨h1,h2⟩:=ah.1 hr;have e:=BD r c h2;simp only [ng]
  split
  ·rename_i hl
   rw [aW,e];constructor
   ·rintro⟨y,hy,h3⟩;exact⟨y,aL _ hy,h3⟩
   ·rintro⟨y,hy,h3⟩;rcases J.1 hy with rfl|hy
    ·exact absurd h3.1 (Ba hl)
    ·exact⟨y,hy,h3⟩
  ·rename_i hl
   split
   ·rename_i he
    rw [aW];constructor
    ·intro h;exact⟨x,aO ..,he,h⟩
    ·rintro⟨y,hy,h3,h4⟩;rcases J.1 hy with rfl|hy
     ·exact h4
     ·have h5:=h1 y hy;rw [he,h3,VaP.yV] at h5;cases h5
   ·rename_i he
    constructor
    ·intro h; cases h
    ·rintro⟨y,hy,h3,h4⟩;rcases J.1 hy with rfl|hy
     ·exact absurd h3 he
     ·have h5:=h1 y hy;rw [h3] at h5;exact absurd h5 hl
theorem Tj {m m' r:List Cn} {c:Cn} (hm:∀ n,n∈names m'↔n=c.1\/n∈names m) (hr:∀ y∈r,y.1≠c.1):fresh m' r=fresh m r:=by
 unfold fresh;refine List.countP_congr fun y hy=>?_;have h1:has m' y.1=has m y.1:=by
  rw [Bool.eq_iff_iff,Bb,Bb,hm];constructor
  ·rintro (h|h)
   ·exact absurd h (hr y hy)
   ·exact h
  ·exact aG
 rw [h1]
theorem Tk {m m' r:List Cn} {c:Cn} (hm:∀ x,x.1≠c.1->(x∈m'↔x∈m)) (hr:∀ y∈r,y.1≠c.1):Clear m' r↔Clear m r:=by
 constructor
 ·intro h x hx y hy e;exact h x ((hm x (by rw [e]; exact hr y hy)).2 hx) y hy e
 ·intro h x hx y hy e;exact h x ((hm x (by rw [e]; exact hr y hy)).1 hx) y hy e
theorem BJ:∀ (r m:List Cn) (at_:Nat),iU m->iU r->m.length<=5->((∃ p,jT at_ m r=.ok p)↔FT m r)
 | [],m,at_,_,_,h5=>by
  simp only [jT];exact⟨fun _=>⟨fun x _ y hy=>by simp at hy,by simpa [fresh] using h5⟩,fun _=>⟨m,rfl⟩⟩
 | c::r,m,at_,hm,hr,h5=>by
  have hh:=FX hr;have hr2:=(ah.1 hr).2;simp only [jT];cases hi:ng m c with
  | none =>
   obtain⟨x,hx,e1,e2⟩:=(BD m c hm).1 hi;constructor
   ·rintro⟨p,hp⟩; cases hp
   ·intro h;exact absurd e2 (h.1 x hx c (aO ..) e1)
  | some m' =>
   have e1:=wX m c m' hm hi;obtain⟨e2,e3⟩:=P5 m c m' hm hi;have e4:=(kg m c m' hm hi).1;have e5:fresh m (c::r)=fresh m r+(if has m c.1 then 0 else 1):=by
    unfold fresh;rw [List.countP_cons];cases has m c.1 <;> rfl
   have e6:Clear m (c::r)↔Clear m r:=by
    constructor
    ·exact fun h x hx y hy=>h x hx y (aL _ hy)
    ·intro h x hx y hy e;rcases J.1 hy with rfl|hy
     ·intro hn;have:=(BD m y hm).2 ⟨x,hx,e,hn⟩;rw [hi] at this;cases this
     ·exact h x hx y hy e
   simp only;by_cases h6:5<m'.length
   ·rw [if_pos h6];constructor
    ·rintro⟨p,hp⟩; cases hp
    ·intro h;have h7:=h.2;rw [e5] at h7;omega
   ·rw [if_neg h6,BJ r m' (at_+1) e4 hr2 (by omega)];unfold FT;rw [Tk e2 hh,Tj e3 hh,e6,e5,e1];constructor
    ·rintro⟨h7,h8⟩; exact⟨h7,by omega⟩
    ·rintro⟨h7,h8⟩; exact⟨h7,by omega⟩
theorem BP {a b:List Cn} (ha:iU a) (hb:iU b) (h5:a.length<=5):pI a b=aK↔FT a b:=by
 rw [<- BJ b a a.length ha hb h5];unfold pI;cases h:jT a.length a b with
 | ok p=>exact⟨fun _=>⟨p,rfl⟩,fun _=>rfl⟩
 | error e =>
  refine⟨fun h=>?_,?_⟩
  ·cases h
  ·rintro⟨p,hp⟩;cases hp
theorem Wm (a b:Kd) (ha:iE a=aK) (hb:iE b=aK):fH a b=aD->fH b a=aD:=by
 intro h;cases h2:fH b a with
 | none=>rfl
 | some c =>
  obtain⟨c1,c2⟩:=Fz b a c hb ha h2;obtain⟨v,hv⟩:=Bv c c1;rw [c2,Bool.and_comm,FJ a b h v] at hv;cases hv
theorem Tm {m r:List Cn} (gm:∀ c∈m,iE c.2=aK) (gr:∀ c∈r,iE c.2=aK) (h:Clear m r):Clear r m :=
 fun x hx y hy e hn=>h y hy x hx e.symm (Wm _ _ (gr x hx) (gm y hy) hn)
theorem FY {α:Type} [DecidableEq α]:∀ (l m:List α),l.Nodup->(∀ x∈l,x∈m)->l.length<=m.length
 | [],m,_,_=>Nat.zero_le _
 | x::r,m,hn,hs=>by
  obtain⟨h1,h2⟩:=List.nodup_cons.1 hn;have hx:=hs x (aO ..);have h3:=FY r (m.erase x) h2 fun y hy=>(List.mem_erase_of_ne (by rintro rfl; exact h1 hy)).2 (hs y (aL _ hy));rw [List.length_erase_of_mem hx] at h3;have:=List.length_pos_of_mem hx;simp only [bV];omega
def union (m r:List Cn):List ByteArray:=names m++(names r).filter fun n=>!has m n
theorem Tn (m r:List Cn):(union m r).length=m.length+fresh m r:=by
 unfold union fresh names;rw [Z,cB,List.countP_eq_length_filter,List.filter_map,cB]
 rfl
theorem FZ (m r:List Cn) (n:ByteArray):n∈union m r↔n∈names m\/n∈names r:=by
 unfold union;rw [List.mem_append,cK];by_cases h:n∈names m
 ·exact⟨fun _=>aT h,fun _=>aT h⟩
 ·have h2:has m n=dD:=by
   cases h3:has m n
   ·rfl
   ·exact absurd ((Bb m n).1 h3) h
  rw [h2];simp
theorem JX {m r:List Cn} (hm:iU m) (hr:iU r):(union m r).Nodup:=by
 unfold union;rw [List.nodup_append];refine⟨uQ hm,(uQ hr).filter _,fun a ha b hb e=>?_⟩;have h2:=(cK.1 hb).2;rw [<- e,(Bb m a).2 ha] at h2;cases h2
theorem FT.symm {m r:List Cn} (hm:iU m) (hr:iU r) (gm:∀ c∈m,iE c.2=aK) (gr:∀ c∈r,iE c.2=aK) (h:FT m r):FT r m:=by
 refine⟨Tm gm gr h.1,?_⟩;have h2:=h.2;rw [<- Tn] at h2 ⊢;exact bK (FY _ _ (JX hr hm) fun n hn=>(FZ m r n).2 ((FZ r m n).1 hn).symm) h2
/-! ### match -/
theorem ajx {l:List Cn} (h:iU l) {x y:Cn} (hx:x∈l) (hy:y∈l) (e:x.1=y.1):x=y:=by
 induction l with
 | nil=>cases hx
 | cons z r ih =>
  have h1:=FX h;have h2:=(ah.1 h).2;rcases J.1 hx with rfl|hx2 <;> rcases J.1 hy with rfl|hy2
  ·rfl
  ·exact absurd e.symm (h1 y hy2)
  ·exact absurd e (h1 x hx2)
  ·exact ih h2 hx2 hy2
/-! ### cover -/
def fE:Kd->Kd->Bool
 | .rg p q,.rg r s=>decide (r<=p) && decide (q<=s)
 | .tx s,.tx t=>s.data.toList == t.data.toList
 | .tx s,.pr t=>pfx t s
 | .pr s,.pr t=>pfx t s
 | _,_=>dD
theorem wK (a b:Kd) (h:fE a b=aK) (v:V3) (hv:eP a v=aK):eP b v=aK:=by
 obtain⟨t,n,u⟩:=v;cases a <;> cases b <;> simp only [fE,aH,decide_eq_true_eq,beq_iff_eq] at h <;> simp only [eP,aH,decide_eq_true_eq,beq_iff_eq] at hv ⊢
 ·exact⟨hv.1,by omega,by omega⟩
 ·cases h
 ·cases h
 ·cases h
 ·exact⟨hv.1,hv.2.trans h⟩
 ·exact⟨hv.1,by rw [gH,hv.2,<- gH]; exact h⟩
 ·cases h
 ·cases h
 ·exact⟨hv.1,(gH _ _).2 (((gH _ _).1 h).trans ((gH _ _).1 hv.2))⟩
theorem EH (a b:Kd) (ha:iE a=aK) (h:∀ v,eP a v=aK->eP b v=aK):fE a b=aK:=by
 cases a with
 | rg p q =>
  simp only [iE,decide_eq_true_eq] at ha;have h1:=h (dD,p,⟨#[]⟩) (by rw [Bw]; simp [ha]);have h2:=h (dD,q,⟨#[]⟩) (by rw [Bw]; simp [ha]);cases b with
  | rg r s =>
   rw [Bw] at h1 h2;simp only [aH,decide_eq_true_eq] at h1 h2;simp [fE,h1.1,h2.2]
  | tx t=>simp [eP] at h1
  | pr t=>simp [eP] at h1
 | tx s =>
  have h1:=h (aK,0,s) (by rw [oC]; simp);cases b with
  | rg r t=>rw [vS] at h1; cases h1
  | tx t=>rw [oC] at h1; exact h1
  | pr t=>rw [mK] at h1; exact h1
 | pr s =>
  have h1:=h (aK,0,s) (by rw [mK]; exact qD s);cases b with
  | rg r t=>rw [vS] at h1; cases h1
  | tx t =>
   have h2:=h (aK,0,more s) (by rw [mK]; exact JU s);rw [oC,beq_iff_eq] at h1 h2;rw [<- h1] at h2;have h3:=congrArg List.length h2;simp [more] at h3
  | pr t=>rw [mK] at h1; exact h1
def qV (a b:List Cn):Bool:=a.all fun x=>b.any fun y=>decide (y.1=x.1) && fE y.2 x.2
end Go.Proofs.YtghlpefopidlaaaGreat.Rl
namespace Go.Proofs
open Go.Shelf
def Tryz.sortI_ren:Go.Shelf.Ren:=⟨fun | 189=>40 | 125=>109 | 257=>108 | 128=>153 | 129=>154 | 294=>144 | 295=>145 | 296=>146 | 297=>147 | 298=>148 | 299=>149 | 216=>150 | 300=>151 | 301=>152 | 328=>175 | 329=>176 | 330=>177 | 331=>178 | 332=>179 | 215=>128 | 343=>194 | n=>n,fun | 28=>24 | 3=>3 | 46=>155 | 0=>0 | 51=>199 | 53=>201 | 4=>4 | 183=>192 | 182=>191 | 131=>84 | 5=>5 | 9=>9 | 218=>215 | 222=>219 | 228=>234 | 229=>235 | n=>n,fun | n=>n⟩
theorem Tryz.sortI:Go.Proofs.Lays.n189 U Tryz.sortI_ren:={
 mixed:=by kernel_rfl
 f125:=Tryz.func109.trans (congrArg O (by kernel_rfl))
 f128:=Tryz.func153.trans (congrArg O (by kernel_rfl))
 f129:=Tryz.func154.trans (congrArg O (by kernel_rfl))
 f189:=Tryz.func40.trans (congrArg O (by kernel_rfl))
 f215:=Tryz.func128.trans (congrArg O (by kernel_rfl))
 f216:=Tryz.func150.trans (congrArg O (by kernel_rfl))
 f257:=Tryz.func108.trans (congrArg O (by kernel_rfl))
 f294:=Tryz.func144.trans (congrArg O (by kernel_rfl))
 f295:=Tryz.func145.trans (congrArg O (by kernel_rfl))
 f296:=Tryz.func146.trans (congrArg O (by kernel_rfl))
 f297:=Tryz.func147.trans (congrArg O (by kernel_rfl))
 f298:=Tryz.func148.trans (congrArg O (by kernel_rfl))
 f299:=Tryz.func149.trans (congrArg O (by kernel_rfl))
 f300:=Tryz.func151.trans (congrArg O (by kernel_rfl))
 f301:=Tryz.func152.trans (congrArg O (by kernel_rfl))
 f328:=Tryz.func175.trans (congrArg O (by kernel_rfl))
 f329:=Tryz.func176.trans (congrArg O (by kernel_rfl))
 f330:=Tryz.func177.trans (congrArg O (by kernel_rfl))
 f331:=Tryz.func178.trans (congrArg O (by kernel_rfl))
 f332:=Tryz.func179.trans (congrArg O (by kernel_rfl))
 f343:=Tryz.func194.trans (congrArg O (by kernel_rfl))
 t0:=aP
 a0:=bW
 z0:=bM
 v0:=aX
 t3:=aQ
 a3:=bX
 z3:=bN
 v3:=aY
 t4:=aR
 a4:=bY
 z4:=bO
 v4:=aZ
 t5:=Tryz.underlying5
 a5:=Tryz.isAgg5
 z5:=Tryz.sizeOf5
 v5:=Tryz.zeroValue5
 t9:=Tryz.underlying9
 a9:=Tryz.isAgg9
 z9:=Tryz.sizeOf9
 v9:=Tryz.zeroValue9
 t28:=aF
 a28:=bR
 z28:=bF
 v28:=aS
 t46:=bH
 a46:=dw
 z46:=dn
 v46:=bS
 t51:=Tryz.underlying199
 a51:=Tryz.isAgg199
 z51:=Tryz.sizeOf199
 v51:=Tryz.zeroValue199
 t53:=Tryz.underlying201
 a53:=Tryz.isAgg201
 z53:=Tryz.sizeOf201
 v53:=Tryz.zeroValue201
 t131:=Tryz.underlying84
 a131:=Tryz.isAgg84
 z131:=Tryz.sizeOf84
 v131:=Tryz.zeroValue84
 t182:=Tryz.underlying191
 a182:=Tryz.isAgg191
 z182:=Tryz.sizeOf191
 v182:=Tryz.zeroValue191
 t183:=Tryz.underlying192
 a183:=Tryz.isAgg192
 z183:=Tryz.sizeOf192
 v183:=Tryz.zeroValue192
 t218:=Tryz.underlying215
 a218:=Tryz.isAgg215
 z218:=Tryz.sizeOf215
 v218:=Tryz.zeroValue215
 t222:=Tryz.underlying219
 a222:=Tryz.isAgg219
 z222:=Tryz.sizeOf219
 v222:=Tryz.zeroValue219
 t228:=Tryz.underlying234
 a228:=Tryz.isAgg234
 z228:=Tryz.sizeOf234
 v228:=Tryz.zeroValue234
 t229:=Tryz.underlying235
 a229:=Tryz.isAgg235
 z229:=Tryz.sizeOf235
 v229:=Tryz.zeroValue235 }
def Tryz.cptI_ren:Go.Shelf.Ren:=⟨fun | 20=>41 | n=>n,fun | 0=>0 | 3=>3 | 4=>4 | 22=>24 | n=>n,fun | n=>n⟩
theorem Tryz.cptI:Go.Proofs.Lays2.n20 U Tryz.cptI_ren:={
 mixed:=by kernel_rfl
 i3:=by kernel_rfl
 f20:=Tryz.func41.trans (congrArg O (by kernel_rfl))
 t0:=aP
 a0:=bW
 z0:=bM
 v0:=aX
 t3:=aQ
 a3:=bX
 z3:=bN
 v3:=aY
 t4:=aR
 a4:=bY
 z4:=bO
 v4:=aZ
 t22:=aF
 a22:=bR
 z22:=bF
 v22:=aS }
def Tryz.bsI_ren:Go.Shelf.Ren:=⟨fun | 25=>165 | 31=>150 | 32=>186 | 37=>128 | n=>n,fun | 0=>0 | 3=>3 | 4=>4 | 22=>24 | 40=>155 | n=>n,fun | n=>n⟩
theorem Tryz.bsI:Go.Proofs.Lays2.n25 U Tryz.bsI_ren:={
 mixed:=by kernel_rfl
 f25:=Tryz.func165.trans (congrArg O (by kernel_rfl))
 f31:=Tryz.func150.trans (congrArg O (by kernel_rfl))
 f32:=Tryz.func186.trans (congrArg O (by kernel_rfl))
 f37:=Tryz.func128.trans (congrArg O (by kernel_rfl))
 t0:=aP
 a0:=bW
 z0:=bM
 v0:=aX
 t3:=aQ
 a3:=bX
 z3:=bN
 v3:=aY
 t4:=aR
 a4:=bY
 z4:=bO
 v4:=aZ
 t22:=aF
 a22:=bR
 z22:=bF
 v22:=aS
 t40:=bH
 a40:=dw
 z40:=dn
 v40:=bS }
end Go.Proofs
namespace Go.Proofs.YtghlpefopidlaaaGreat.Ar
open Go.ChangeShapes Go.WideShapes Go.RowKit
def readable (P:Program) (ts:List aC):Bool:=ts.all fun t=>P.readableRec t && decide (t<P.types.size)
theorem carry {H:Type} {enc:aC×aB->H} {P:Program} (hl:laidOutB P=aK) {W W':ak} (hb:Below W.heap.size W W') :
  ∀ (ts:List aC) (vs:List aB) (ds:List (DataW H)) (ps:List MemPlace),readable P ts=aK->DataW.TrodAll enc P W 0 (fun _=>aK) aK ts vs ds ps->(∀ x∈ps,x.block<W.heap.size) ->
   DataW.TrodAll enc P W' 0 (fun b=>decide (b<W.heap.size)) aK ts vs ds ps
 | [],vs,ds,ps,_,h,_=>by
  obtain⟨rfl,rfl,rfl⟩:=trodAll_nil h;exact trodAll_mk0
 | t::ts,vs,ds,ps,hr,h,hlt=>by
  obtain⟨v,vs',d,ds',p,q,rfl,rfl,rfl,h1,h2⟩:=trodAll_cons h;simp only [readable,List.all_cons,aH,decide_eq_true_eq] at hr;exact trodAll_cons_mk (Below.trod hl hr.1.1 hr.1.2 h1 hb (fun x hx=>hlt x (List.mem_append_left _ hx)))
   (carry hl hb ts vs' ds' q hr.2 h2 (fun x hx=>hlt x (List.mem_append_right _ hx)))
end Go.Proofs.YtghlpefopidlaaaGreat.Ar
