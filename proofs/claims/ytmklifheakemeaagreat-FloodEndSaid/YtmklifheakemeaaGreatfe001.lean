/-
  Numbers in memory, a. Conditions as told.
-/
import Derived.Test.YtmklifheakemeaaGreatfe000
import Derived.Lib.AppendZerosOnto
import Derived.Lib.Overlaps
import Derived.Deep.RegionLaw
import Derived.Laws.Externs
import Derived.Orders
set_option maxRecDepth 100000
set_option maxHeartbeats 64000000
open _root_.Array renaming getD->aG,getElem?_eq_some_iff->aM,length_toList->aS,getElem?_eq_getElem->aY,all_eq_true'->bS,replicate->cB
open _root_.Bool renaming true->aD,false->dw
open _root_.Go renaming World->O,Value->U,Operand->X,TypeId->au,Act->bf
open Go.Builtin renaming copy_->aJ,append_->aO,firstCells->bR,zeroCells->bW
open Go.Deferred renaming ofValue->bF
open Go.Oper renaming wp->aT,upon_enter->cK,wp_mono->dn
open Go.Proofs.Tryz renaming prog->aj
open Go.Region renaming wanted->Y,binds->Z,ready->bY
open Go.Result renaming andThen->aC,andThen_ok->bg
open Go.Value renaming slice->aB,int->bM
open _root_.List renaming length_take->ay,append_assoc->aA,getElem?_take->aH,length_append->aI,size_toArray->aL,length_drop->aN,eq_nil_of_length_eq_zero->aP,getElem?_drop->aW,getElem?_append_right->aX,getElem?_append_left->aZ,map_toArray->bn,all_eq_true->bD,take_of_length_le->bG,drop_of_length_le->bH,take_append_drop->bI,mem_range->bL,map_cons->bP,map_nil->bX,getElem_mem->bZ,take_left'->cu,take_left->cO,take_take->cZ,range->dB
open _root_.Nat renaming mul_le_mul_right->J,min_eq_left->ah,lt_or_ge->aF,add_mul->aQ,le_refl->aR,mul_le_mul->bK,add_zero->bU,le_trans->bV,le_total->dh,not_lt->dx
open _root_.Option renaming some->ak,none->aK
open _root_.Or renaming inl->aU,inr->aV
namespace Go.Proofs.YtmklifheakemeaaGreat
namespace Nm
open Go.RowKit Rw
def EI:Ek Int:=⟨3,22,1,8,bM .i64 0,fun n=>.int .i64 n,fun n=>[bM .i64 n]⟩
theorem acn:(Tryz.prog.info? 3).map (fun i=>(i.zero,i.size,i.bytes))=ak (ak (bM .i64 0),1,8):=by kernel_rfl
theorem MW:EI.Ok where
 hu:=Tryz.underlying22
 info:=by
  have h:=acn;cases hi:Tryz.prog.info? 3 with
  | none=>rw [hi] at h; cases h
  | some i =>
   rw [hi] at h;simp only [Option.map_some,Option.some.injEq,Prod.mk.injEq] at h;exact⟨i,hi,h.1,h.2.1,h.2.2⟩
 zs:=rfl
 len:=fun _=>rfl
 one:=fun x u hu=>by
  simp only [EI,List.mem_cons,List.not_mem_nil,or_false] at hu;rw [hu]
  rfl
 pos:=by decide
 few:=by decide
 load:=fun w p x h=>by
  have h0:=h 0 _ rfl;rw [add_zero] at h0;show (Instr.loadAt 3 (.pointer (ak p))).run aj w=.ok (bM .i64 x) w;simp [go_sem,h0]
abbrev qJ (W:O) (v:U) (l:List Int):Prop:=Row EI W v l
abbrev zI (W:O) (B:Nat) (v:U) (l:List Int):Prop:=Own EI W B v l
theorem elI {W:O} {v:U} {l:List Int} {ao:Option Addr} {n c k:Nat} {x:Int} (h:qJ W v l) (hv:v=aB ao n c) (hn:l.length=n) (hk:l[k]?=ak x) :
  ∃ p:Addr,(∀ w,(Instr.indexAt 22 (aB ao n c) (bM .i64 k)).run aj w=.ok (.pointer (ak p)) w)/\p.block<W.heap.size/\∀ w,Below W.heap.size W w->w.cell? p=ak (bM .i64 x):=by
 obtain⟨p,h1,h3,h2⟩:=nP MW h hv hn hk;exact⟨p,h1,h3,fun w hw=>by
  have h0:=h2 w hw 0 _ rfl
  rwa [add_zero] at h0⟩
theorem He:∀ l:List Int,flat EI l=l.map (fun n=>.int .i64 n)
 | []=>rfl
 | x::r=>by
  show EI.cells x++flat EI r=_;rw [He r]
  rfl
end Nm
namespace Rw
open Go.RowKit
variable {α:Type} {E:Ek α}
theorem below_setRow {B g:Nat} {W w:O} (h:Below B W w) (hB:B<=g) (cs:Array U):Below B W (w.setRow g cs) :=
 ⟨h.os,h.tape,h.output,by simp [World.setRow]; exact h.size,fun k hk=>by
  have hne:g≠k:=by omega
  have h2:=h.block k hk;simp [World.setRow,Array.getElem?_modify,hne,h2]⟩
theorem dK.set {w:O} {g:Nat} {cur:Array U} {t:au} (h:dK w g cur t) (cs:Array U):dK (w.setRow g cs) g cs t:=setRow_heap w g cur cs t (0,0) h
theorem dK.other {w:O} {g b:Nat} {cur:Array U} {t:au} (h:dK w b cur t) (hne:b≠g) (cs:Array U):dK (w.setRow g cs) b cur t:=(setRow_other w g b cs hne).trans h
theorem dK.drew {w:O} {b:Nat} {cur:Array U} {t:au} (h:dK w b cur t):dK w.drew b cur t:=h
theorem dK.shape {w:O} {b:Nat} {cur:Array U} {t:au} (h:dK w b cur t):w.shape? b=ak (t,cur.size):=by
 unfold dK at h;simp [World.shape?,h]
theorem gM {W:O} {B:Nat} {v:U} {l:List α} (h:Own E W B v l):(v=aB aK 0 0/\l=[])\/∃ g cap cur,v=aB (ak ⟨g,0,aK⟩) l.length cap/\B<=g/\dK W g cur E.t/\l.length<=cap/\cap<=maxLen/\cur.size=cap * E.n/\cur.toList.take (l.length * E.n)=flat E l:=by
 rcases h.2 with⟨h1,h2⟩|⟨g,cap,cur,h1,h2,h3,h4,h5,h6,h7⟩
 ·exact aU ⟨h1,aP h2⟩
 ·exact aV ⟨g,cap,cur,h1,h2,h3,h4,h5,h6,h7⟩
theorem qK (K:E.Ok) {W:O} {B g cap n:Nat} {cur:Array U} {l:List α} (hn:n=l.length) (hB:B<=g) (hb:dK W g cur E.t) (h1:n<=cap) (h2:cap<=maxLen) (h3:cur.size=cap * E.n) (h4:cur.toList.take (n * E.n)=flat E l):Own E W B (aB (ak ⟨g,0,aK⟩) n cap) l:=by
 subst hn;exact⟨eB K l,aV ⟨g,cap,cur,rfl,hB,hb,h1,h2,h3,h4⟩⟩
theorem uz (K:E.Ok) (l:List α) (k:Nat):(flat E l).take (k * E.n)=flat E (l.take k):=by
 rcases dh k l.length with h|h
 ·conv=>lhs; rw [<- bI k l,gV]
  have e:(flat E (l.take k)).length=k * E.n:=by rw [eB K,ay,ah h]
  rw [<- e,cO]
 ·rw [bG h,bG];rw [eB K];exact J _ h
theorem Pk (K:E.Ok) (l:List α) (k:Nat):(flat E l).drop (k * E.n)=flat E (l.drop k):=by
 rcases dh k l.length with h|h
 ·conv=>lhs; rw [<- bI k l,gV]
  have e:(flat E (l.take k)).length=k * E.n:=by rw [eB K,ay,ah h]
  rw [<- e,List.drop_left]
 ·rw [bH h,bH]
  ·rfl
  rw [eB K];exact J _ h
theorem Hf (K:E.Ok) {W:O} {g:Nat} {cur:Array U} {t:au} {l:List α} (hb:dK W g cur t) (ht:cur.toList.take (l.length * E.n)=flat E l) (k:Nat):∀ j u,(flat E (l.drop k))[j]?=ak u->W.cell? ((⟨g,k * E.n,aK⟩:Addr).add j)=ak u:=by
 intro j u hj;rw [Addr.add_lit,hb.cell];rw [<- Pk K,aW,<- ht,aH] at hj
 split at hj
 ·simpa using hj
 ·cases hj
theorem uD {W:O} {b:Nat} {cs:Array U} {t:au} {x:α} (hb:dK W b cs t) (hc:cs.toList=E.cells x):∀ j u,(flat E [x])[j]?=ak u->W.cell? ((⟨b,0,aK⟩:Addr).add j)=ak u:=by
 intro j u hj;rw [og,hb.cell];rw [Pj,<- hc] at hj;simpa using hj
theorem gX (K:E.Ok) (g k len cap:Nat) (h:k<=len) (hc:k<cap) (w:O):(Instr.sliceAt E.ts (aB (ak ⟨g,0,aK⟩) len cap) (ak (bM .i64 k)) aK aK).run aj w=.ok (aB (ak ⟨g,k * E.n,aK⟩) (len-k) (cap-k)) w:=by
 rw [GY K ⟨g,0,aK⟩ k len cap h w,if_neg (by omega),og]
theorem wE (K:E.Ok) {w:O} {g o nd cd ns sc:Nat} {a:Addr} {cur:Array U} {m:List α} (hb:dK w g cur E.t) (hm:∀ j u,(flat E m)[j]?=ak u->w.cell? (a.add j)=ak u) (hk:min ns nd=m.length) (hr:(o+m.length) * E.n<=cur.size) (ty:au) :
  (aJ #[E.ts,E.ts] ty #[aB (ak ⟨g,o * E.n,aK⟩) nd cd,aB (ak a) ns sc]).run aj w=.ok (bM .i64 m.length) (w.setRow g (cur.toList.take (o * E.n)++flat E m++cur.toList.drop ((o+m.length) * E.n)).toArray):=by
 obtain⟨i,i1,i2,i3,i4⟩:=K.info;have hl:=run_loadCells_list (P:=aj) w a (flat E m) hm;have hst:=run_storeCells_at aj g (o * E.n) E.t (flat E m) 0 cur w hb (by rw [eB K,bU,<- aQ]; exact hr) (qH K m);rw [eB K] at hl;have e:o * E.n+0+(flat E m).length=(o+m.length) * E.n:=by rw [eB K,bU,aQ]
 rw [e,bU] at hst;simp [aJ,run_underlying K.hu,Builtin.lenOf,bR,sizeOf,typeInfo,i1,i3,hk,hl,goInt];simpa using congrArg (fun r=>r.andThen fun _ w=>Result.ok (bM .i64 m.length) w) hst
/-! ### one element more, in the middle -/
section
variable {l:List α} {k cap:Nat} {cur cs:Array U} {c:α}
theorem uE (K:E.Ok) (hk:k<l.length) (hcap:l.length+1<=cap) (hsz:cur.size=cap * E.n) (ht:cur.toList.take (l.length * E.n)=flat E l) (g b:Nat) (_hne:b≠g) :
  ∃ R1 R2:Array U,
   (∀ (W:O) (ty:au) (nd dc ns sc:Nat),dK W g cur E.t->min ns nd=l.length-k->(aJ #[E.ts,E.ts] ty #[aB (ak ⟨g,(k+1) * E.n,aK⟩) nd dc,aB (ak ⟨g,k * E.n,aK⟩) ns sc]).run aj W=.ok (bM .i64 ((l.length-k:Nat):Int)) (W.setRow g R1)) /\
   (∀ (W:O) (ty:au) (nd dc:Nat),dK W g R1 E.t->dK W b cs E.t->cs.toList=E.cells c->1<=nd->(aJ #[E.ts,E.ts] ty #[aB (ak ⟨g,k * E.n,aK⟩) nd dc,aB (ak ⟨b,0,aK⟩) 1 1]).run aj W=.ok (bM .i64 1) (W.setRow g R2)) /\
   (∀ (W:O) (B:Nat),B<=g->cap<=maxLen->dK W g R2 E.t->Own E W B (aB (ak ⟨g,0,aK⟩) (l.length+1) cap) (l.take k++c::l.drop k)):=by
 have hkl:(l.drop k).length=l.length-k:=by simp
 have hs1:(cur.toList.take ((k+1) * E.n)++flat E (l.drop k)++cur.toList.drop ((k+1+(l.drop k).length) * E.n)).length=cap * E.n:=by
  have h1:(k+1) * E.n<=cap * E.n:=J _ (by omega);have h2:(k+1+(l.drop k).length) * E.n<=cap * E.n:=J _ (by omega);simp only [aI,ay,aN,aS,eB K,hsz];rw [ah h1];have h3:(k+1+(l.drop k).length) * E.n=(k+1) * E.n+(l.drop k).length * E.n:=aQ ..;simp only [aN] at h2 h3 ⊢;omega
 refine⟨(cur.toList.take ((k+1) * E.n)++flat E (l.drop k)++cur.toList.drop ((k+1+(l.drop k).length) * E.n)).toArray,
  ((cur.toList.take ((k+1) * E.n)++flat E (l.drop k)++cur.toList.drop ((k+1+(l.drop k).length) * E.n)).take (k * E.n)++flat E [c]++(cur.toList.take ((k+1) * E.n)++flat E (l.drop k)++cur.toList.drop ((k+1+(l.drop k).length) * E.n)).drop ((k+1) * E.n)).toArray,?_,?_,?_⟩
 ·intro W ty nd dc ns sc hb hm;have h:=wE K (o:=k+1) (m:=l.drop k) (nd:=nd) (cd:=dc) (ns:=ns) (sc:=sc) hb (Hf K hb ht k) (by rw [hkl]; exact hm) (by rw [hkl,hsz]; exact J _ (by omega)) ty;rw [hkl] at h ⊢;exact h
 ·intro W ty nd dc hb hx hc hn;have h:=wE K (o:=k) (m:=[c]) (nd:=nd) (cd:=dc) (ns:=1) (sc:=1) hb (uD hx hc) (by simp; omega) (by rw [aL,hs1]; exact J _ (by simp; omega)) ty;simpa using h
 ·intro W B hB hm hb;have p1:(cur.toList.take ((k+1) * E.n)).length=(k+1) * E.n:=by
   rw [ay,aS,hsz];exact ah (J _ (by omega))
  have p2:(cur.toList.take ((k+1) * E.n)++flat E (l.drop k)++cur.toList.drop ((k+1+(l.drop k).length) * E.n)).take (k * E.n)=flat E (l.take k):=by
   rw [aA,List.take_append_of_le_length (by rw [p1]; exact J _ (by omega)),cZ,ah (J _ (by omega)),<- uz K,<- ht,cZ,ah (J _ (by omega))]
  have p3:(cur.toList.take ((k+1) * E.n)++flat E (l.drop k)++cur.toList.drop ((k+1+(l.drop k).length) * E.n)).drop ((k+1) * E.n)=flat E (l.drop k)++cur.toList.drop ((k+1+(l.drop k).length) * E.n):=by
   rw [aA,List.drop_left' p1]
  have e:flat E (l.take k)++flat E [c]++flat E (l.drop k)=flat E (l.take k++c::l.drop k):=by
   rw [gV,show c::l.drop k=[c]++l.drop k from rfl,gV,aA]
  have ln:(l.take k++c::l.drop k).length=l.length+1:=by simp; omega
  have q:(flat E (l.take k)++flat E [c]++flat E (l.drop k)).length=(l.length+1) * E.n:=by rw [e,eB K,ln]
  refine qK K ln.symm hB hb hcap hm ?_ ?_
  ·rw [aL,p2,p3,<- aA,aI,q,aN,show cur.toList.length=cap * E.n from Array.length_toList.trans hsz,hkl];have h1:(l.length+1) * E.n<=cap * E.n:=J _ hcap;rw [show k+1+(l.length-k)=l.length+1 by omega];omega
  ·rw [p2,p3,<- aA];exact (cu q).trans e
theorem wF (K:E.Ok) (tn:au) (htn:Tryz.prog.underlying tn=ak (.int .i64)) (hk:k<l.length) (hl:l.length<=1000) (hcap:cap<l.length+1) (hlc:l.length<=cap) (ht:cur.toList.take (l.length * E.n)=flat E l) (W:O) (g b:Nat) (hb:dK W g cur E.t) (_hbW:b<W.heap.size) :
  ∃ (G:Nat) (R1 R2 R3:Array U),l.length+1<=G/\G<=maxLen /\
   (∀ ty,(aO #[E.ts,tn] ty #[aB (ak ⟨g,0,aK⟩) k cap,bM .i64 ((l.length:Int)+1-k)]).run aj W=.ok (aB (ak ⟨W.heap.size,0,aK⟩) (l.length+1) G) (W.drew.alloc (.cells R1 E.t))) /\
   (∀ (w:O) (ty:au) (nd dc:Nat),dK w W.heap.size R1 E.t->dK w b cs E.t->cs.toList=E.cells c->1<=nd->(aJ #[E.ts,E.ts] ty #[aB (ak ⟨W.heap.size,k * E.n,aK⟩) nd dc,aB (ak ⟨b,0,aK⟩) 1 1]).run aj w=.ok (bM .i64 1) (w.setRow W.heap.size R2)) /\
   (∀ (w:O) (ty:au) (nd dc ns sc:Nat),dK w W.heap.size R2 E.t->dK w g cur E.t->min ns nd=l.length-k->(aJ #[E.ts,E.ts] ty #[aB (ak ⟨W.heap.size,(k+1) * E.n,aK⟩) nd dc,aB (ak ⟨g,k * E.n,aK⟩) ns sc]).run aj w=.ok (bM .i64 ((l.length-k:Nat):Int)) (w.setRow W.heap.size R3)) /\
   (∀ (w:O) (B:Nat),B<=W.heap.size->dK w W.heap.size R3 E.t->Own E w B (aB (ak ⟨W.heap.size,0,aK⟩) (l.length+1) G) (l.take k++c::l.drop k)):=by
 obtain⟨i,i1,i2,i3,i4⟩:=K.info;have hf:=K.few;have hpos:=K.pos;have hkl:(l.drop k).length=l.length-k:=by simp
 have hold:(bR i.size k (aB (ak ⟨g,0,aK⟩) k cap)).run aj W.drew=.ok (flat E (l.take k)).toArray W.drew :=
  run_firstCells_some (P:=aj) (w:=W.drew) i.size k ⟨g,0,aK⟩ k cap (flat E (l.take k)) (by rw [eB K,ay,ah (by omega),i3]) (fun j u hj=>by
   rw [og];show W.cell? _=_;rw [hb.cell];rw [<- uz K,<- ht,aH] at hj
   split at hj
   ·rw [aH] at hj
    split at hj
    ·simpa using hj
    ·cases hj
   ·cases hj)
 have happ:=fun ty=>Lib.run_append_grow_zeros (P:=aj) W E.ts tn ty E.t i _ .i64 .i64 K.hu htn i1 i2 (ak ⟨g,0,aK⟩) k cap (flat E (l.take k)) hold (l.length+1-k) (by omega) (by rw [i3]; exact hpos) (by omega) (by omega)
  (by rw [i4]; exact bV (bK (show l.length+1-k<=2000 by omega) hf) (by decide))
  (growslice_fits (by omega) (by rw [i4]; exact bV (bK (show k+(l.length+1-k)<=2000 by omega) hf) (by decide)))
 rw [show k+(l.length+1-k)=l.length+1 by omega] at happ;have hG1:=grownCap_ge W (l.length+1) cap E.t;have hG2:=grownCap_le_maxLen W (l.length+1) cap E.t (by unfold maxLen; omega);generalize grownCap W (l.length+1) cap E.t=G at happ hG1 hG2;obtain⟨R1,hR1⟩:∃ R1:Array U,R1=(flat E (l.take k)).toArray++bW E.z.cells (l.length+1-k)++bW E.z.cells (G-(l.length+1)):=⟨_,rfl⟩;rw [<- hR1] at happ;have hs0:R1.size=G * E.n:=by
  rw [hR1];simp only [Array.size_append,aL,size_zeroCells,K.zs,eB K,ay,ah (Nat.le_of_lt hk),<- aQ];rw [show k+(l.length+1-k)+(G-(l.length+1))=G by omega]
 have hh:R1.toList.take (k * E.n)=flat E (l.take k):=by
  rw [hR1];simp only [Array.toList_append,aA];have e:(flat E (l.take k)).length=k * E.n:=by rw [eB K,ay,ah (by omega)]
  rw [<- e];simp
 have q1:(flat E [c]).length=1 * E.n:=by rw [eB K]; rfl
 have q0:(R1.toList.take (k * E.n)).length=k * E.n:=by
  rw [hh,eB K,ay,ah (by omega)]
 have hs2:(R1.toList.take (k * E.n)++flat E [c]++R1.toList.drop ((k+[c].length) * E.n)).length=G * E.n:=by
  have h1:(k+1) * E.n<=G * E.n:=J _ (by omega);have h2:(k+1) * E.n=k * E.n+1 * E.n:=aQ ..;simp only [aI,q0,q1,aN,aS,hs0,List.length_singleton];omega
 refine⟨G,R1,(R1.toList.take (k * E.n)++flat E [c]++R1.toList.drop ((k+[c].length) * E.n)).toArray,
  ((R1.toList.take (k * E.n)++flat E [c]++R1.toList.drop ((k+[c].length) * E.n)).take ((k+1) * E.n)++flat E (l.drop k)++(R1.toList.take (k * E.n)++flat E [c]++R1.toList.drop ((k+[c].length) * E.n)).drop ((k+1+(l.drop k).length) * E.n)).toArray,hG1,hG2,?_,?_,?_,?_⟩
 ·intro ty;have h:=happ ty;rw [show ((l.length+1-k:Nat):Int)=(l.length:Int)+1-k by omega] at h;exact h
 ·intro w ty nd dc hb' hx hc hn;have h:=wE K (o:=k) (m:=[c]) (nd:=nd) (cd:=dc) (ns:=1) (sc:=1) hb' (uD hx hc) (by simp; omega) (by rw [hs0]; exact J _ (by simp; omega)) ty;simpa using h
 ·intro w ty nd dc ns sc hb' hx hm;have h:=wE K (o:=k+1) (m:=l.drop k) (nd:=nd) (cd:=dc) (ns:=ns) (sc:=sc) hb' (Hf K hx ht k) (by rw [hkl]; exact hm) (by rw [hkl,aL,hs2]; exact J _ (by omega)) ty;rw [hkl] at h ⊢;exact h
 ·intro w B hB hb';have p2:(R1.toList.take (k * E.n)++flat E [c]++R1.toList.drop ((k+[c].length) * E.n)).take ((k+1) * E.n)=flat E (l.take k)++flat E [c]:=by
   have e:(R1.toList.take (k * E.n)++flat E [c]).length=(k+1) * E.n:=by rw [aI,q0,q1,<- aQ]
   rw [<- e,cO,hh]
  have e:flat E (l.take k)++flat E [c]++flat E (l.drop k)=flat E (l.take k++c::l.drop k):=by
   rw [gV,show c::l.drop k=[c]++l.drop k from rfl,gV,aA]
  have ln:(l.take k++c::l.drop k).length=l.length+1:=by simp; omega
  have q:(flat E (l.take k)++flat E [c]++flat E (l.drop k)).length=(l.length+1) * E.n:=by rw [e,eB K,ln]
  refine qK K ln.symm hB hb' hG1 hG2 ?_ ?_
  ·rw [aL,p2,aI,q,aN,hs2,hkl];have h1:(l.length+1) * E.n<=G * E.n:=J _ hG1;rw [show k+1+(l.length-k)=l.length+1 by omega];omega
  ·rw [p2];exact (cu q).trans e
end
theorem je {P:Program} {ops:Array Oper} {rest:List Oper} {o:Oper} {a:bf} {Q:Exit->bf->O->Prop} {w w':O} (hgd:o.guard=aK) (s x:X) (t t':au)
  (ho:o.op=.call { callee:=.builtin .append,args:=#[s,x],argTypes:=#[t,t'] }) {v xv v':U} (hs:a.eval s=v) (hx:a.eval x=xv) (hr:(aO #[t,t'] o.type #[v,xv]).run P w=.ok v' w')
  (h:wpList P ops Q rest (a.put o.dst v') w'):wpList P ops Q (o::rest) a w:=by
 refine wpList_plain hgd fun K hK=>?_;unfold aT execOp;simp only [ho,resolve,invoke,builtin,Sem.run_bind,Sem.run_pure,bg,bn,bP,bX,hs,hx,hr];exact hK _ _ h
theorem iW {P:Program} {ops:Array Oper} {o:Oper} {a:bf} {w w':O} {K:bf->O->Prop} {Q:Exit->bf->O->Prop} {E:Prop}
  (hg:o.guard=aK) (s x:X) (t:au) (hop:o.op=.call { callee:=.builtin .copy,args:=#[s,x],argTypes:=#[t,t] }) {v xv v':U} (hs:a.eval s=v) (hx:a.eval x=xv)
  (hr:(aJ #[t,t] o.type #[v,xv]).run P w=.ok v' w') (hK:K (a.put o.dst v') w') :
  if Y o (yielded ops a.tmps)=aD then aT P o a w K Q else E:=by
 have hw:Y o (yielded ops a.tmps)=aD:=by simp [Y,hg]
 rw [if_pos hw];unfold aT execOp;simp only [hop,resolve,invoke,builtin,Sem.run_bind,Sem.run_pure,bg,bn,bP,bX,hs,hx,hr];exact hK
end Rw
namespace Rg
open Go.RowKit
def left (L:Array Bool):Nat:=L.toList.countP (fun b=>!b)
theorem Ry (L:Array Bool) (i:Nat) (h:L.getD i aD=dw):left (L.setIfInBounds i aD)+1=left L:=by
 obtain⟨l⟩:=L;have hi:i<l.length:=by
  rcases aF i l.length with h0|h0
  ·exact h0
  ·exact absurd h (by simp [aG,dx.2 h0])
 have hv:l[i]=dw:=by simpa [aG,hi] using h
 unfold left;simp only [List.setIfInBounds_toArray];rw [List.countP_set hi,hv];have hp:0<l.countP (fun b=>!b):=List.countP_pos_iff.2 ⟨l[i],bZ hi,by rw [hv]; rfl⟩;simp;omega
theorem Pm (L:Array Bool) (h:left L=0) (i:Nat):L.getD i aD=aD:=by
 obtain⟨l⟩:=L;unfold left at h;rw [List.countP_eq_zero] at h;rcases aF i l.length with h0|h0
 ·have:=h l[i] (bZ h0);simp [aG,h0];simpa using this
 ·simp [aG,dx.2 h0]
def Pn (ops:Array Oper):Bool:=(dB ops.size).all fun i=>match ops[i]? with
 | some o=>o.after.all fun e=>!Region.binds .any e || decide (e.on<i)
 | none=>aD
def done (L:Array Bool) (i:Nat):Prop:=L.getD i dw=aD
theorem Hg {ops:Array Oper} (hf:Pn ops=aD) {L:Array Bool} (hs:L.size=ops.size) (h:bY .any ops L=[]):∀ n,n<=ops.size->∀ i,i<n->done L i:=by
 intro n
 induction n with
 | zero=>intro _ i hi; omega
 | succ n ih =>
  intro hn i hi;rcases aF i n with h1|h1
  ·exact ih (by omega) i h1
  ·obtain rfl:i=n:=by omega
   cases hd:L.getD i aD
   ·exfalso;have hm:i∈bY .any ops L:=by
     rw [mem_ready];refine⟨hd,ops[i],aY (by omega),fun e he hbd=>?_⟩;have h2:=bD.1 hf i (bL.2 (by omega));rw [aY (by omega)] at h2;have h3:=bS.1 h2 e he;rw [hbd] at h3;exact ih (by omega) e.on (by simpa using h3)
    rw [h] at hm;cases hm
   ·unfold done;have hi2:i<L.size:=by omega
    simp [aG,hi2] at hd ⊢;exact hd
section
variable {P:Program} {ops:Array Oper} {Q:Exit->bf->O->Prop}
theorem Kj (I:Array Bool->bf->O->Prop) (hf:Pn ops=aD)
  (hstep:∀ L a w i o,L.size=ops.size->I L a w->ops[i]?=ak o->¬ done L i->(∀ e∈o.after,Z .any e=aD->done L e.on)->wpOp P ops Q i (I (L.setIfInBounds i aD)) a w)
  (hend:∀ L a w,I L a w->(∀ i,i<ops.size->done L i)->Q .normal a w) :
  ∀ (fuel:Nat) (L:Array Bool) (a:bf) (w:O),L.size=ops.size->left L<=fuel->I L a w->wpAny P .any ops Q fuel L a w:=by
 intro fuel
 induction fuel with
 | zero =>
  intro L a w hs hl hI;have hr:bY .any ops L=[]:=by
   rw [List.eq_nil_iff_forall_not_mem];intro i hi;have h1:=(mem_ready.1 hi).1;rw [Pm L (by omega) i] at h1;cases h1
  exact⟨hr,hend L a w hI (Hg hf hs hr ops.size (aR _))⟩
 | succ fuel ih =>
  intro L a w hs hl hI;refine⟨fun hr=>hend L a w hI (Hg hf hs hr ops.size (aR _)),fun i hi=>?_⟩;obtain⟨h1,o,h2,h3⟩:=mem_ready.1 hi;have hlt:i<ops.size:=(aM.1 h2).1;have hnd:¬ done L i:=by
   unfold done;have:i<L.size:=by omega
   simp [aG,this] at h1 ⊢;exact h1
  have hst:=hstep L a w i o hs hI h2 hnd (fun e he hb=>h3 e he hb);have hmono:∀ a' w',I (L.setIfInBounds i aD) a' w'->wpAny P .any ops Q fuel (L.setIfInBounds i aD) a' w':=fun a' w' h =>
   ih _ a' w' (by simpa using hs) (by have:=Ry L i h1; omega) h
  unfold wpOp at hst ⊢;rw [h2] at hst ⊢;simp only at hst ⊢
  split at hst
  ·rename_i hw
   rw [if_pos hw];rcases hst with hst|hst
   ·exact aU (dn hmono hst)
   ·exact aV hst
  ·rename_i hw
   rw [if_neg hw];exact hmono _ _ hst
theorem rU (I:Array Bool->bf->O->Prop) {id:Nat} {a:bf} {w:O} {l:List Oper} (hm:P.follows .mixedOrders=aD) (hf:Pn l.toArray=aD)
  (h0:I (cB l.length dw) a { w with drawn:=w.drawn+1 })
  (hstep:∀ L a w i o,L.size=l.length->I L a w->l[i]?=ak o->¬ done L i->(∀ e∈o.after,Z .any e=aD->done L e.on)->wpOp P l.toArray Q i (I (L.setIfInBounds i aD)) a w)
  (hend:∀ L a w,I L a w->(∀ i,i<l.length->done L i)->Q .normal a w):(Code.region id l.toArray aD).wp P Q a w:=by
 refine wp_region_any hm (Kj (ops:=l.toArray) I hf (fun L a w i o hs hI ho=>hstep L a w i o (by simpa using hs) hI (by simpa using ho)) (fun L a w hI hd=>hend L a w hI (by simpa using hd)) _ _ _ _ (by simp) ?_ (by simpa using h0));unfold left;have h2:=List.countP_le_length (p:=fun b:Bool=>!b) (l:=List.replicate l.length dw);simpa using h2
end
theorem iw {L:Array Bool} {i:Nat} (h:i<L.size) (j:Nat):done (L.setIfInBounds i aD) j↔j=i\/done L j:=by
 unfold done;by_cases e:j=i
 ·subst e; simp [aG,h]
 ·by_cases hj:j<L.size
  ·have h2:i≠j:=fun x=>e x.symm;simp [aG,hj,e,h2]
  ·simp [aG,hj,e]
theorem gQ (n j:Nat):¬ done (cB n dw) j:=by
 unfold done;by_cases hj:j<n <;> simp [aG,hj]
theorem dD {P:Program} {ops:Array Oper} {Q:Exit->bf->O->Prop} {K:bf->O->Prop} {a:bf} {w w':O} {i:Nat} {o:Oper} {v:U}
  (ho:ops[i]?=ak o) (hg:o.guard=aK) (hr:(execOp a.eval o).run P w=.ok (.value v) w') (h:K (a.put o.dst v) w'):wpOp P ops Q i K a w:=by
 unfold wpOp;rw [ho];have hw:Y o (yielded ops a.tmps)=aD:=by simp [Y,hg]
 simp only [hw,if_true];refine aU ?_;unfold aT;rw [hr];exact h
theorem ZF {P:Program} {s:Sem U} {w w':O} {v:U} (h:s.run P w=.ok v w'):(do pure (Next.value (<- s)):Sem Next).run P w=.ok (.value v) w':=by
 simp [go_sem,h]
theorem fZ {P:Program} (ρ:X->U) (o:Oper) (s x:X) (t:au) (ho:o.op=.call { callee:=.builtin .append,args:=#[s,x],argTypes:=#[t,t] }) {v x' v':U} {w w':O}
  (hs:ρ s=v) (hx:ρ x=x') (hrun:(aO #[t,t] o.type #[v,x']).run P w=.ok v' w'):(execOp ρ o).run P w=.ok (.value v') w':=by
 simp [execOp,ho,resolve,invoke,builtin,hs,hx,hrun,aC]
theorem kF {P:Program} (ρ:X->U) (o:Oper) (t:au) (x:X) (l h m:Option X) (ho:o.op=.slice t x l h m) {v:U} {w:O} (hr:(Instr.sliceAt t (ρ x) (l.map ρ) (h.map ρ) (m.map ρ)).run P w=.ok v w) :
  (execOp ρ o).run P w=.ok (.value v) w:=by
 simp [execOp,ho,hr,aC]
theorem oJ {P:Program} (ρ:X->U) (o:Oper) (t:au) (x i:X) (ho:o.op=.indexAddr t x i) {v:U} {w:O} (hr:(Instr.indexAt t (ρ x) (ρ i)).run P w=.ok v w) :
  (execOp ρ o).run P w=.ok (.value v) w:=by
 simp [execOp,ho,hr,aC]
theorem dX {P:Program} (ρ:X->U) (o:Oper) (t:au) (x:X) (ho:o.op=.load t x) {v:U} {w:O} (hr:(Instr.loadAt t (ρ x)).run P w=.ok v w) :
  (execOp ρ o).run P w=.ok (.value v) w:=by
 simp [execOp,ho,hr,aC]
theorem iU {P:Program} (ρ:X->U) (o:Oper) (t:au) (n:Nat) (parts:Array (Nat×X)) (ho:o.op=.buildSlice t n parts) {ps:Array (Nat×U)} (hp:parts.map (fun x=>(x.1,ρ x.2))=ps) {v:U} {w w':O} (hr:(Instr.buildSlice t n ps).run P w=.ok v w') :
  (execOp ρ o).run P w=.ok (.value v) w':=by
 subst hp;simp [execOp,ho,hr,aC]
theorem gy {P:Program} (ρ:X->U) (o:Oper) (x:X) (ho:o.op=.move x) (w:O):(execOp ρ o).run P w=.ok (.value (ρ x)) w:=by
 simp [execOp,ho]
theorem kM {P:Program} (ρ:X->U) (o:Oper) (x:X) (ho:o.op=.assign x) (w:O):(execOp ρ o).run P w=.ok (.value (ρ x)) w:=by
 simp [execOp,ho]
theorem size_put (a:bf) (d:Nat) (v:U):(a.put (ak d) v).tmps.size=a.tmps.size:=by simp [Act.put]
theorem get_put (a:bf) (d:Nat) (v:U) (j:Nat) (hd:j≠d):(a.put (ak d) v).tmps[j]?=a.tmps[j]?:=by
 have h2:d≠j:=fun x=>hd x.symm;simp [Act.put,h2]
theorem dN {a:bf} {j:Nat} {v:U} (h:a.tmps[j]?=ak v):a.eval (.tmp j)=v:=by
 have h1:=(aM.1 h).1;have h2:=(aM.1 h).2;simp [Act.eval,aG,h1,h2]
theorem Yc {P:Program} {ops:Array Oper} {Q:Exit->bf->O->Prop} {K:bf->O->Prop} {a:bf} {w w':O} {i:Nat} {o:Oper}
  (ho:ops[i]?=ak o) (hg:o.guard=aK) (hr:(execOp a.eval o).run P w=.ok .skip w') (h:K (a.put o.dst undef) w'):wpOp P ops Q i K a w:=by
 unfold wpOp;rw [ho];have hw:Y o (yielded ops a.tmps)=aD:=by simp [Y,hg]
 simp only [hw,if_true];refine aU ?_;unfold aT;rw [hr];exact h
theorem gI {a:bf} {bl:List U} (d0 m:Nat) (df:a.defers=[]) (sz:a.tmps.size=bl.length) (hle:d0+m<=bl.length) (kp:∀ j,(j<d0\/d0+m<=j)->a.tmps[j]?=bl[j]?) :
  ∃ mid:List U,mid.length=m/\a=⟨(bl.take d0++(mid++bl.drop (d0+m))).toArray,[]⟩:=by
 obtain⟨tmps,defers⟩:=a;have hd:defers=[]:=df;have hs:tmps.size=bl.length:=sz;have hk:∀ j,(j<d0\/d0+m<=j)->tmps[j]?=bl[j]?:=kp;subst hd;have hl:((tmps.toList.drop d0).take m).length=m:=by simp; omega
 refine⟨(tmps.toList.drop d0).take m,hl,congrArg (fun x=>(⟨x,[]⟩:bf)) ?_⟩;apply Array.ext_getElem?;intro j
 conv=>rhs; rw [List.getElem?_toArray]
 by_cases h1:j<d0
 ·rw [hk j (aU h1),aZ (by simp; omega),aH,if_pos h1]
 ·have ht:(bl.take d0).length=d0:=by simp; omega
  rw [aX (by omega),ht];by_cases h2:j<d0+m
  ·rw [aZ (by omega),aH,if_pos (by omega),aW,Array.getElem?_toList,show d0+(j-d0)=j by omega]
  ·rw [hk j (aV (by omega)),aX (by omega),hl,aW,show d0+m+(j-d0-m)=j by omega]
end Rg
namespace Rw
open Go.RowKit
theorem fu {P:Program} {ops:Array Oper} {o:Oper} {a:bf} {w w':O} {K:bf->O->Prop} {Q:Exit->bf->O->Prop} {E:Prop}
  (hg:o.guard=aK) (s x:X) (t:au) (hop:o.op=.call { callee:=.builtin .append,args:=#[s,x],argTypes:=#[t,t] }) {v xv v':U} (hs:a.eval s=v) (hx:a.eval x=xv)
  (hr:(aO #[t,t] o.type #[v,xv]).run P w=.ok v' w') (hK:K (a.put o.dst v') w') :
  if Y o (yielded ops a.tmps)=aD then aT P o a w K Q else E:=by
 have hw:Y o (yielded ops a.tmps)=aD:=by simp [Y,hg]
 rw [if_pos hw];unfold aT execOp;simp only [hop,resolve,invoke,builtin,Sem.run_bind,Sem.run_pure,bg,bn,bP,bX,hs,hx,hr];exact hK
theorem qw {P:Program} {ops:Array Oper} {o:Oper} {a:bf} {w:O} {K:bf->O->Prop} {Q:Exit->bf->O->Prop} {E:Prop} {f:FuncId} {args:Array U} {R:Ending->O->Prop}
  (hg:o.guard=aK) (hr:(execOp a.eval o).run P w=.ok (.enter f args) w) (hc:Calls P f args w R) (hR:∀ e w',R e w'->∃ v,e=.returned v/\K (a.put o.dst v) w') :
  if Y o (yielded ops a.tmps)=aD then aT P o a w K Q else E:=by
 have hw:Y o (yielded ops a.tmps)=aD:=by simp [Y,hg]
 rw [if_pos hw];unfold aT;rw [hr,cK];refine hc.mono ?_;intro e w' h;obtain⟨v,rfl,hk⟩:=hR e w' h;exact hk
theorem gF {P : Program} {f : FuncId} {fn : Func} {c : Code} (hf : P.funcs[f]? = some fn) (hname : (fn.name == "runtime.NumGoroutine") = false) (hb : fn.body = some c) (args : Array Value) (w : World) : (callFunc f args).run P w = .ok (.enter f args) w := by
 have h1 : fn.name ≠ "runtime.NumGoroutine" := by simpa using hname
 simp [callFunc,hf,h1,hb]
theorem iG {P:Program} (ρ:X->U) (o:Oper) (x:X) (t:au) (f:FuncId) (ho:o.op=.call { callee:=.value (.func f),args:=#[x],argTypes:=#[t] }) {v:U} (hx:ρ x=v) (hf:ρ (.func f)=.func (.func f) #[] #[]) (w:O)
  (hc:(callFunc f #[v]).run P w=.ok (.enter f #[v]) w):(execOp ρ o).run P w=.ok (.enter f #[v]) w:=by
 simp [execOp,ho,resolve,invoke,hx,hf,bF,hc]
theorem sM {P:Program} (ρ:X->U) (o:Oper) (x y:X) (t s:au) (f:FuncId) (ho:o.op=.call { callee:=.value (.func f),args:=#[x,y],argTypes:=#[t,s] }) {v u:U} (hx:ρ x=v) (hy:ρ y=u) (hf:ρ (.func f)=.func (.func f) #[] #[]) (w:O)
  (hc:(callFunc f #[v,u]).run P w=.ok (.enter f #[v,u]) w):(execOp ρ o).run P w=.ok (.enter f #[v,u]) w:=by
 simp [execOp,ho,resolve,invoke,hx,hy,hf,bF,hc]
end Rw
namespace Rg
open Go.RowKit
theorem gU {P:Program} {ops:Array Oper} {Q:Exit->bf->O->Prop} {K:bf->O->Prop} {a:bf} {w:O} {i:Nat} {o:Oper} {f:FuncId} {args:Array U} {R:Ending->O->Prop}
  (ho:ops[i]?=ak o) (hg:o.guard=aK) (hr:(execOp a.eval o).run P w=.ok (.enter f args) w) (hc:Calls P f args w R) (hR:∀ e w',R e w'->∃ v,e=.returned v/\K (a.put o.dst v) w'):wpOp P ops Q i K a w:=by
 unfold wpOp;rw [ho];have hw:Y o (yielded ops a.tmps)=aD:=by simp [Y,hg]
 simp only [hw,if_true];refine aU ?_;unfold aT;rw [hr,cK];refine hc.mono ?_;intro e w' h;obtain⟨v,rfl,hk⟩:=hR e w' h;exact hk
theorem Ah {P:Program} (ρ:X->U) (o:Oper) (x y z:X) (t:au) (f:FuncId) (ho:o.op=.call { callee:=.value (.func f),args:=#[x,y,z],argTypes:=#[t,t,t] }) {v u s:U} (hx:ρ x=v) (hy:ρ y=u) (hz:ρ z=s) (hf:ρ (.func f)=.func (.func f) #[] #[]) (w:O)
  (hc:(callFunc f #[v,u,s]).run P w=.ok (.enter f #[v,u,s]) w):(execOp ρ o).run P w=.ok (.enter f #[v,u,s]) w:=by
 simp [execOp,ho,resolve,invoke,hx,hy,hz,hf,bF,hc]
theorem dR {P:Program} (ρ:X->U) (o:Oper) (s:au) (x:X) (f:Nat) (ho:o.op=.fieldAddr s x f) {v:U} {w:O} (hr:(Instr.fieldAt s (ρ x) f).run P w=.ok v w):(execOp ρ o).run P w=.ok (.value v) w:=by
 unfold execOp;rw [ho];exact ZF hr
theorem Rz {P:Program} (ρ:X->U) (o:Oper) (op:BinOp) (t:au) (x y:X) (r:au) (ho:o.op=.binOp op t x y r) {v:U} {w:O} (hr:(do eqGuard op t x y (ρ x) (ρ y); binOp op t (ρ x) (ρ y):Sem U).run P w=.ok v w):(execOp ρ o).run P w=.ok (.value v) w:=by
 unfold execOp;rw [ho];exact ZF hr
theorem wpOp_mono {P:Program} {ops:Array Oper} {Q:Exit->bf->O->Prop} {i:Nat} {K K':bf->O->Prop} {a:bf} {w:O} (h:∀ a w,K a w->K' a w) (hw:wpOp P ops Q i K a w):wpOp P ops Q i K' a w:=by
 unfold wpOp at hw ⊢;cases ho:ops[i]? with
 | none =>
  rw [ho] at hw;exact h _ _ hw
 | some o =>
  rw [ho] at hw;simp only at hw ⊢
  split at hw
  ·rename_i h1
   rw [if_pos h1];rcases hw with hw|hw
   ·exact aU (dn h hw)
   ·exact aV hw
  ·rename_i h1
   rw [if_neg h1];exact h _ _ hw
def fH (P:Program) (ops:Array Oper) (Q:Exit->bf->O->Prop):Nat->Nat->bf->O->Prop
 | 0,_,a,w=>Q .normal a w
 | n+1,k,a,w=>wpOp P ops Q k (fun a w=>fH P ops Q n (k+1) a w) a w
structure ZG (i M:Nat) (dst last:Nat->Nat) (V:Nat->U->O->Prop) (base:bf) (o:Oper) (a:bf) (w:O):Prop where
 kp:∀ j u,(∀ k,k<M->dst k≠j)->base.tmps[j]?=ak u->a.eval (.tmp j)=u
 at_:∀ e∈o.after,Z .any e=aD->(last e.on=i\/M<=last e.on)->V e.on (a.eval (.tmp (dst e.on))) w
 got:∀ e∈o.after,Z .any e=aD->a.tmps[dst e.on]?=ak (a.eval (.tmp (dst e.on)))
structure PhL (l:List Oper) (M:Nat) (dst last:Nat->Nat) (V:Nat->U->O->Prop) (base:bf) (w:O) (L:Array Bool) (a:bf) (x:O):Prop where
 no:∀ i,M<=i->¬ done L i
 cl:∀ i o,done L i->l[i]?=ak o->∀ e∈o.after,Z .any e=aD->done L e.on
 df:a.defers=base.defers
 sz:a.tmps.size=base.tmps.size
 kp:∀ j,(∀ i,i<M->dst i≠j)->a.tmps[j]?=base.tmps[j]?
 vB:Below w.heap.size w x
 val:∃ vs:Nat->U,∀ i,i<M->done L i->a.tmps[dst i]?=ak (vs i)/\(¬ done L (last i)->V i (vs i) x)
theorem fQ {P:Program} {Q:Exit->bf->O->Prop} {id:Nat} {base:bf} {w:O} {l:List Oper} (N M:Nat) (dst last:Nat->Nat) (V:Nat->U->O->Prop)
  (hm:P.follows .mixedOrders=aD) (hf:Pn l.toArray=aD) (hN:l.length=N) (hMN:M<=N) (hinj:∀ i j,i<M->j<M->dst i=dst j->i=j) (hs:∀ i,i<M->dst i<base.tmps.size)
  (hop:∀ i o,i<M->l[i]?=ak o->∀ a w' (D:Nat->Prop),¬ D i->(∀ j oj,D j->l[j]?=ak oj->∀ e∈oj.after,Z .any e=aD->D e.on)->(∀ e∈o.after,Z .any e=aD->D e.on)->Below w.heap.size w w'->ZG i M dst last V base o a w'->∀ K:bf->O->Prop,(∀ v w'',V i v w''->Below w.heap.size w' w''->(∀ j u,j<M->D j->¬ D (last j)->last j≠i->j≠i->V j u w'->V j u w'')->K (a.put (ak (dst i)) v) w'')->wpOp P l.toArray Q i K a w')
  (hall:M<N->∀ D:Nat->Prop,(∀ j o,D j->l[j]?=ak o->∀ e∈o.after,Z .any e=aD->D e.on)->(∀ o,l[M]?=ak o->∀ e∈o.after,Z .any e=aD->D e.on)->∀ i,i<M->D i)
  (hnext:∀ k o,M<k->k<N->l[k]?=ak o->∃ e∈o.after,Z .any e=aD/\e.on=k-1)
  (hseq:∀ a w',a.defers=base.defers->a.tmps.size=base.tmps.size->(∀ j,(∀ i,i<M->dst i≠j)->a.tmps[j]?=base.tmps[j]?)->(∃ vs:Nat->U,∀ i,i<M->a.tmps[dst i]?=ak (vs i)/\(M<=last i->V i (vs i) w'))->Below w.heap.size w w'->fH P l.toArray Q (N-M) M a w'):(Code.region id l.toArray aD).wp P Q base w:=by
 refine rU (fun L a x=>PhL l M dst last V base w L a x\/∃ s,1<=s/\M+s<=N/\(∀ i,i<N->(done L i↔i<M+s))/\fH P l.toArray Q (N-M-s) (M+s) a x) hm hf ?_ ?_ ?_
 ·exact aU ⟨fun i _=>gQ _ _,fun i o h=>absurd h (gQ _ _),rfl,rfl,fun _ _=>rfl,(Below.refl _ _).drew,fun _=>.bool aD,fun i _ h=>absurd h (gQ _ _)⟩
 ·intro L a x i o hsz hI ho hnd oK;have hi:i<l.length:=(List.getElem?_eq_some_iff.1 ho).1;have C9:i<L.size:=by omega
  rcases hI with I|⟨s,h1,h2,h3,h4⟩
  ·rcases aF i M with hiM|hiM
   ·obtain⟨vs,q1⟩:=I.val;have hon:∀ e∈o.after,Z .any e=aD->e.on<M:=fun e he hb=>by
     have h7:=bD.1 hf i (bL.2 (by simpa using hi));have ho':(l.toArray)[i]?=ak o:=by simpa using ho
     rw [ho'] at h7;have h8:=bS.1 h7 e he;rw [hb] at h8;have:e.on<i:=by simpa using h8
     omega
    have seen:ZG i M dst last V base o a x:=⟨fun j u hj hu=>dN (by rw [I.kp j hj]; exact hu),fun e he hbd hl=>by
     obtain⟨p1,p2⟩:=q1 e.on (hon e he hbd) (oK e he hbd);rw [dN p1];refine p2 ?_;rcases hl with hl|hl
     ·rw [hl]; exact hnd
     ·exact I.no _ hl,fun e he hbd=>by
     obtain⟨p1,p2⟩:=q1 e.on (hon e he hbd) (oK e he hbd);rw [dN p1];exact p1⟩
    refine hop i o hiM ho a x (done L) hnd I.cl oK I.vB seen _ fun v w'' hvw hbw hpr=>aU ?_;refine⟨fun k hk hd=>?_,fun k q hk hq e he hb=>?_,I.df,by rw [size_put]; exact I.sz,fun j hj=>?_,I.vB.trans hbw,fun k=>if k=i then v else vs k,fun k Yd hk=>?_⟩
    ·rcases (iw C9 k).1 hd with h9|h9
     ·omega
     ·exact I.no k hk h9
    ·rw [iw C9] at hk ⊢;rcases hk with rfl|hk
     ·rw [hq] at ho;cases ho;exact aV (oK e he hb)
     ·exact aV (I.cl k q hk hq e he hb)
    ·rw [get_put _ _ _ _ (fun e=>hj i hiM e.symm)];exact I.kp j hj
    ·by_cases e:k=i
     ·subst e;have:dst k<a.tmps.size:=by rw [I.sz]; exact hs k Yd
      simp only [if_true];exact⟨by simp [Act.put,this],fun _=>hvw⟩
     ·simp only [if_neg e];rw [get_put _ _ _ _ (fun e2=>e (hinj k i Yd hiM e2))];rcases (iw C9 k).1 hk with h9|h9
      ·exact absurd h9 e
      ·obtain⟨p1,p2⟩:=q1 k Yd h9;refine⟨p1,fun hn=>?_⟩;have n1:last k≠i:=fun e3=>hn ((iw C9 _).2 (aU e3));have n2:¬ done L (last k):=fun e3=>hn ((iw C9 _).2 (aV e3));exact hpr k _ Yd h9 n2 n1 e (p2 n2)
   ·have agt:i=M:=by
     rcases aF M i with h9|h9
     ·obtain⟨e,he,hb,hon⟩:=hnext i o h9 (by omega) ho;have hd:=oK e he hb;rw [hon] at hd;exact absurd hd (I.no _ (by omega))
     ·omega
    subst agt;have hD:=hall (by omega) (done L) I.cl (fun o' ho' e he hb=>by
     rw [ho] at ho';cases ho';exact oK e he hb)
    obtain⟨vs,q1⟩:=I.val;have hq:=hseq a x I.df I.sz I.kp ⟨vs,fun k hk=>⟨(q1 k hk (hD k hk)).1,fun hl=>(q1 k hk (hD k hk)).2 (I.no _ hl)⟩⟩ I.vB;rw [show N-i=(N-i-1)+1 by omega] at hq;refine wpOp_mono (fun a' x' h=>aV ⟨1,aR _,by omega,fun k hk=>?_,h⟩) hq;rw [iw C9];constructor
    ·rintro (rfl|h9)
     ·omega
     ·rcases aF k i with h8|h8
      ·omega
      ·exact absurd h9 (I.no k h8)
    ·intro h9;by_cases e:k=i
     ·exact aU e
     ·exact aV (hD k (by omega))
  ·have hge:M+s<=i:=by
    rcases aF i (M+s) with h9|h9
    ·exact absurd ((h3 i (by omega)).2 h9) hnd
    ·exact h9
   have hie:i=M+s:=by
    rcases aF (M+s) i with h9|h9
    ·obtain⟨e,he,hb,hon⟩:=hnext i o (by omega) (by omega) ho;have hd:=oK e he hb;rw [hon] at hd;have:=(h3 (i-1) (by omega)).1 hd;omega
    ·omega
   subst hie;rw [show N-M-s=(N-M-(s+1))+1 by omega] at h4;refine wpOp_mono (fun a' x' h=>aV ⟨s+1,by omega,by omega,fun k hk=>?_,h⟩) h4;rw [iw C9];constructor
   ·rintro (rfl|h9)
    ·omega
    ·have:=(h3 k hk).1 h9;omega
   ·intro h9;by_cases e:k=M+s
    ·exact aU e
    ·exact aV ((h3 k hk).2 (by omega))
 ·intro L a x hI hd;rcases hI with I|⟨s,h1,h2,h3,h4⟩
  ·rcases aF M N with h9|h9
   ·exact absurd (hd M (by omega)) (I.no M (aR _))
   ·obtain⟨vs,q1⟩:=I.val;have hq:=hseq a x I.df I.sz I.kp ⟨vs,fun k hk=>⟨(q1 k hk (hd k (by omega))).1,fun hl=>(q1 k hk (hd k (by omega))).2 (I.no _ hl)⟩⟩ I.vB;rw [show N-M=0 by omega] at hq;exact hq
  ·have:=(h3 (N-1) (by omega)).1 (hd (N-1) (by omega));rw [show N-M-s=0 by omega] at h4;exact h4
theorem jM {P:Program} (ρ:X->U) (o:Oper) (t:au) (parts:Array (Nat×X)) (ho:o.op=.build t parts) {ps:Array (Nat×U)} (hp:parts.map (fun x=>(x.1,ρ x.2))=ps) {v:U} {w:O} (hr:(Instr.build t ps).run P w=.ok v w) :
  (execOp ρ o).run P w=.ok (.value v) w:=by
 subst hp;simp [execOp,ho,hr,aC]
theorem RD {P:Program} (ρ:X->U) (o:Oper) (t:au) (x y:X) (ho:o.op=.store t x y) {w w':O} (hr:(Instr.storeAt t (ρ x) (ρ y)).run P w=.ok () w') :
  (execOp ρ o).run P w=.ok .skip w':=by
 simp [execOp,ho,hr,aC]
theorem fP {P:Program} {ops:Array Oper} {Q:Exit->bf->O->Prop} {K:bf->O->Prop} {a:bf} {w w':O} {i:Nat} {o:Oper} (t:au) (x y:X) {p v:U}
  (ho:ops[i]?=ak o) (hg:o.guard=aK) (hop:o.op=.store t x y) (hd:o.dst=aK) (hx:a.eval x=p) (hy:a.eval y=v) (hr:(Instr.storeAt t p v).run P w=.ok () w') (h:K a w'):wpOp P ops Q i K a w:=by
 refine Yc ho hg (RD a.eval o t x y hop (by rw [hx,hy]; exact hr)) ?_;rw [hd];exact h
def Fy (l:List Oper) (i:Nat):List Nat:=match l[i]? with
 | some o=>(o.after.toList.filter fun e=>Z .any e).map fun e=>e.on
 | none=>[]
def Kk (l:List Oper):Nat->List Nat->List Nat
 | 0,s=>s
 | n+1,s=>Kk l n (s++s.flatMap (Fy l))
theorem M0 {l:List Oper} {D:Nat->Prop} {i:Nat} (h:∀ o,l[i]?=ak o->∀ e∈o.after,Z .any e=aD->D e.on):∀ j∈Fy l i,D j:=by
 intro j hj;unfold Fy at hj;cases ho:l[i]? with
 | none=>rw [ho] at hj; cases hj
 | some o =>
  rw [ho] at hj;obtain⟨e,he,rfl⟩:=List.mem_map.1 hj;obtain⟨h1,h2⟩:=List.mem_filter.1 he;exact h o ho e (Array.mem_toList_iff.1 h1) h2
theorem Hl {l:List Oper} {D:Nat->Prop} (hc:∀ j o,D j->l[j]?=ak o->∀ e∈o.after,Z .any e=aD->D e.on):∀ n s,(∀ j∈s,D j)->∀ j∈Kk l n s,D j
 | 0,_,hs=>hs
 | n+1,s,hs=>Hl hc n _ fun j hj=>by
  rcases List.mem_append.1 hj with h|h
  ·exact hs j h
  ·obtain⟨i,hi,hd⟩:=List.mem_flatMap.1 h;exact M0 (fun o ho=>hc i o (hs i hi) ho) j hd
theorem jl {l:List Oper} {M:Nat} (n:Nat) (h:(dB M).all (fun i=>(Kk l n (Fy l M)).contains i)=aD) (D:Nat->Prop) (hc:∀ j o,D j->l[j]?=ak o->∀ e∈o.after,Z .any e=aD->D e.on) (hm:∀ o,l[M]?=ak o->∀ e∈o.after,Z .any e=aD->D e.on):∀ i,i<M->D i:=by
 intro i hi;have h2:=bD.1 h i (bL.2 hi);exact Hl hc n _ (M0 hm) i (List.contains_iff_mem.1 h2)
theorem Ai {P:Program} (ρ:X->U) (o:Oper) (t:au) (ho:o.op=.alloc t) {v:U} {w w':O} (hr:(Instr.alloc t aD (.tuple #[])).run P w=.ok v w'):(execOp ρ o).run P w=.ok (.value v) w':=by
 simp [execOp,ho,hr,aC]
end Rg
namespace Rw
open Go.RowKit
theorem iY {α:Type} {E:Ek α} (K:E.Ok) {w:O} (B:Nat) {g:Nat} {x:U} {m:List α} (nQ:dK w g #[] E.t) (hBg:B<=g) (hx:Row E w x m) (hm:m.length<=1000) (ty:au) :
  ∃ v' w',(aO #[E.ts,E.ts] ty #[aB (ak ⟨g,0,aK⟩) 0 0,x]).run aj w=.ok v' w'/\Own E w' B v' m/\Below w.heap.size w w':=by
 have ho:Own E w B (aB (ak ⟨g,0,aK⟩) 0 0) ([]:List α):=qK K rfl hBg nQ (aR _) (Nat.zero_le _) (by simp) (by simp [flat]);have hl:=nQ.lt;obtain⟨v',w',r,o',gr⟩:=gJ K B ho hx (by simp) hm (by omega) ty;refine⟨v',w',r,by simpa using o',?_⟩;obtain⟨i,i1,i2,i3,i4⟩:=K.info;rcases hx with⟨rfl,rfl⟩|⟨ad,c,rfl,h2,h3,h4⟩
 ·have r2:=run_append_owned_none (P:=aj) (w:=w) B E.ts ty E.t i E.n K.hu i1 _ _ _ ho;rw [r2] at r;injection r with _ e
  rw [<- e];exact Below.refl _ _
 ·rcases Nat.eq_zero_or_pos m.length with h0|h0
  ·have r2:=run_append_room (P:=aj) (w:=w) E.ts ty E.t i K.hu i1 g 0 0 #[] nQ ad m.length c (flat E m) (by rw [eB K,i3]) h4 (qH K m) (by omega) (by rw [eB K,h0]; simp);rw [r2] at r;injection r with _ e
   rw [<- e];have hf:flat E m=[]:=aP (by rw [eB K,h0]; simp);have hs:=dK.set nQ ((#[]:Array U).toList.take (0 * i.size)++flat E m++(#[]:Array U).toList.drop (0 * i.size+(flat E m).length)).toArray;refine⟨rfl,rfl,rfl,by simp [World.setRow],fun k hk=>?_⟩;by_cases hkg:k=g
   ·subst hkg;refine hs.trans ?_;rw [hf];simpa using nQ.symm
   ·exact setRow_other w g k _ hkg
  ·have r2:=run_append_grow (P:=aj) (w:=w) E.ts ty E.t i E.z K.hu i1 i2 ⟨g,0,aK⟩ 0 0 [] (by simp) (fun j v h=>by simp at h) ad m.length c (flat E m) (by rw [eB K,i3]) h4 (by omega) (by omega) (by
    rw [Nat.zero_add,nextslicecap_zero h0,i4];exact bV (bK hm K.few) (by decide))
   rw [r2] at r;injection r with _ e
   rw [<- e];exact (Below.refl _ _).drew.alloc (aR _) _
end Rw
end Go.Proofs.YtmklifheakemeaaGreat
