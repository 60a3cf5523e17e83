/-
  put of package adver. Conditions as told.
-/
import Derived.Test.YtncogjpmboglhaaGreatF013
import Derived.Test.YtncogjpmboglhaaGreatF026
import Derived.Test.YtncogjpmboglhaaGreatF025
import Derived.Test.YtncogjpmboglhaaGreatF012
import Derived.Laws.IdiomCopy
import Derived.Test.YtncogjpmboglhaaGreatF008
import Derived.Test.YtncogjpmboglhaaGreatF001
import Derived.Deep.LoopGhost
import Derived.Laws.Externs
import Derived.Test.YtncogjpmboglhaaGreatF018
set_option maxRecDepth 100000
set_option maxHeartbeats 64000000
namespace Go.Proofs.YtncogjpmboglhaaGreat.Av
open Go.RowKit Go.Sort Rw YtncogjpmboglhaaGreat.Nm Pr Bk
theorem place_leJ (l:List XID) (y:XID):placeK keyJ l y≤l.length:=by
 rw [placeK_map]
 exact Nat.le_trans (place_le _ _) (by simp)
theorem putJ_any (B:Nat) (v:Sl) (l:List XID) (x:XID) (w:World) (ho:Own EJ w B (slv v) l) (hr:RiseK keyJ l) (hl:l.length≤900) (hB:B≤w.heap.size) :
  Calls Tryz.prog 86 #[slv v,idv x,.func (.func 39) #[] #[]] w fun e w'=>(∃ v':Sl,e=.returned (slv v')∧Own EJ w' B (slv v') (insAt l (placeK keyJ l (keyJ x)) x))∧Below B w w'∧(∀ j,j<w.heap.size→some j≠(slv v).ownBlock→w'.heap[j]?=w.heap[j]?):=by
 have h0:=newB w (.cells #[.int .i64 x.1,.int .i64 x.2] 38)
 have X:=box_new w #[.int .i64 x.1,.int .i64 x.2] 38
 have C:=Lib.hid (bsJ_any (slv v) l x _ ((Row.of_own ho).on h0) hr hl)
 obtain⟨ks,hks⟩:∃ k,k=placeK keyJ l (keyJ x):=⟨_,rfl⟩
 have KL:ks≤l.length:=by rw [hks]; exact place_leJ _ _
 rw [← hks] at C
 rw [← hks]
 generalize thereK keyJ l (keyJ x)=th at *
 have OW:=Lib.hid (Bk.own_on ho h0)
 have HV:=Lib.hid (show (slv v).ownBlock≠none→∃ g,(slv v).ownBlock=some g∧g<w.heap.size from fun hne=>by
  cases hb:(slv v).ownBlock with
  | none=>exact absurd hb hne
  | some g=>exact⟨g,rfl,(ho.lt g hb).2⟩)
 have B0:=Lib.hid ((Below.refl B w).alloc hB (.cells #[.int .i64 x.1,.int .i64 x.2] 38))
 have BN0:=Lib.hid h0
 have KK:=Lib.hid KL
 have LL:=Lib.hid hl
 have BB:=Lib.hid hB
 clear h0 ho hr hl hB hks KL
 obtain⟨c1,c2⟩:=x
 obtain⟨vo,vn,vc⟩:=v
 simp only at C X
 obtain⟨x0,x1⟩:=X.cs2
 have XX:=Lib.hid X
 clear X
 go_enter Tryz.func86,Tryz.ntmps86
 go_wp2_with fail
 have W1:=Lib.hid (show w.heap.size≤(w.alloc (.cells #[.int .i64 c1,.int .i64 c2] 38)).heap.size by simp)
 generalize w.alloc (.cells #[.int .i64 c1,.int .i64 c2] 38)=W at *
 refine C.out.mono ?_
 rintro e w1 ⟨rfl,hb⟩
 have Y:=XX.out.on hb
 obtain⟨y0,y1⟩:=Y.cs2
 have O1:=Lib.hid (Bk.own_on OW.out hb)
 have B1:=Lib.hid (B0.out.trans (hb.mono (Nat.le_trans BB.out W1.out)))
 have BW:=Lib.hid (fun j (hj:j<w.heap.size)=>(hb.block j (Nat.lt_of_lt_of_le hj W1.out)).trans (BN0.out.block j hj))
 have S1:=Lib.hid (Nat.le_trans W1.out hb.size)
 clear C Y hb x0 x1
 go_wp2_with fail
 have hl:=LL.out
 have NB:=newB w1 (.cells #[.int .i64 c1,.int .i64 c2] 38)
 refine (insert_anyJ B _ l ks (c1,c2) w1.heap.size _ (Bk.own_on O1.out NB) (box_new w1 #[.int .i64 c1,.int .i64 c2] 38) ?_ KK.out (by omega) (Nat.le_trans (Nat.le_trans BB.out S1.out) NB.size)).mono ?_
 ·intro he
  obtain⟨g,hg,hlt⟩:=HV.out (by rw [he]; simp)
  rw [he] at hg
  have:=Option.some.inj hg
  have:=S1.out
  omega
 rintro e w2 ⟨v',rfl,ho,hb,hoth⟩
 obtain⟨a1,a2,hv⟩:=(Row.of_own ho).len
 have Q:=Lib.hid (show (∃ v'':Sl,Ending.returned v'=.returned (slv v'')∧Own EJ w2 B (slv v'') (insAt l ks (c1,c2)))∧Below B w w2∧(∀ j,j<w.heap.size→some j≠(slv (vo,vn,vc)).ownBlock→w2.heap[j]?=w.heap[j]?) from ⟨⟨(a1,_,a2),by rw [hv],by subst hv; simpa [insAt] using ho⟩,(B1.out.trans (NB.mono (Nat.le_trans BB.out S1.out))).trans hb,fun j hj hne=>(hoth j (Nat.lt_of_lt_of_le (Nat.lt_of_lt_of_le hj S1.out) NB.size) hne).trans ((NB.block j (Nat.lt_of_lt_of_le hj S1.out)).trans (BW.out j hj))⟩)
 clear ho hb hv hl NB
 go_wp2
 go_ret
 exact Q.out
theorem place_leD (l:List XAd) (y:XID):placeK keyD l y≤l.length:=by
 rw [placeK_map]
 exact Nat.le_trans (place_le _ _) (by simp)
theorem putD_any (B:Nat) (v:Sl) (l:List XAd) (x:XAd) (w:World) (ho:Own ED w B (slv v) l) (hr:RiseK keyD l) (hl:l.length≤900) (hB:B≤w.heap.size) :
  Calls Tryz.prog 84 #[slv v,valD x,.func (.func 41) #[] #[]] w fun e w'=>(∃ v':Sl,e=.returned (slv v')∧Own ED w' B (slv v') (insAt l (placeK keyD l (keyD x)) x))∧Below B w w'∧(∀ j,j<w.heap.size→some j≠(slv v).ownBlock→w'.heap[j]?=w.heap[j]?):=by
 have h0:=newB w (.cells #[.int .i64 x.1,.int .i64 x.2.1,slv x.2.2.1,.int .i64 x.2.2.2] 41)
 have X:=box_new w #[.int .i64 x.1,.int .i64 x.2.1,slv x.2.2.1,.int .i64 x.2.2.2] 41
 have C:=Lib.hid (bsD_any (slv v) l x _ ((Row.of_own ho).on h0) hr hl)
 obtain⟨ks,hks⟩:∃ k,k=placeK keyD l (keyD x):=⟨_,rfl⟩
 have KL:ks≤l.length:=by rw [hks]; exact place_leD _ _
 have e1:keyD x=(x.1,x.2.1):=rfl
 rw [← e1] at C
 rw [← hks] at C
 rw [← hks]
 generalize thereK keyD l (keyD x)=th at *
 have OW:=Lib.hid (Bk.own_on ho h0)
 have HV:=Lib.hid (show (slv v).ownBlock≠none→∃ g,(slv v).ownBlock=some g∧g<w.heap.size from fun hne=>by
  cases hb:(slv v).ownBlock with
  | none=>exact absurd hb hne
  | some g=>exact⟨g,rfl,(ho.lt g hb).2⟩)
 have B0:=Lib.hid ((Below.refl B w).alloc hB (.cells #[.int .i64 x.1,.int .i64 x.2.1,slv x.2.2.1,.int .i64 x.2.2.2] 41))
 have BN0:=Lib.hid h0
 have KK:=Lib.hid KL
 have LL:=Lib.hid hl
 have BB:=Lib.hid hB
 clear h0 ho hr hl hB hks KL
 obtain⟨c1,c2,⟨c3,c4,c5⟩,c6⟩:=x
 obtain⟨vo,vn,vc⟩:=v
 simp only at C X
 obtain⟨x0,x1,x2,x3⟩:=X.cs4
 have XX:=Lib.hid X
 clear X
 go_enter Tryz.func84,Tryz.ntmps84
 go_wp2_with fail
 have W1:=Lib.hid (show w.heap.size≤(w.alloc (.cells #[.int .i64 c1,.int .i64 c2,.slice c3 c4 c5,.int .i64 c6] 41)).heap.size by simp)
 generalize w.alloc (.cells #[.int .i64 c1,.int .i64 c2,.slice c3 c4 c5,.int .i64 c6] 41)=W at *
 refine C.out.mono ?_
 rintro e w1 ⟨rfl,hb⟩
 have Y:=XX.out.on hb
 obtain⟨y0,y1,y2,y3⟩:=Y.cs4
 have O1:=Lib.hid (Bk.own_on OW.out hb)
 have B1:=Lib.hid (B0.out.trans (hb.mono (Nat.le_trans BB.out W1.out)))
 have BW:=Lib.hid (fun j (hj:j<w.heap.size)=>(hb.block j (Nat.lt_of_lt_of_le hj W1.out)).trans (BN0.out.block j hj))
 have S1:=Lib.hid (Nat.le_trans W1.out hb.size)
 clear C Y hb x0 x1 x2 x3
 go_wp2_with fail
 have hl:=LL.out
 have NB:=newB w1 (.cells #[.int .i64 c1,.int .i64 c2,.slice c3 c4 c5,.int .i64 c6] 41)
 refine (insert_anyD B _ l ks (c1,c2,(c3,c4,c5),c6) w1.heap.size _ (Bk.own_on O1.out NB) (box_new w1 #[.int .i64 c1,.int .i64 c2,.slice c3 c4 c5,.int .i64 c6] 41) ?_ KK.out (by omega) (Nat.le_trans (Nat.le_trans BB.out S1.out) NB.size)).mono ?_
 ·intro he
  obtain⟨g,hg,hlt⟩:=HV.out (by rw [he]; simp)
  rw [he] at hg
  have:=Option.some.inj hg
  have:=S1.out
  omega
 rintro e w2 ⟨v',rfl,ho,hb,hoth⟩
 obtain⟨a1,a2,hv⟩:=(Row.of_own ho).len
 have Q:=Lib.hid (show (∃ v'':Sl,Ending.returned v'=.returned (slv v'')∧Own ED w2 B (slv v'') (insAt l ks (c1,c2,(c3,c4,c5),c6)))∧Below B w w2∧(∀ j,j<w.heap.size→some j≠(slv (vo,vn,vc)).ownBlock→w2.heap[j]?=w.heap[j]?) from ⟨⟨(a1,_,a2),by rw [hv],by subst hv; simpa [insAt] using ho⟩,(B1.out.trans (NB.mono (Nat.le_trans BB.out S1.out))).trans hb,fun j hj hne=>(hoth j (Nat.lt_of_lt_of_le (Nat.lt_of_lt_of_le hj S1.out) NB.size) hne).trans ((NB.block j (Nat.lt_of_lt_of_le hj S1.out)).trans (BW.out j hj))⟩)
 clear ho hb hv hl NB
 go_wp2
 go_ret
 exact Q.out
def Off (ob:Option Nat) (W x:World):Prop:=(∀ j,j<W.heap.size→some j≠ob→x.heap[j]?=W.heap[j]?)∧W.heap.size≤x.heap.size
def Tag (ob:Option Nat) (W:World) (t:TypeId):Prop:=∀ g,ob=some g→∃ d,Box W g d t
theorem tag_own {α:Type} {E:Ek α} {W:World} {B:Nat} {v:Value} {l:List α} (h:Own E W B v l):Tag v.ownBlock W E.t:=by
 intro g hg
 rcases own_open h with⟨rfl,_⟩|⟨g',c',cur,rfl,_,h2,_⟩
 ·cases hg
 ·obtain rfl:g'=g:=by simpa [Value.ownBlock] using hg
  exact⟨cur,h2⟩
theorem Off.own {α:Type} {E:Ek α} {ob:Option Nat} {W x:World} {B:Nat} {v:Value} {l:List α} {t:TypeId} (h:Off ob W x) (ho:Own E W B v l) (hg:Tag ob W t) (hne:(E.t == t)=false):Own E x B v l:=by
 refine⟨ho.1,?_⟩
 rcases ho.2 with h2|⟨g',cap,cur,h1,h2,h3,h4⟩
 ·exact Or.inl h2
 ·refine Or.inr ⟨g',cap,cur,h1,h2,?_,h4⟩
  rw [h.1 g' (lt_of_heap h3) fun e=>by
   obtain⟨d,hd⟩:=hg g' e.symm
   exact box_ne (show Box W g' cur E.t from h3) hd hne rfl]
  exact h3
theorem Off.box {ob:Option Nat} {W x:World} {b:Nat} {cs:Array Value} {s t:TypeId} (h:Off ob W x) (hb:Box W b cs s) (hg:Tag ob W t) (hne:(s == t)=false):Box x b cs s:=(h.1 b hb.lt fun e=>by
 obtain⟨d,hd⟩:=hg b e.symm
 exact box_ne hb hd hne rfl).trans hb
theorem PM.off {w0 wr x:World} {B:Nat} {v:Value} {p:List C5} {ob:Option Nat} {t:TypeId} (h:PM w0 B wr v p) (hb:Off ob wr x) (hg:Tag ob wr t) (hne:(47 == t)=false):PM w0 B x v p:=h.imp id fun h=>hb.own h hg hne
theorem AdM.off {w0 wr x:World} {B:Nat} {y:XAd} {a:Ad} {ob:Option Nat} {t:TypeId} (h:AdM w0 B wr y a) (hb:Off ob wr x) (hg:Tag ob wr t) (hne:(47 == t)=false):AdM w0 B x y a:=⟨h.1,h.2.1,h.2.2.off hb hg hne⟩
theorem EnM.off {w0 wr x:World} {B:Nat} {y:XEn} {a:En} {ob:Option Nat} {t:TypeId} (h:EnM w0 B wr y a) (hb:Off ob wr x) (hg:Tag ob wr t) (hne:(47 == t)=false):EnM w0 B x y a:=⟨h.1,h.2.1,h.2.2.1,h.2.2.2.1,h.2.2.2.2.off hb hg hne⟩
theorem OwM.off {w0 wr x:World} {B:Nat} {y:XOw} {a:Ow} {ob:Option Nat} {t:TypeId} (h:OwM w0 B wr y a) (hb:Off ob wr x) (hg:Tag ob wr t) (hne:(47 == t)=false):OwM w0 B x y a:=⟨h.1,h.2.off hb hg hne⟩
theorem Cp.offD {w0 wr x:World} {B:Nat} {b:Br} {nv av sv ev ov av':Sl} {al:List Ad} (h:Cp w0 B wr b nv av sv ev ov) (hb:Off (slv av).ownBlock wr x) (hx:∃ l,OwnD x B (slv av') l∧All2 (AdM w0 B x) l al):Cp w0 B x { b with adv:=al } nv av' sv ev ov:=by
 obtain⟨l0,hl0,_⟩:=h.adv
 have hg:=tag_own hl0
 exact {
  near:=hb.own h.near hg (by decide)
  seen:=hb.own h.seen hg (by decide)
  adv:=hx
  ent:=by obtain⟨l,h1,h2⟩:=h.ent; exact⟨l,hb.own h1 hg (by decide),h2.mono fun _ _ h=>h.off hb hg (by decide)⟩
  own:=by obtain⟨l,h1,h2⟩:=h.own; exact⟨l,hb.own h1 hg (by decide),h2.mono fun _ _ h=>h.off hb hg (by decide)⟩ }
theorem Cp.offN {w0 wr x:World} {B:Nat} {b:Br} {nv av sv ev ov ev':Sl} {el:List En} (h:Cp w0 B wr b nv av sv ev ov) (hb:Off (slv ev).ownBlock wr x) (hx:∃ l,OwnN x B (slv ev') l∧All2 (EnM w0 B x) l el):Cp w0 B x { b with ent:=el } nv av sv ev' ov:=by
 obtain⟨l0,hl0,_⟩:=h.ent
 have hg:=tag_own hl0
 exact {
  near:=hb.own h.near hg (by decide)
  seen:=hb.own h.seen hg (by decide)
  adv:=by obtain⟨l,h1,h2⟩:=h.adv; exact⟨l,hb.own h1 hg (by decide),h2.mono fun _ _ h=>h.off hb hg (by decide)⟩
  ent:=hx
  own:=by obtain⟨l,h1,h2⟩:=h.own; exact⟨l,hb.own h1 hg (by decide),h2.mono fun _ _ h=>h.off hb hg (by decide)⟩ }
theorem Cp.offJ {w0 wr x:World} {B:Nat} {b:Br} {nv av sv ev ov sv':Sl} {sl:List XID} (h:Cp w0 B wr b nv av sv ev ov) (hb:Off (slv sv).ownBlock wr x) (hx:OwnJ x B (slv sv') sl):Cp w0 B x { b with seen:=sl } nv av sv' ev ov:=by
 have hg:=tag_own h.seen
 exact {
  near:=hb.own h.near hg (by decide)
  seen:=hx
  adv:=by obtain⟨l,h1,h2⟩:=h.adv; exact⟨l,hb.own h1 hg (by decide),h2.mono fun _ _ h=>h.off hb hg (by decide)⟩
  ent:=by obtain⟨l,h1,h2⟩:=h.ent; exact⟨l,hb.own h1 hg (by decide),h2.mono fun _ _ h=>h.off hb hg (by decide)⟩
  own:=by obtain⟨l,h1,h2⟩:=h.own; exact⟨l,hb.own h1 hg (by decide),h2.mono fun _ _ h=>h.off hb hg (by decide)⟩ }
theorem all2_ins {α β:Type} {R:α→β→Prop} {l:List α} {m:List β} (h:All2 R l m) (k:Nat) {a:α} {b:β} (hr:R a b):All2 R (insAt l k a) (insAt m k b) :=
 ((h.take k).append (.cons hr .nil)).append (h.drop k)
theorem keys_eq {w0 wr:World} {B:Nat}:∀ {l:List XAd} {al:List Ad},All2 (AdM w0 B wr) l al→l.map keyD=al.map Ad.id
 | _,_,.nil=>rfl
 | _,_,.cons h t=>by rw [List.map_cons,List.map_cons,keys_eq t]; exact congrArg (·::_) h.1
theorem riseK_map {α:Type} (key:α→XID) (l:List α):RiseK key l↔RiseK (fun x:XID=>x) (l.map key):=by
 unfold RiseK
 rw [List.pairwise_map]
theorem box_setCells {g:Nat} {t:TypeId}:∀ (vs:List Value) (o:Nat) (w:World) (cur:Array Value),Box w g cur t→∃ cur',Box (w.setCells g o vs) g cur' t∧cur'.size=cur.size∧cur'.toList.take o=cur.toList.take o
 | [],o,w,cur,h=>⟨cur,h,rfl,rfl⟩
 | v::r,o,w,cur,h=>by
  obtain⟨cur',h1,h2,h3⟩:=box_setCells r (o+1) (w.setCell ⟨g,o,none⟩ v) _ (box_set (k:=o) h v)
  refine⟨cur',h1,by rw [h2]; simp,?_⟩
  have h4:=congrArg (List.take o) h3
  rw [List.take_take,List.take_take,Nat.min_eq_left (by omega)] at h4
  rw [h4,Array.toList_setIfInBounds,List.take_set_of_le (Nat.le_refl _)]
theorem but_setCells (g:Nat):∀ (vs:List Value) (o:Nat) (w:World),But g w (w.setCells g o vs)
 | [],_,_w=>⟨fun _ _ _=>rfl,Nat.le_refl _⟩
 | v::r,o,w=>(but_cell w g o v).trans (but_setCells g r (o+1) _)
theorem below_setCells {B g:Nat} (hB:B≤g):∀ (vs:List Value) (o:Nat) (W w:World),Below B W w→Below B W (w.setCells g o vs)
 | [],_,_,_,h=>h
 | v::r,o,W,_w,h=>below_setCells hB r (o+1) W _ (h.setCell (p:=⟨g,o,none⟩) hB v)
theorem clear_own {α:Type} {E:Ek α} (K:E.Ok) (hz:∀ v∈E.z.cells.toList,v.oneCell'=true) {W:World} {B g n cap i:Nat} {L:List α} (h:Own E W B (.slice (some ⟨g,0,none⟩) n cap) L) (hi:i<n) (ty:TypeId) :
  ∃ W',(Builtin.clear_ #[E.ts] ty #[.slice (some ⟨g,i * E.n,none⟩) (n-i) (cap-i)]).run Tryz.prog W=.ok (.tuple #[]) W'∧Own E W' B (.slice (some ⟨g,0,none⟩) i cap) (L.take i)∧But g W W'∧(∀ B' W0,B'≤g→Below B' W0 W→Below B' W0 W'):=by
 have hln:=own_row_len h
 rcases own_open h with⟨h1,_⟩|⟨g',cap',cur,h1,h2,h3,h4,h5,h6,h7⟩
 ·cases h1
 ·obtain⟨rfl,_,rfl⟩:g=g'∧n=L.length∧cap=cap':=by simpa using h1
  have hzs:(Builtin.zeroCells E.z.cells (n-i)).toList.length=(n-i) * E.n:=by simp [Builtin.zeroCells,K.zs]
  have h10:i * E.n+(n-i) * E.n=n * E.n:=by rw [← Nat.add_mul,Nat.add_sub_cancel' (Nat.le_of_lt hi)]
  have h11:n * E.n≤cap * E.n:=Nat.mul_le_mul_right _ (by omega)
  have hone:∀ v∈(Builtin.zeroCells E.z.cells (n-i)).toList,v.oneCell'=true:=by
   intro v hv
   simp only [Builtin.zeroCells,Array.toList_map,List.mem_map] at hv
   obtain⟨j,_,rfl⟩:=hv
   have hp:=K.pos
   have hlt:j % E.z.cells.size<E.z.cells.size:=Nat.mod_lt _ (by rw [K.zs]; exact hp)
   refine hz _ ?_
   rw [getElem!_pos E.z.cells (j % E.z.cells.size) hlt,Array.mem_toList_iff]
   exact Array.getElem_mem hlt
  have hst:=run_storeCells_cells (P:=Tryz.prog) g (i * E.n) (Builtin.zeroCells E.z.cells (n-i)).toList 0 W (by
   intro j hj
   rw [hzs] at hj
   rw [Nat.add_zero,h3.cell]
   have:i * E.n+j<cur.size:=by rw [h6]; omega
   simp [this]) (fun j _=>h3.fr _) hone
  rw [Nat.add_zero] at hst
  obtain⟨ii,i1,i2,i3,i4⟩:=K.info
  obtain⟨cur',c1,c2,c3⟩:=box_setCells (Builtin.zeroCells E.z.cells (n-i)).toList (i * E.n) W cur h3
  refine⟨W.setCells g (i * E.n) (Builtin.zeroCells E.z.cells (n-i)).toList,?_,?_,but_setCells _ _ _ _,fun B' W0 hB hb=>below_setCells hB _ _ _ _ hb⟩
  ·obtain⟨m,hm⟩:∃ m,n-i=m+1:=⟨n-i-1,by omega⟩
   rw [hm] at hst ⊢
   have hv:∀ w,(zeroValue E.t).run Tryz.prog w=.ok E.z w:=fun w=>by simp [go_sem,zeroValue,typeInfo,i1,i2]
   simp [Builtin.clear_,run_underlying K.hu,hv,hst]
  ·refine own_shut K (by rw [List.length_take]; omega) h2 c1 (by omega) h5 (by rw [c2]; exact h6) ?_
   rw [c3]
   have h8:=congrArg (List.take (i * E.n)) h7
   rw [List.take_take,flat_take K,Nat.min_eq_left (by rw [← hln] at hi; exact Nat.mul_le_mul_right _ (Nat.le_of_lt hi))] at h8
   exact h8
theorem findI_neg {α:Type} {key:α→XID} {l:List α} {x:XID} (h:findI (l.map key) x=-1):∀ (j:Nat) (y:α),l[j]?=some y→key y≠x:=by
 intro j y hj hy
 have h1:=findI_in (l.map key) x
 rw [h] at h1
 have:x∈l.map key:=List.mem_map.2 ⟨y,List.mem_of_getElem? hj,hy⟩
 simp [this] at h1
theorem findI_get:∀ {l:List XID} {x:XID} {k:Nat},findI l x=k→l[k]?=some x∧∀ (j:Nat) (y:XID),j<k→l[j]?=some y→y≠x
 | [],x,k,h=>by simp [findI] at h <;> omega
 | a::l,x,k,h=>by
  unfold findI at h
  by_cases hax:a=x
  ·rw [if_pos hax] at h
   obtain rfl:k=0:=by omega
   exact⟨by simpa using hax,fun j y hj=>by omega⟩
  ·rw [if_neg hax] at h
   by_cases h2:findI l x=-1
   ·rw [if_pos h2] at h; omega
   ·rw [if_neg h2] at h
    cases k with
    | zero=>have:=findI_bd l x; omega
    | succ k =>
     obtain⟨h3,h4⟩:=findI_get (l:=l) (x:=x) (k:=k) (by omega)
     refine⟨by simpa using h3,fun j y hj hy=>?_⟩
     cases j with
     | zero =>
      obtain rfl:a=y:=by simpa using hy
      exact hax
     | succ j=>exact h4 j y (by omega) (by simpa using hy)
def lrn4V (B:Nat) (b1 _b2:Nat) (_me:Int) (_z1:Value) (o2:Option Addr) (n2 c2:Nat) (_z3 _z4 _z5:Value) (y1 y2:Int) (yo:Option Addr) (yn yc:Nat) (y4:Int) (p:List C5) (i:Nat) (v:Value) (x:World):Prop :=
 match i with
 | 0=>v=.pointer (some ⟨b1,2,none⟩)
 | 1=>v=.slice o2 n2 c2
 | 2=>v=.agg #[.int .i64 y1,.int .i64 y2,.slice yo yn yc,.int .i64 y4]
 | 3=>∃ s:Sl,v=valD (y1,y2,s,y4)∧OwnC x B (slv s) p
 | _=>True
noncomputable def lrn4C:Code:=((Tryz.f21.body.bind (findRegion 4)).getD .skip)
theorem lrn4V_on (B:Nat) (b1 b2:Nat) (me:Int) (z1:Value) (o2:Option Addr) (n2 c2:Nat) (z3 z4 z5:Value) (y1 y2:Int) (yo:Option Addr) (yn yc:Nat) (y4:Int) (p:List C5) (i:Nat) (v:Value) (x x':World) (h:lrn4V B b1 b2 me z1 o2 n2 c2 z3 z4 z5 y1 y2 yo yn yc y4 p i v x) (hb:Below x.heap.size x x'):lrn4V B b1 b2 me z1 o2 n2 c2 z3 z4 z5 y1 y2 yo yn yc y4 p i v x':=by
 by_cases hi:i<4
 ·rcases (by omega:i=0∨i=1∨i=2∨i=3) with rfl|rfl|rfl|rfl
  ·exact h
  ·exact h
  ·exact h
  ·obtain⟨s,h1,h2⟩:=h; exact⟨s,h1,Bk.own_on h2 hb⟩
 ·unfold lrn4V
  split <;> first | omega | trivial
theorem lrn4 (Q:Exit→Act→World→Prop) (W:World) (B0:Nat) (l:List XAd) (b1 b2:Nat) (me:Int) (z1:Value) (o2:Option Addr) (n2 c2:Nat) (z3 z4 z5:Value) (y1 y2:Int) (yo:Option Addr) (yn yc:Nat) (y4:Int) (p:List C5) (u0 u1 u4 u5 u6 u7 u8 u9 u10 u11 u12 u13 u14 u15 u16 u17 u18 u19 u20 u21 u22 u23 u24 u25:Value)
  (h1:Box W b1 #[.int .i64 me,z1,.slice o2 n2 c2,z3,z4,z5] 31) (h2:Box W b2 #[.int .i64 y1,.int .i64 y2,.slice yo yn yc,.int .i64 y4] 41) (ho:OwnD W B0 (.slice o2 n2 c2) l) (hr:RiseK keyD l) (hl:l.length≤900) (hB:B0≤W.heap.size) (hb0:b1<B0) (hp:RowC W (.slice yo yn yc) p) (lp:p.length≤900)
  (hQ:∀ (w1:World) (v13 v14 v15 v16 v17 v18:Value) (s1:Option Addr) (s2 s3:Nat) (t1:Option Addr) (t2 t3:Nat),Box w1 b1 #[.int .i64 me,z1,.slice o2 n2 c2,z3,z4,z5] 31→OwnD w1 B0 (.slice t1 t2 t3) (insAt l (placeK keyD l (y1,y2)) (y1,y2,(s1,s2,s3),y4))→OwnC w1 W.heap.size (.slice s1 s2 s3) p→Off (slv (o2,n2,c2)).ownBlock W w1→Below B0 W w1→Q .normal ⟨(u0::u1::.pointer (some ⟨b1,0,none⟩)::.pointer (some ⟨b2,0,none⟩)::u4::u5::u6::u7::u8::u9::u10::u11::u12::v13::v14::v15::v16::v17::v18::u19::u20::u21::u22::u23::u24::u25::[]).toArray,[]⟩ (w1.setCell ⟨b1,2,none⟩ (.slice t1 t2 t3))) :
  Code.wp Tryz.prog lrn4C Q ⟨(u0::u1::.pointer (some ⟨b1,0,none⟩)::.pointer (some ⟨b2,0,none⟩)::u4::u5::u6::u7::u8::u9::u10::u11::u12::u13::u14::u15::u16::u17::u18::u19::u20::u21::u22::u23::u24::u25::[]).toArray,[]⟩ W:=by
 have HQ:=Lib.hid hQ
 have H1:=Lib.hid h1
 have H2:=Lib.hid h2
 have HO:=Lib.hid ho
 have HR:=Lib.hid hr
 have HL:=Lib.hid hl
 have HB:=Lib.hid hB
 have H0:=Lib.hid hb0
 have HP:=Lib.hid hp
 have LP:=Lib.hid lp
 clear hQ h1 h2 ho hr hl hB hb0 hp lp
 have stab:=lrn4V_on W.heap.size b1 b2 me z1 o2 n2 c2 z3 z4 z5 y1 y2 yo yn yc y4 p
 unfold lrn4C
 conv=>arg 2; whnf
 have nd:∀ j,(j<13∨17≤j)→∀ i,i<4→(fun i=>13+i) i≠j:=by
  intro j hj i hi h
  simp only at h
  omega
 refine Rg.region_live 7 4 (fun i=>13+i) (fun _=>4) (lrn4V W.heap.size b1 b2 me z1 o2 n2 c2 z3 z4 z5 y1 y2 yo yn yc y4 p) (by kernel_rfl) (by kernel_rfl) rfl (by decide) (fun i j _ _ h=>by have h2:13+i=13+j:=h; omega) (fun i hi=>by show 13+i<26; omega) ?_ (fun _=>Rg.hall_of 14 (by kernel_rfl)) ?_ ?_
 ·intro i o hi ho a x D hnd hc hD hb seen K hK
  clear HQ
  rcases (by omega:i=0∨i=1∨i=2∨i=3) with rfl|rfl|rfl|rfl
  ·obtain rfl:=Option.some.inj ho
   have e2:a.eval (.tmp 2)=.pointer (some ⟨b1,0,none⟩):=seen.kp 2 _ (nd 2 (by omega)) rfl
   exact Rg.op_value rfl rfl (Rg.ex_field a.eval _ 31 (.tmp 2) 2 rfl (by rw [e2]; simp [go_sem])) (hK _ _ rfl (Below.refl _ _) fun _ _ _ _ _ _ _ h=>h)
  ·obtain rfl:=Option.some.inj ho
   have e13:a.eval (.tmp 13)=.pointer (some ⟨b1,2,none⟩):=seen.at_ ⟨0,.data⟩ (by simp) rfl (Or.inr (by decide))
   have y2:=(H1.out.on hb).cell 2
   simp only [List.getElem?_toArray,List.getElem?_cons_zero,List.getElem?_cons_succ] at y2
   exact Rg.op_value rfl rfl (Rg.ex_load a.eval _ 26 (.tmp 13) rfl (by rw [e13]; simp [go_sem,y2])) (hK _ _ rfl (Below.refl _ _) fun _ _ _ _ _ _ _ h=>h)
  ·obtain rfl:=Option.some.inj ho
   have e3:a.eval (.tmp 3)=.pointer (some ⟨b2,0,none⟩):=seen.kp 3 _ (nd 3 (by omega)) rfl
   obtain⟨y0,y1,y2,y3⟩:=(H2.out.on hb).cs4
   exact Rg.op_value rfl rfl (Rg.ex_load a.eval _ 41 (.tmp 3) rfl (by rw [e3]; simp [go_sem,y0,y1,y2,y3])) (hK _ _ rfl (Below.refl _ _) fun _ _ _ _ _ _ _ h=>h)
  ·obtain rfl:=Option.some.inj ho
   have e15:a.eval (.tmp 15)=.agg #[.int .i64 y1,.int .i64 y2,.slice yo yn yc,.int .i64 y4]:=seen.at_ ⟨2,.data⟩ (by simp) rfl (Or.inr (by decide))
   exact Rg.op_call rfl rfl (Rw.ex_call1 a.eval _ (.tmp 15) 41 85 rfl e15 rfl _ (call_fn Tryz.func85 rfl rfl _ _)) (cpAd_any (y1,y2,(yo,yn,yc),y4) p x (HP.out.on hb) LP.out) fun e w1 h=>by
    obtain⟨⟨s,rfl,h1⟩,h3⟩:=h
    exact⟨_,rfl,hK _ _ ⟨s,rfl,own_fewer h1 hb.size⟩ (h3.mono hb.size) fun j u hj _ _ _ hne h=>stab j u _ _ h h3⟩
 ·intro kk o h1 h2 ho
  rcases (by omega:kk=5∨kk=6) with rfl|rfl
  ·obtain rfl:=Option.some.inj ho
   exact⟨⟨4,.phase⟩,by simp,rfl,rfl⟩
  ·obtain rfl:=Option.some.inj ho
   exact⟨⟨5,.data⟩,by simp,rfl,rfl⟩
 ·intro a w' df sz kp ⟨vs,hv⟩ hb
  have sz':a.tmps.size=26:=sz
  have g2:a.tmps[2]?=some (.pointer (some ⟨b1,0,none⟩)):=(kp 2 (nd 2 (by omega))).trans rfl
  have g14:a.tmps[14]?=some (.slice o2 n2 c2):=by
   have h:vs 1=.slice o2 n2 c2:=(hv 1 (by omega)).2 (by decide)
   rw [← h]
   exact (hv 1 (by omega)).1
  obtain⟨⟨s1,s2,s3⟩,hs,hc⟩:=(hv 3 (by omega)).2 (by decide)
  have g16:a.tmps[16]?=some (valD (y1,y2,(s1,s2,s3),y4)):=((hv 3 (by omega)).1).trans (congrArg some hs)
  have B1:=H1.out.on hb
  show Rg.SeqFrom _ _ _ 3 4 a w'
  simp only [Rg.SeqFrom]
  refine Rg.op_call rfl rfl (ex_call3g a.eval _ (.tmp 14) (.tmp 16) (.func 41) 26 41 91 84 rfl (Rg.eval_some g14) (Rg.eval_some g16) rfl rfl _ (call_fn Tryz.func84 rfl rfl _ _)) (putD_any B0 (o2,n2,c2) l (y1,y2,(s1,s2,s3),y4) w' (Bk.own_on HO.out hb) HR.out HL.out (Nat.le_trans HB.out hb.size)) fun e w1 h=>?_
  obtain⟨⟨⟨t1,t2,t3⟩,rfl,hown⟩,hbel,hoth⟩:=h
  refine⟨_,rfl,?_⟩
  have hp17:(a.put (some 17) (.slice t1 t2 t3)).tmps[17]?=some (.slice t1 t2 t3):=by simp [Act.put,sz']
  show Go.wpOp _ _ _ 5 _ (a.put (some 17) (.slice t1 t2 t3)) _
  refine Rg.op_value rfl rfl (Rg.ex_field _ _ 31 (.tmp 2) 2 rfl (v:=.pointer (some ⟨b1,2,none⟩)) (by rw [Rg.eval_some ((Rg.get_put _ 17 _ 2 (by decide)).trans g2)]; simp [go_sem])) ?_
  have hp18:((a.put (some 17) (.slice t1 t2 t3)).put (some 18) (.pointer (some ⟨b1,2,none⟩))).tmps[18]?=some (.pointer (some ⟨b1,2,none⟩)):=by simp [Act.put,sz']
  show Go.wpOp _ _ _ 6 _ ((a.put (some 17) (.slice t1 t2 t3)).put (some 18) (.pointer (some ⟨b1,2,none⟩))) _
  have B2:Box w1 b1 _ _:=(hbel.block b1 H0.out).trans B1
  have cx:=B2.cell 2
  have fx:=B2.fr 2
  simp only [List.getElem?_toArray,List.getElem?_cons_zero,List.getElem?_cons_succ] at cx
  refine Rg.op_store 26 (.tmp 18) (.tmp 17) rfl rfl rfl rfl (Rg.eval_some hp18) (Rg.eval_some ((Rg.get_put _ 18 _ 17 (by decide)).trans hp17)) (w':=w1.setCell ⟨b1,2,none⟩ (.slice t1 t2 t3)) (by simp [go_sem,cx,fx]) ?_
  have of1:Off (slv (o2,n2,c2)).ownBlock w' w1:=⟨hoth,hbel.size⟩
  have of2:Off (slv (o2,n2,c2)).ownBlock W w1:=⟨fun j hj hne=>(hoth j (Nat.lt_of_lt_of_le hj hb.size) hne).trans (hb.block j hj),Nat.le_trans hb.size hbel.size⟩
  have kp2:∀ j,(j<13∨19≤j)→((a.put (some 17) (.slice t1 t2 t3)).put (some 18) (.pointer (some ⟨b1,2,none⟩))).tmps[j]?=(u0::u1::.pointer (some ⟨b1,0,none⟩)::.pointer (some ⟨b2,0,none⟩)::u4::u5::u6::u7::u8::u9::u10::u11::u12::u13::u14::u15::u16::u17::u18::u19::u20::u21::u22::u23::u24::u25::[])[j]?:=fun j hj=>(Rg.get_put _ 18 _ j (by omega)).trans ((Rg.get_put _ 17 _ j (by omega)).trans ((kp j (nd j (by omega))).trans List.getElem?_toArray))
  obtain⟨mid,hmid,hfr⟩:=Rg.frame_mid (a:=(a.put (some 17) (.slice t1 t2 t3)).put (some 18) (.pointer (some ⟨b1,2,none⟩))) 13 6 df (by simp [Rg.size_put,sz']) (by simp) kp2
  show Q .normal ((a.put (some 17) (.slice t1 t2 t3)).put (some 18) (.pointer (some ⟨b1,2,none⟩))) _
  rw [hfr]
  match mid,hmid with
  | [v13,v14,v15,v16,v17,v18],_ =>
   exact HQ.out w1 _ _ _ _ _ _ s1 s2 s3 t1 t2 t3 B2 hown (of1.own hc (tag_own (Bk.own_on HO.out hb)) (by decide)) of2 ((hb.mono HB.out).trans hbel)
abbrev RiseA (l:List Ad):Prop:=RiseK Ad.id l
abbrev RiseI (l:List XID):Prop:=RiseK (fun x:XID=>x) l
def NearOwn (W:World) (nv:Sl) (l:List Int):Prop:=∃ B,OwnI W B (slv nv) l
theorem NearOwn.on {W W':World} {nv:Sl} {l:List Int} (h:NearOwn W nv l) (hb:Below W.heap.size W W'):NearOwn W' nv l:=by obtain⟨B,h⟩:=h; exact⟨B,Bk.own_on h hb⟩
def LearnQ (W:World) (P:Prop) (r:Br×Bool) (e:Ending) (w':World):Prop:=(∃ nv av sv ev ov:Sl,e=.returned (.tuple #[brv r.1.me nv av sv ev ov,.bool r.2])∧BrIn w' r.1 nv av sv ev ov∧(P→NearOwn w' nv r.1.near))∧Below W.heap.size W w'
theorem learnB_in {b:Br} {a:Ad} (h:a.id∈b.seen):learnB b a=(b,false):=by unfold learnB; rw [if_pos h]
theorem learnB_out {b:Br} {a:Ad} (h:¬ a.id∈b.seen):learnB b a=({ b with seen:=insAt b.seen (placeI b.seen a.id) a.id,adv:=insAt b.adv (placeI (b.adv.map Ad.id) a.id) a },true):=by unfold learnB; rw [if_neg h]
theorem learn_any (b:Br) (a:Ad) (nv av sv ev ov:Sl) (x:XAd) (w:World) (h:BrIn w b nv av sv ev ov) (ha:AdIn w x a) (hf:Few b) (hp:FewP b) (hla:a.p.length≤900) (hr1:RiseI b.seen) (hr2:RiseA b.adv) :
  Calls Tryz.prog 21 #[brv b.me nv av sv ev ov,valD x] w (LearnQ w (NearOwn w nv b.near) (learnB b a)):=by
 obtain⟨no,nn,nc⟩:=nv
 obtain⟨ao,an,ac⟩:=av
 obtain⟨so,sn,sc⟩:=sv
 obtain⟨eo,en,ec⟩:=ev
 obtain⟨oo,on_,oc⟩:=ov
 obtain⟨y1,y2,⟨yo,yn,yc⟩,y4⟩:=x
 obtain⟨h0,h1,h2⟩:=two_new w #[.int .i64 b.me,.slice no nn nc,.slice ao an ac,.slice so sn sc,.slice eo en ec,.slice oo on_ oc] #[.int .i64 y1,.int .i64 y2,.slice yo yn yc,.int .i64 y4] 31 41
 have h3:=newB ((w.alloc (.cells #[.int .i64 b.me,.slice no nn nc,.slice ao an ac,.slice so sn sc,.slice eo en ec,.slice oo on_ oc] 31)).alloc (.cells #[.int .i64 y1,.int .i64 y2,.slice yo yn yc,.int .i64 y4] 41)) (.cells #[.int .i64 0,.slice none 0 0,.slice none 0 0,.slice none 0 0,.slice none 0 0,.slice none 0 0] 31)
 have h4:=box_new ((w.alloc (.cells #[.int .i64 b.me,.slice no nn nc,.slice ao an ac,.slice so sn sc,.slice eo en ec,.slice oo on_ oc] 31)).alloc (.cells #[.int .i64 y1,.int .i64 y2,.slice yo yn yc,.int .i64 y4] 41)) #[.int .i64 0,.slice none 0 0,.slice none 0 0,.slice none 0 0,.slice none 0 0,.slice none 0 0] 31
 have hsz:((w.alloc (.cells #[.int .i64 b.me,.slice no nn nc,.slice ao an ac,.slice so sn sc,.slice eo en ec,.slice oo on_ oc] 31)).alloc (.cells #[.int .i64 y1,.int .i64 y2,.slice yo yn yc,.int .i64 y4] 41)).heap.size=w.heap.size+1+1:=by simp
 rw [hsz] at h4
 have BB:=Lib.hid (h0.trans (h3.mono h0.size))
 have X1:=Lib.hid (h1.on h3)
 have X2:=Lib.hid (h2.on h3)
 have X3:=Lib.hid h4
 have HH:=Lib.hid h
 have HA:=Lib.hid ha
 have HF:=Lib.hid hf
 have HP:=Lib.hid hp
 have LA:=Lib.hid hla
 have R1:=Lib.hid hr1
 have R2:=Lib.hid hr2
 have ei:a.id=(y1,y2):=ha.1.symm
 have SW:=Lib.hid (aseen_any b.me (.slice no nn nc) (.slice ao an ac) (.slice eo en ec) (.slice oo on_ oc) (so,sn,sc) b.seen (y1,y2) _ (h.seen.on BB.out))
 obtain⟨r,hr⟩:∃ r,decide ((y1,y2)∈b.seen)=r:=⟨_,rfl⟩
 rw [hr] at SW
 have HR:=Lib.hid hr
 have EI:=Lib.hid ei
 obtain⟨x0,x1,x2,x3,x4,x5⟩:=X1.out.cs6
 obtain⟨d0,d1,d2,d3⟩:=X2.out.cs4
 obtain⟨z0,z1,z2,z3,z4,z5⟩:=X3.out.cs6
 obtain⟨t0,t1,t2,t3,t4,t5⟩:=X3.out.fs6
 have zz:=X3.out.lt
 clear h0 h1 h2 h3 h4 hsz h ha hf hp hla hr1 hr2 hr ei
 go_enter Tryz.func21,Tryz.ntmps21
 go_wp2_with fail
 generalize ((w.alloc (.cells #[.int .i64 b.me,.slice no nn nc,.slice ao an ac,.slice so sn sc,.slice eo en ec,.slice oo on_ oc] 31)).alloc (.cells #[.int .i64 y1,.int .i64 y2,.slice yo yn yc,.int .i64 y4] 41)).alloc (.cells #[.int .i64 0,.slice none 0 0,.slice none 0 0,.slice none 0 0,.slice none 0 0,.slice none 0 0] 31)=W at *
 refine SW.out.mono ?_
 rintro e1 w1 ⟨rfl,hb⟩
 have B1:=Lib.hid (BB.out.trans (hb.mono BB.out.size))
 have Y1:=X1.out.on hb
 have Y2:=X2.out.on hb
 have Y3:=X3.out.on hb
 clear SW hb x0 x1 x2 x3 x4 x5 d0 d1 d2 d3 z0 z1 z2 z3 z4 z5 t0 t1 t2 t3 t4 t5 zz X1 X2 X3
 obtain⟨x0,x1,x2,x3,x4,x5⟩:=Y1.cs6
 obtain⟨z0,z1,z2,z3,z4,z5⟩:=Y3.cs6
 obtain⟨t0,t1,t2,t3,t4,t5⟩:=Y3.fs6
 have zz:=Y3.lt
 cases r
 ·have nin:¬ a.id∈b.seen:=by rw [EI.out]; exact of_decide_eq_false HR.out
  have LQ:=Lib.hid (learnB_out nin)
  have Z1:=Lib.hid Y1
  have Z2:=Lib.hid Y2
  have Z3:=Lib.hid Y3
  have L1:=Lib.hid Y1.lt
  have L3:=Lib.hid (show w.heap.size+1<w1.heap.size from Y2.lt)
  clear z0 z1 z2 z3 z4 z5 t0 t1 t2 t3 t4 t5 zz nin
  go_wp2_with fail
  refine (acopy_any b (no,nn,nc) (ao,an,ac) (so,sn,sc) (eo,en,ec) (oo,on_,oc) w w1 B1.out HH.out HF.out HP.out).mono ?_
  rintro e2 w2 ⟨⟨⟨p1,q1,s1⟩,⟨p2,q2,s2⟩,⟨p3,q3,s3⟩,⟨p4,q4,s4⟩,⟨p5,q5,s5⟩,rfl,cp⟩,hb2⟩
  have V1:=Z1.out.on hb2
  have V2:=Lib.hid (Z2.out.on hb2)
  have V3:=Lib.hid (Z3.out.on hb2)
  clear x0 x1 x2 x3 x4 x5
  obtain⟨x0,x1,x2,x3,x4,x5⟩:=V1.cs6
  obtain⟨t0,t1,t2,t3,t4,t5⟩:=V1.fs6
  have zz:=V1.lt
  have FB:=Lib.hid (setB_box V1 (.int .i64 b.me) (.slice p1 q1 s1) (.slice p2 q2 s2) (.slice p3 q3 s3) (.slice p4 q4 s4) (.slice p5 q5 s5))
  have FC:=Lib.hid (cp.but (but_setB w2 w.heap.size (.int .i64 b.me) (.slice p1 q1 s1) (.slice p2 q2 s2) (.slice p3 q3 s3) (.slice p4 q4 s4) (.slice p5 q5 s5)) V1)
  have FL:=Lib.hid (setB_below (b:=w.heap.size) (B1.out.trans (hb2.mono B1.out.size)) (Nat.le_refl _) (.int .i64 b.me) (.slice p1 q1 s1) (.slice p2 q2 s2) (.slice p3 q3 s3) (.slice p4 q4 s4) (.slice p5 q5 s5))
  have F2:=Lib.hid ((but_setB w2 w.heap.size (.int .i64 b.me) (.slice p1 q1 s1) (.slice p2 q2 s2) (.slice p3 q3 s3) (.slice p4 q4 s4) (.slice p5 q5 s5)).box V2.out (by omega))
  have F3:=Lib.hid ((but_setB w2 w.heap.size (.int .i64 b.me) (.slice p1 q1 s1) (.slice p2 q2 s2) (.slice p3 q3 s3) (.slice p4 q4 s4) (.slice p5 q5 s5)).box V3.out (by omega))
  have SZ:=Lib.hid (show w1.heap.size≤(setB w2 w.heap.size (.int .i64 b.me) (.slice p1 q1 s1) (.slice p2 q2 s2) (.slice p3 q3 s3) (.slice p4 q4 s4) (.slice p5 q5 s5)).heap.size by have:=hb2.size; simp; omega)
  have L2:=Lib.hid (show w.heap.size<w1.heap.size from L1.out)
  clear V1 V2 V3 cp hb2 Z1 Z2 Z3 L1
  go_upto_region 4 with fail
  clear x0 x1 x2 x3 x4 x5 t0 t1 t2 t3 t4 t5 zz
  unfold setB at FB FC FL F2 F3 SZ
  generalize ((((((w2).setCell ⟨w.heap.size,0,none⟩ (.int .i64 b.me)).setCell ⟨w.heap.size,1,none⟩ (.slice p1 q1 s1)).setCell ⟨w.heap.size,2,none⟩ (.slice p2 q2 s2)).setCell ⟨w.heap.size,3,none⟩ (.slice p3 q3 s3)).setCell ⟨w.heap.size,4,none⟩ (.slice p4 q4 s4)).setCell ⟨w.heap.size,5,none⟩ (.slice p5 q5 s5)=w3 at *
  obtain⟨la,hla1,hla2⟩:=FC.out.adv
  have HL1:=Lib.hid hla1
  have HL2:=Lib.hid hla2
  have KE:=Lib.hid (keys_eq hla2)
  clear hla1 hla2
  refine lrn4 _ w3 w1.heap.size la w.heap.size (w.heap.size+1) b.me (.slice p1 q1 s1) p2 q2 s2 (.slice p3 q3 s3) (.slice p4 q4 s4) (.slice p5 q5 s5) y1 y2 yo yn yc y4 a.p _ _ _ _ _ _ _ _ _ _ _ _ _ _ _ _ _ _ _ _ _ _ _ _ FB.out F2.out HL1.out ?_ ?_ SZ.out L2.out (HA.out.2.2.on FL.out) LA.out ?_
  ·rw [riseK_map,KE.out,← riseK_map]; exact R2.out
  ·rw [HL2.out.len]; exact HF.out.adv
  intro w4 v13 v14 v15 v16 v17 v18 s1' s2' s3' t1 t2 t3 hbx hown hc hoff hbel
  have CP2:=Lib.hid (FC.out.offD (av':=(t1,t2,t3)) (al:=insAt b.adv (placeI (b.adv.map Ad.id) a.id) a) hoff ⟨_,hown,by
   have hg:=tag_own HL1.out
   have h2:=HL2.out.mono fun _ _ q=>q.off hoff hg (by decide)
   have hk:placeK keyD la (y1,y2)=placeI (b.adv.map Ad.id) a.id:=by rw [placeK_map,KE.out,EI.out]
   rw [← hk]
   exact all2_ins h2 _ ⟨HA.out.1,HA.out.2.1,Or.inr (own_fewer hc SZ.out)⟩⟩)
  have G2:=Lib.hid (show Box w4 (w.heap.size+1) _ _ from (hbel.block _ L3.out).trans F2.out)
  have G3:=Lib.hid (show Box w4 (w.heap.size+1+1) _ _ from hoff.box F3.out (tag_own HL1.out) (by decide))
  have G1:=Lib.hid (show Box (w4.setCell ⟨w.heap.size,2,none⟩ (.slice t1 t2 t3)) w.heap.size #[.int .i64 b.me,.slice p1 q1 s1,.slice t1 t2 t3,.slice p3 q3 s3,.slice p4 q4 s4,.slice p5 q5 s5] 31 by simpa using box_set (k:=2) hbx (.slice t1 t2 t3))
  have CP3:=Lib.hid (CP2.out.but (but_cell w4 w.heap.size 2 (.slice t1 t2 t3)) hbx)
  have G2':=Lib.hid ((but_cell w4 w.heap.size 2 (.slice t1 t2 t3)).box G2.out (by omega))
  have G3':=Lib.hid ((but_cell w4 w.heap.size 2 (.slice t1 t2 t3)).box G3.out (by omega))
  have GL:=Lib.hid (show Below w.heap.size w (w4.setCell ⟨w.heap.size,2,none⟩ (.slice t1 t2 t3)) from (FL.out.trans (hbel.mono (Nat.le_of_lt L2.out))).setCell (p:=⟨w.heap.size,2,none⟩) (Nat.le_refl _) _)
  have GZ:=Lib.hid (show w1.heap.size≤(w4.setCell ⟨w.heap.size,2,none⟩ (.slice t1 t2 t3)).heap.size by have:=SZ.out; have:=hbel.size; simp; omega)
  clear hbx hown hc hoff hbel CP2 G2 G3 FB FC F2 F3 FL SZ HL1 HL2 KE
  generalize w4.setCell ⟨w.heap.size,2,none⟩ (.slice t1 t2 t3)=w5 at *
  have x3:=G1.out.cell 3
  have d1:=G2'.out.cell 1
  have d0:=G2'.out.cell 0
  simp only [List.getElem?_toArray,List.getElem?_cons_zero,List.getElem?_cons_succ] at x3 d0 d1
  go_wp2_with fail
  refine (putJ_any w1.heap.size (p3,q3,s3) b.seen (y1,y2) w5 CP3.out.seen R1.out HF.out.seen GZ.out).mono ?_
  rintro e3 w6 ⟨⟨⟨r1,r2,r3⟩,rfl,hown⟩,hbel,hoth⟩
  have hoff:Off (slv (p3,q3,s3)).ownBlock w5 w6:=⟨hoth,hbel.size⟩
  have CP4:=Lib.hid (CP3.out.offJ (sv':=(r1,r2,r3)) (sl:=insAt b.seen (placeI b.seen a.id) a.id) hoff (by
   have hk:placeK keyJ b.seen (keyJ (y1,y2))=placeI b.seen a.id:=by rw [placeK_map,EI.out]; simp
   rw [← hk,EI.out]
   exact hown))
  have hg:=tag_own CP3.out.seen
  have K1:=hoff.box G1.out hg (by decide)
  have K3:=hoff.box G3'.out hg (by decide)
  have KL:=GL.out.trans (hbel.mono (Nat.le_of_lt L2.out))
  have M1:=Lib.hid (show Box (w6.setCell ⟨w.heap.size,3,none⟩ (.slice r1 r2 r3)) w.heap.size #[.int .i64 b.me,.slice p1 q1 s1,.slice t1 t2 t3,.slice r1 r2 r3,.slice p4 q4 s4,.slice p5 q5 s5] 31 by simpa using box_set (k:=3) K1 (.slice r1 r2 r3))
  have M3:=Lib.hid ((but_cell w6 w.heap.size 3 (.slice r1 r2 r3)).box K3 (by omega))
  have MC:=Lib.hid (CP4.out.but (but_cell w6 w.heap.size 3 (.slice r1 r2 r3)) K1)
  have ML:=Lib.hid (show Below w.heap.size w (w6.setCell ⟨w.heap.size,3,none⟩ (.slice r1 r2 r3)) from KL.setCell (p:=⟨w.heap.size,3,none⟩) (Nat.le_refl _) _)
  clear x3 d0 d1
  have x3:=K1.cell 3
  have t3:=K1.fr 3
  have zz:=K1.lt
  simp only [List.getElem?_toArray,List.getElem?_cons_zero,List.getElem?_cons_succ] at x3
  clear hown hbel hoth hoff hg K1 K3 KL CP4 CP3 G1 G2' G3' GL GZ
  go_upto_region 6 with fail
  clear x3 t3 zz
  generalize w6.setCell ⟨w.heap.size,3,none⟩ (.slice r1 r2 r3)=w7 at *
  have U1:=M1.out
  have U3:=M3.out
  obtain⟨x0,x1,x2,x3,x4,x5⟩:=U1.cs6
  obtain⟨z0,z1,z2,z3,z4,z5⟩:=U3.cs6
  obtain⟨f0,f1,f2,f3,f4,f5⟩:=U3.fs6
  have zz:=U3.lt
  have FB:=Lib.hid (setB_box U3 (.int .i64 b.me) (.slice p1 q1 s1) (.slice t1 t2 t3) (.slice r1 r2 r3) (.slice p4 q4 s4) (.slice p5 q5 s5))
  have FC:=Lib.hid (MC.out.but (but_setB w7 (w.heap.size+1+1) (.int .i64 b.me) (.slice p1 q1 s1) (.slice t1 t2 t3) (.slice r1 r2 r3) (.slice p4 q4 s4) (.slice p5 q5 s5)) U3)
  have FL:=Lib.hid (setB_below (b:=w.heap.size+1+1) ML.out (by omega) (.int .i64 b.me) (.slice p1 q1 s1) (.slice t1 t2 t3) (.slice r1 r2 r3) (.slice p4 q4 s4) (.slice p5 q5 s5))
  clear U1 U3 M1 M3 MC ML
  go_wp2_with fail
  obtain⟨v0,v1,v2,v3,v4,v5⟩:=FB.out.cs6
  refine bodyPost_ret (v:=.tuple #[.agg #[.int .i64 b.me,.slice p1 q1 s1,.slice t1 t2 t3,.slice r1 r2 r3,.slice p4 q4 s4,.slice p5 q5 s5],.bool true]) (by simp [results,Tryz.results21,go_sem,v0,v1,v2,v3,v4,v5]) rfl ?_
  rw [LQ.out]
  exact⟨⟨(p1,q1,s1),(t1,t2,t3),(r1,r2,r3),(p4,q4,s4),(p5,q5,s5),rfl,FC.out.br FL.out,fun _=>⟨_,FC.out.near⟩⟩,FL.out⟩
 ·have hin:a.id∈b.seen:=by rw [EI.out]; exact of_decide_eq_true HR.out
  have LQ:=Lib.hid (learnB_in hin)
  have FB:=Lib.hid (setB_box Y3 (.int .i64 b.me) (.slice no nn nc) (.slice ao an ac) (.slice so sn sc) (.slice eo en ec) (.slice oo on_ oc))
  have FL:=Lib.hid (setB_below (b:=w.heap.size+1+1) B1.out (by omega) (.int .i64 b.me) (.slice no nn nc) (.slice ao an ac) (.slice so sn sc) (.slice eo en ec) (.slice oo on_ oc))
  clear hin Y1 Y2 Y3
  go_wp2_with fail
  obtain⟨v0,v1,v2,v3,v4,v5⟩:=FB.out.cs6
  refine bodyPost_ret (v:=.tuple #[.agg #[.int .i64 b.me,.slice no nn nc,.slice ao an ac,.slice so sn sc,.slice eo en ec,.slice oo on_ oc],.bool false]) (by simp [results,Tryz.results21,go_sem,v0,v1,v2,v3,v4,v5]) rfl ?_
  rw [LQ.out]
  exact⟨⟨(no,nn,nc),(ao,an,ac),(so,sn,sc),(eo,en,ec),(oo,on_,oc),rfl,HH.out.on FL.out,fun h=>h.on FL.out⟩,FL.out⟩
end Go.Proofs.YtncogjpmboglhaaGreat.Av
namespace Go.Proofs.YtncogjpmboglhaaGreat.Bk
open Go.RowKit Go.Sort Rw YtncogjpmboglhaaGreat.Nm Pr
open Av
theorem rtake_any (b:Br) (nv av sv ev ov:Sl) (x s:Id) (f:Int) (w:World) (h:BrIn w b nv av sv ev ov) (l3:b.ent.length≤900) (hok:∀ e∈b.ent,PredOk e.p) :
  Calls Tryz.prog 19 #[brv b.me nv av sv ev ov,idv x,idv s,.int .i64 f] w fun e w'=>(∃ ev' lo:Sl,e=.returned (.tuple #[brv b.me nv av sv ev' ov,slv lo,.bool (takeB b x s f).2.2])∧BrIn w' (takeB b x s f).1 nv av sv ev' ov∧∃ xs,RowN w' (slv lo) xs∧All2 (EnIn w') xs (takeB b x s f).2.1)∧Below w.heap.size w w':=by
 obtain⟨no,nn,nc⟩:=nv
 obtain⟨ao,an,ac⟩:=av
 obtain⟨so,sn,sc⟩:=sv
 obtain⟨eo,en,ec⟩:=ev
 obtain⟨oo,on_,oc⟩:=ov
 obtain⟨c,d⟩:=x
 obtain⟨c2,d2⟩:=s
 obtain⟨es,he1,he2⟩:=h.ent
 have KYS:=Lib.hid (keys_eq he2)
 have EL:=Lib.hid (show es.length≤900 by rw [he2.len]; exact l3)
 have HE2:=Lib.hid he2
 have OK:=Lib.hid hok
 obtain⟨q1,q2,hq⟩:=he1.len
 obtain⟨rfl,rfl,rfl⟩:eo=q1∧en=es.length∧ec=q2:=by
  have:Value.slice eo en ec=.slice q1 es.length q2:=hq
  simpa using this
 have EY:=rentry_any b.me (.slice no nn nc) (.slice ao an ac) (.slice so sn sc) (.slice oo on_ oc) (eo,es.length,ec) es (c,d) (c2,d2)
 have HH:=Lib.hid h
 obtain⟨h0,h1,h2,h3,h4⟩:=four_new w #[.int .i64 b.me,.slice no nn nc,.slice ao an ac,.slice so sn sc,.slice eo es.length ec,.slice oo on_ oc] #[.int .i64 c,.int .i64 d] #[.int .i64 c2,.int .i64 d2] #[.int .i64 0,.slice none 0 0,.slice none 0 0,.slice none 0 0,.slice none 0 0,.slice none 0 0] 31 38 38 31
 obtain⟨n3,hn3⟩:∃ n,n=es.length:=⟨_,rfl⟩
 simp only [← hn3] at h0 h1 h2 h3 h4 he1 HH EY ⊢
 obtain⟨me,hme⟩:∃ me,me=b.me:=⟨_,rfl⟩
 simp only [← hme] at h0 h1 h2 h3 h4 EY ⊢
 have N3:=Lib.hid hn3
 have GB_1:=Lib.hid (h0)
 have X4_2:=Lib.hid (h1)
 have X5_3:=Lib.hid (h2)
 have X6_4:=Lib.hid (h3)
 have X8_5:=Lib.hid (h4)
 have HE_6:=Lib.hid (he1.on h0)
 have HEW:=Lib.hid he1
 clear h0 h1 h2 h3 h4 he1 he2 h hq hn3 l3 hme hok
 go_enter Tryz.func19,Tryz.ntmps19
 go_upto_region 1 with fail
 generalize ((((w.alloc (.cells #[.int .i64 me,.slice no nn nc,.slice ao an ac,.slice so sn sc,.slice eo n3 ec,.slice oo on_ oc] 31)).alloc (.cells #[.int .i64 c,.int .i64 d] 38)).alloc (.cells #[.int .i64 c2,.int .i64 d2] 38)).alloc (.cells #[.int .i64 0,.slice none 0 0,.slice none 0 0,.slice none 0 0,.slice none 0 0,.slice none 0 0] 31))=W at *
 have SW:=Lib.hid (EY W HE_6.out)
 clear EY
 obtain⟨x0,x1,x2,x3,x4,x5⟩:=X4_2.out.cs6
 obtain⟨y0,y1⟩:=X5_3.out.cs2
 obtain⟨z0,z1⟩:=X6_4.out.cs2
 rcases findK_or (es.map keyN) ((c,d),(c2,d2)) with hf|⟨k,hf,hkk⟩
 ·have LB:=Lib.hid (show takeB b (c,d) (c2,d2) f=(b,[],false) by
   have hf2:=hf
   rw [KYS.out] at hf2
   unfold takeB
   rw [hf2]
   split
   ·rfl
   ·rw [if_pos rfl])
  rw [hf] at SW
  clear hf
  go_wp2_with fail
  refine SW.out.mono ?_
  rintro e1 w1 ⟨rfl,hb⟩
  clear SW
  clear x0 x1 x2 x3 x4 x5 y0 y1 z0 z1
  have GB_7:=Lib.hid (GB_1.out.trans (hb.mono GB_1.out.size))
  have X4_7:=Lib.hid (X4_2.out.on hb)
  have X5_7:=Lib.hid (X5_3.out.on hb)
  have X6_7:=Lib.hid (X6_4.out.on hb)
  have X8_7:=Lib.hid (X8_5.out.on hb)
  have HE_7:=Lib.hid (HE_6.out.on hb)
  clear GB_1 X4_2 X5_3 X6_4 X8_5 HE_6
  clear hb
  obtain⟨x0,x1,x2,x3,x4,x5⟩:=X4_7.out.cs6
  obtain⟨r0,r1,r2,r3,r4,r5⟩:=X8_7.out.cs6
  obtain⟨rf0,rf1,rf2,rf3,rf4,rf5⟩:=X8_7.out.fs6
  have zz:=X8_7.out.lt
  have FB:=Lib.hid (setB_box X8_7.out (.int .i64 me) (.slice no nn nc) (.slice ao an ac) (.slice so sn sc) (.slice eo n3 ec) (.slice oo on_ oc))
  have BL:=Lib.hid (setB_below (b:=w.heap.size+1+1+1) GB_7.out (by omega) (.int .i64 me) (.slice no nn nc) (.slice ao an ac) (.slice so sn sc) (.slice eo n3 ec) (.slice oo on_ oc))
  go_wp2_with fail
  obtain⟨v0,v1,v2,v3,v4,v5⟩:=FB.out.cs6
  refine bodyPost_ret (v:=.tuple #[.agg #[.int .i64 me,.slice no nn nc,.slice ao an ac,.slice so sn sc,.slice eo n3 ec,.slice oo on_ oc],.slice none 0 0,.bool false]) (by simp [results,Tryz.results19,go_sem,v0,v1,v2,v3,v4,v5]) rfl ?_
  rw [LB.out]
  exact⟨⟨(eo,n3,ec),(none,0,0),rfl,HH.out.on BL.out,[],row_nil _,.nil⟩,BL.out⟩
 ·rw [hf] at SW
  have hk:k<es.length:=by have:=(List.getElem?_eq_some_iff.1 hkk).1; simpa using this
  obtain⟨y,hy⟩:∃ y,es[k]?=some y:=⟨_,List.getElem?_eq_getElem hk⟩
  obtain⟨e0,he0⟩:∃ e,b.ent[k]?=some e:=⟨_,List.getElem?_eq_getElem (by rw [← HE2.out.len]; exact hk)⟩
  obtain⟨y_,hy_,hye⟩:=HE2.out.at k e0 he0
  obtain rfl:y=y_:=Option.some.inj (hy.symm.trans hy_)
  have hkn:k<n3:=by rw [N3.out]; exact hk
  have LB:=Lib.hid (show takeB b (c,d) (c2,d2) f=if e0.from_≠f then (b,[],false) else if e0.up=false then ({ b with ent:=cutAt b.ent k },[],false) else ({ b with ent:=(takeK (c,d) (cutAt b.ent k) (cutAt b.ent k).length).1 },(takeK (c,d) (cutAt b.ent k) (cutAt b.ent k).length).2,true) by
   have hf2:=hf
   rw [KYS.out] at hf2
   unfold takeB
   rw [hf2,Int.toNat_natCast,he0]
   simp only
   rw [if_neg (by omega)])
  obtain⟨p,ix,px⟩:=elN HE_6.out rfl N3.out.symm hy
  obtain⟨t1,t2,t3,t4,⟨po,pn,pc⟩,fr,up⟩:=y
  obtain⟨hl1,hl2,hfr,hup,hl5⟩:=hye
  simp only at hfr hup
  rw [← hfr,← hup] at LB
  clear hfr hup hl1 hl2 hl5 hy_ he0 e0
  have hik:decide ((k:Int)<0)=false:=decide_eq_false (by omega)
  have XL:=EL.out
  go_wp2_with fail
  refine SW.out.mono ?_
  rintro e1 w1 ⟨rfl,hb⟩
  have px2:=px w1 hb
  obtain⟨p0,p1,p2,p3,p4,p5,p6⟩:=px2
  clear SW px
  clear x0 x1 x2 x3 x4 x5 y0 y1 z0 z1
  have GB_7:=Lib.hid (GB_1.out.trans (hb.mono GB_1.out.size))
  have X4_7:=Lib.hid (X4_2.out.on hb)
  have X5_7:=Lib.hid (X5_3.out.on hb)
  have X6_7:=Lib.hid (X6_4.out.on hb)
  have X8_7:=Lib.hid (X8_5.out.on hb)
  have HE_7:=Lib.hid (HE_6.out.on hb)
  clear GB_1 X4_2 X5_3 X6_4 X8_5 HE_6
  clear hb hf
  by_cases hpf:fr=f
  ·rw [if_neg (by simp [hpf])] at LB
   have hne:(fr != f)=false:=by simp [hpf]
   obtain⟨x0,x1,x2,x3,x4,x5⟩:=X4_7.out.cs6
   obtain⟨r0,r1,r2,r3,r4,r5⟩:=X8_7.out.cs6
   obtain⟨rf0,rf1,rf2,rf3,rf4,rf5⟩:=X8_7.out.fs6
   have zz:=X8_7.out.lt
   go_upto_region 5 with fail
   clear zz hne hik ix p0 p1 p2 p3 p4 p5 p6
   clear x0 x1 x2 x3 x4 x5 r0 r1 r2 r3 r4 r5 rf0 rf1 rf2 rf3 rf4 rf5
   refine cut5 _ w1 w.heap.size (w.heap.size+1) me _ _ _ _ eo n3 ec k es _ _ _ _ _ _ _ _ _ _ _ _ _ _ _ _ _ _ _ _ _ _ _ _ _ _ _ _ _ _ _ _ _ _ _ _ _ _ _ _ _ _ _ _ _ _ _ _ _ _ _ _ _ _ _ _ _ _ _ _ _ _ _ _ _ _ _ _ _ _ _ _ _ _ _ _ _ _ _ _ _ _ _ _ _ _ _ _ _ _ _ _ _ _ _ _ _ _ _ _ _ X4_7.out HE_7.out (by omega) XL ?_
   intro xw v39 v40 v41 v42 v43 v44 v45 v46 v47 v48 v49 v50 v51 hbx ho hbl hoth hblk
   have CE:=Lib.hid (show All2 (EnIn w) (es.take k++es.drop (k+1)) (cutAt b.ent k) from (HE2.out.take k).append (HE2.out.drop (k+1)))
   have OK2:=Lib.hid (show ∀ e∈cutAt b.ent k,PredOk e.p from fun e he=>by
    rcases List.mem_append.1 he with h|h
    ·exact OK.out e (List.mem_of_mem_take h)
    ·exact OK.out e (List.mem_of_mem_drop h))
   have CL:=Lib.hid (show (es.take k++es.drop (k+1)).length≤900 from by rw [List.length_append,List.length_take,List.length_drop]; omega)
   generalize es.take k++es.drop (k+1)=cs at *
   obtain⟨ea,ecc,hev⟩:=(Row.of_own ho).len
   obtain⟨n,hn⟩:∃ n,n=cs.length:=⟨_,rfl⟩
   rw [← hn] at hev
   subst hev
   have N:=Lib.hid hn
   clear hn
   have CN:=Lib.hid (show (cutAt b.ent k).length=n from by rw [N.out,CE.out.len])
   have hcl:=CN.out
   simp only [hcl] at LB
   generalize cutAt b.ent k=cb at *
   clear hcl
   have GB_8:=Lib.hid (GB_7.out.trans (hbl _ (Nat.le_refl _)))
   have X4_9:=Lib.hid (hbx)
   have X5_10:=Lib.hid (hoth _ _ _ (by omega) X5_7.out)
   have X6_11:=Lib.hid (hoth _ _ _ (by omega) X6_7.out)
   have X8_12:=Lib.hid (hoth _ _ _ (by omega) X8_7.out)
   have OE_13:=Lib.hid (own_fewer ho (show w.heap.size+4≤w1.heap.size by have:=X8_7.out.lt; omega))
   have WF:=Lib.hid (show w.heap.size+4≤xw.heap.size from by have:=X8_12.out.lt; omega)
   clear hbx ho hbl hoth hblk GB_7 X4_7 X5_7 X6_7 X8_7 HE_7
   cases up
   ·rw [if_pos rfl] at LB
    obtain⟨x0,x1,x2,x3,x4,x5⟩:=X4_9.out.cs6
    obtain⟨r0,r1,r2,r3,r4,r5⟩:=X8_12.out.cs6
    obtain⟨rf0,rf1,rf2,rf3,rf4,rf5⟩:=X8_12.out.fs6
    have zz:=X8_12.out.lt
    have FB:=Lib.hid (setB_box X8_12.out (.int .i64 me) (.slice no nn nc) (.slice ao an ac) (.slice so sn sc) (.slice ea n ecc) (.slice oo on_ oc))
    have BL:=Lib.hid (setB_below (b:=w.heap.size+1+1+1) GB_8.out (by omega) (.int .i64 me) (.slice no nn nc) (.slice ao an ac) (.slice so sn sc) (.slice ea n ecc) (.slice oo on_ oc))
    have OE2:=Lib.hid (setB_ownA OE_13.out (w.heap.size+1+1+1) (by omega) (.int .i64 me) (.slice no nn nc) (.slice ao an ac) (.slice so sn sc) (.slice ea n ecc) (.slice oo on_ oc))
    go_wp2_with fail
    obtain⟨v0,v1,v2,v3,v4,v5⟩:=FB.out.cs6
    refine bodyPost_ret (v:=.tuple #[.agg #[.int .i64 me,.slice no nn nc,.slice ao an ac,.slice so sn sc,.slice ea n ecc,.slice oo on_ oc],.slice none 0 0,.bool false]) (by simp [results,Tryz.results19,go_sem,v0,v1,v2,v3,v4,v5]) rfl ?_
    rw [LB.out]
    have hI:=HH.out.on BL.out
    exact⟨⟨(ea,n,ecc),(none,0,0),rfl,⟨hI.near,hI.adv,hI.seen,⟨cs,Row.of_own OE2.out,CE.out.mono fun _ _ h=>h.on BL.out⟩,hI.own⟩,[],row_nil _,.nil⟩,BL.out⟩
   ·rw [if_neg (by simp)] at LB
    have L4:=CL.out
    rw [← N.out] at L4
    obtain⟨x0,x1,x2,x3,x4,x5⟩:=X4_9.out.cs6
    go_wp2_with fail
    clear x0 x1 x2 x3 x4 x5
    go_loopw [13,58] (fun v i wr=>∃ (k:Nat) (xs ls:List XEn) (a:Option Addr) (c_:Nat),k≤n∧i=.int .i64 k∧Below w.heap.size w wr∧w.heap.size+4≤wr.heap.size∧Box wr w.heap.size #[.int .i64 me,.slice no nn nc,.slice ao an ac,.slice so sn sc,.slice a n c_,.slice oo on_ oc] 31∧Box wr (w.heap.size+1) #[.int .i64 c,.int .i64 d] 38∧Box wr (w.heap.size+1+1+1) #[.int .i64 0,.slice none 0 0,.slice none 0 0,.slice none 0 0,.slice none 0 0,.slice none 0 0] 31∧OwnN wr (w.heap.size+4) (.slice a n c_) xs∧All2 (EnIn w) xs (takeK (c,d) cb k).1∧OwnN wr (w.heap.size+4) v ls∧All2 (EnIn w) ls (takeK (c,d) cb k).2) (fun _ i _=>n-(intOf i).toNat)
    case atStart=>exact⟨0,cs,[],ea,ecc,Nat.zero_le _,rfl,GB_8.out,WF.out,X4_9.out,X5_10.out,X8_12.out,OE_13.out,CE.out,own_nil _ _,.nil⟩
    case round =>
     clear WF GB_8 X4_9 X5_10 X6_11 X8_12 OE_13
     obtain⟨k,xs,ls,ea,ecc,hk,rfl,hgb,hwf,hx4,hx5,hx8,hoe,hen,hol,hln⟩:=hrel
     have GB_34:=Lib.hid (hgb)
     have X4_35:=Lib.hid (hx4)
     have X5_36:=Lib.hid (hx5)
     have X8_37:=Lib.hid (hx8)
     have OE_38:=Lib.hid (hoe)
     have OL_39:=Lib.hid (hol)
     have WF:=Lib.hid hwf
     have EN:=Lib.hid hen
     have LN:=Lib.hid hln
     clear hgb hwf hx4 hx5 hx8 hoe hen hol hln
     have XN:=Lib.hid (show xs.length=n from by rw [EN.out.len,(takeK_len _ _ _).1,CN.out])
     have LN9:=Lib.hid (show ls.length≤900 from by rw [LN.out.len]; exact Nat.le_trans (takeK_len _ _ _).2 (by omega))
     by_cases hlt:k<n
     ·have hlt':(k:Int)<(n:Int):=by omega
      have hw:IntKind.i64.wrap ((k:Int)+1)=(k:Int)+1:=IntWalk.i64_in _ (by omega)
      obtain⟨y,hy⟩:∃ y,xs[k]?=some y:=⟨_,List.getElem?_eq_getElem (by rw [XN.out]; exact hlt)⟩
      obtain⟨e,he⟩:∃ e,(takeK (c,d) cb k).1[k]?=some e:=⟨_,List.getElem?_eq_getElem (by rw [← EN.out.len,XN.out]; exact hlt)⟩
      obtain⟨y_,hy_,hye⟩:=EN.out.at k e he
      obtain rfl:y=y_:=Option.some.inj (hy.symm.trans hy_)
      have TK:=Lib.hid (show takeK (c,d) cb (k+1)=if e.tree=(c,d)∧e.up=false∧coveredE (takeK (c,d) cb k).1 (c,d) e.p=false then ((takeK (c,d) cb k).1.set k (upE e),(takeK (c,d) cb k).2++[upE e]) else takeK (c,d) cb k from by rw [takeK_succ]; unfold takeStep; rw [he])
      have OKK:=Lib.hid ((takeK_ok (t:=(c,d)) PredOk OK2.out k).1)
      have HYE:=Lib.hid hye
      have HY:=Lib.hid hy
      have OKE:=Lib.hid (OKK.out e (List.mem_of_getElem? he))
      clear hy_ hye he
      generalize takeK (c,d) cb k=mk at *
      obtain⟨p,ix,px⟩:=elN (Row.of_own OE_38.out) rfl XN.out hy
      obtain⟨p0,p1,p2,p3,p4,p5,p6⟩:=px wr (Below.refl _ _)
      obtain⟨y1,y2,y3,y4,⟨yo,yn,yc⟩,y6,y7⟩:=y
      simp only at p0 p1 p2 p3 p4 p5 p6
      clear px hy
      obtain⟨x0,x1,x2,x3,x4,x5⟩:=X4_35.out.cs6
      go_upto_region 13 with fail
      clear x0 x1 x2 x3 x4 x5
      clear p0 p1 p2 p3 p4 p5 p6 ix
      have NN:=newB wr (.cells #[.int .i64 y1,.int .i64 y2,.int .i64 y3,.int .i64 y4,.slice yo yn yc,.int .i64 y6,.bool y7] 43)
      have WG:=Lib.hid NN.size
      have GB_40:=Lib.hid (GB_34.out.trans (NN.mono GB_34.out.size))
      have X4_40:=Lib.hid (X4_35.out.on NN)
      have X5_40:=Lib.hid (X5_36.out.on NN)
      have X8_40:=Lib.hid (X8_37.out.on NN)
      have OE_40:=Lib.hid (Bk.own_on OE_38.out NN)
      have OL_40:=Lib.hid (Bk.own_on OL_39.out NN)
      clear GB_34 X4_35 X5_36 X8_37 OE_38 OL_39
      clear NN
      have XE_41:=Lib.hid (box_new wr #[.int .i64 y1,.int .i64 y2,.int .i64 y3,.int .i64 y4,.slice yo yn yc,.int .i64 y6,.bool y7] 43)
      generalize wr.alloc (.cells #[.int .i64 y1,.int .i64 y2,.int .i64 y3,.int .i64 y4,.slice yo yn yc,.int .i64 y6,.bool y7] 43)=wa at *
      obtain⟨x0,x1,x2,x3,x4,x5⟩:=X4_40.out.cs6
      obtain⟨y_0,y_1⟩:=X5_40.out.cs2
      obtain⟨z0,z1,z2,z3,z4,z5,z6⟩:=XE_41.out.cs7
      have TE:=Lib.hid (show e.tree=(y1,y2) from HYE.out.1.symm)
      have UE:=Lib.hid (show e.up=y7 from HYE.out.2.2.2.1.symm)
      obtain⟨r1,hr1⟩:∃ r,(y1 == c && y2 == d)=r:=⟨_,rfl⟩
      have heq:=eqId y1 y2 c d r1 hr1
      have R1:=Lib.hid hr1
      clear hr1
      cases r1
      ·go_wp2_with fail
       go_roundw
       case rel=>exact⟨k+1,xs,ls,ea,ecc,by omega,by go_num,GB_40.out,by have:=WG.out; have:=WF.out; omega,X4_40.out,X5_40.out,X8_40.out,OE_40.out,by rw [TK.out,if_neg (by intro hh; have h1:=hh.1; rw [TE.out] at h1; have h2:=R1.out; simp at h1; simp [h1] at h2)]; exact EN.out,OL_40.out,by rw [TK.out,if_neg (by intro hh; have h1:=hh.1; rw [TE.out] at h1; have h2:=R1.out; simp at h1; simp [h1] at h2)]; exact LN.out⟩
       case measure=>simp [intOf]; omega
      ·cases y7
       ·obtain⟨cv,hcv⟩:∃ r,coveredE mk.1 (c,d) e.p=r:=⟨_,rfl⟩
        have CO:=rcovered_any me (.slice no nn nc) (.slice ao an ac) (.slice so sn sc) (.slice oo on_ oc) (ea,n,ecc) xs mk.1 (c,d) (.slice yo yn yc) e.p wa (Row.of_own OE_40.out) (EN.out.mono fun _ _ h=>h.on GB_40.out) (HYE.out.2.2.2.2.on GB_40.out) OKK.out OKE.out
        rw [hcv] at CO
        rw [hcv] at TK
        clear hcv
        go_wp2_with fail
        refine CO.mono ?_
        rintro e2 wb ⟨rfl,hb⟩
        clear CO
        clear x0 x1 x2 x3 x4 x5 y_0 y_1 z0 z1 z2 z3 z4 z5 z6
        have GB_42:=Lib.hid (GB_40.out.trans (hb.mono GB_40.out.size))
        have X4_42:=Lib.hid (X4_40.out.on hb)
        have X5_42:=Lib.hid (X5_40.out.on hb)
        have X8_42:=Lib.hid (X8_40.out.on hb)
        have OE_42:=Lib.hid (Bk.own_on OE_40.out hb)
        have OL_42:=Lib.hid (Bk.own_on OL_40.out hb)
        have XE_42:=Lib.hid (XE_41.out.on hb)
        clear GB_40 X4_40 X5_40 X8_40 OE_40 OL_40 XE_41
        have WGb:=Lib.hid (Nat.le_trans WG.out hb.size)
        clear hb WG
        have WG:=Lib.hid WGb.out
        cases cv
        ·rw [if_pos ⟨by rw [TE.out]; have h:=R1.out; simp at h; rw [h.1,h.2],UE.out,rfl⟩] at TK
         have NB:=newB wb (.cells #[] 43)
         obtain⟨va,x1,q1,oa,ga⟩:=app_fresh okN (w:=wb.alloc (.cells #[] 43)) wb.heap.size (box_new wb #[] 43) (Nat.le_refl _) (Row.of_own (own_on OE_42.out NB)) (by rw [XN.out]; omega) 28
         have G1:=Lib.hid (NB.trans (ga.mono NB.size))
         have m4:=(X4_42.out.on NB).cell 4
         simp only [List.getElem?_toArray,List.getElem?_cons_zero,List.getElem?_cons_succ] at m4
         rcases own_open oa with⟨_,h0⟩|⟨g,cg,_,rfl,hBg,_,_⟩
         ·rw [h0] at XN
          have:=XN.out
          simp at this
          omega
         rw [XN.out] at q1 oa
         have q1:(Builtin.append_ #[28,28] 28 #[.slice (some ⟨wb.heap.size,0,none⟩) 0 0,.slice ea n ecc]).run Tryz.prog (wb.alloc (.cells #[] 43))=.ok (.slice (some ⟨g,0,none⟩) n cg) x1:=q1
         have OA:=Lib.hid (own_fewer oa (show w.heap.size+4≤wb.heap.size from by have:=WG.out; have:=WF.out; omega))
         have GL:=Lib.hid (Nat.le_trans hBg (Nat.le_refl g))
         clear oa ga NB
         have OLB:=Lib.hid (OL_42.out)
         have GB_43:=Lib.hid (GB_42.out.trans (G1.out.mono GB_42.out.size))
         have X4_43:=Lib.hid (X4_42.out.on G1.out)
         have X5_43:=Lib.hid (X5_42.out.on G1.out)
         have X8_43:=Lib.hid (X8_42.out.on G1.out)
         have OE_43:=Lib.hid (Bk.own_on OE_42.out G1.out)
         have OL_43:=Lib.hid (Bk.own_on OL_42.out G1.out)
         have XE_43:=Lib.hid (XE_42.out.on G1.out)
         clear GB_42 X4_42 X5_42 X8_42 OE_42 OL_42 XE_42
         have WG1:=Lib.hid (Nat.le_trans WG.out G1.out.size)
         obtain⟨x0,x1,x2,x3,x4,x5⟩:=X4_43.out.cs6
         obtain⟨xf0,xf1,xf2,xf3,xf4,xf5⟩:=X4_43.out.fs6
         have hl4:=X4_43.out.lt
         go_upto_region 15 with (first | (at_builtin; refine wpList_append_run rfl _ _ 28 rfl rfl rfl q1 ?_) | fail)
         clear x0 x1 x2 x3 x4 x5 xf0 xf1 xf2 xf3 xf4 xf5
         clear hl4 q1 m4
         have X4b:=box_set (k:=4) X4_43.out (.slice (some ⟨g,0,none⟩) n cg)
         simp only [List.setIfInBounds_toArray,List.set_cons_zero,List.set_cons_succ] at X4b
         have BK:=but_cell x1 w.heap.size 4 (.slice (some ⟨g,0,none⟩) n cg)
         have GB2:=Lib.hid (GB_43.out.setCell (p:=⟨w.heap.size,4,none⟩) (Nat.le_refl _) (.slice (some ⟨g,0,none⟩) n cg))
         have Y4:=Lib.hid X4b
         have Y5:=Lib.hid (BK.box X5_43.out (by omega))
         have Y8:=Lib.hid (BK.box X8_43.out (by omega))
         have OA2:=Lib.hid (own_cell OA.out w.heap.size 4 (.slice (some ⟨g,0,none⟩) n cg) (by omega))
         have OL2:=Lib.hid (own_cell OL_43.out w.heap.size 4 (.slice (some ⟨g,0,none⟩) n cg) (by omega))
         have WG2:=Lib.hid (show wr.heap.size≤(x1.setCell ⟨w.heap.size,4,none⟩ (.slice (some ⟨g,0,none⟩) n cg)).heap.size from by have:=WG1.out; simpa using this)
         clear X4b BK OA WG1 GB_43 X4_43 X5_43 X8_43 OE_43 OL_43 XE_43
         generalize x1.setCell ⟨w.heap.size,4,none⟩ (.slice (some ⟨g,0,none⟩) n cg)=x2 at *
         have UP:=own_upN OA2.out HY.out
         obtain⟨u1,u2,u3⟩:=UP
         simp only at u1 u2
         have ix:=index_own okN g k n cg hlt
         have ix:∀ w,(Instr.indexAt 28 (.slice (some ⟨g,0,none⟩) n cg) (.int .i64 (k:Int))).run Tryz.prog w=.ok (.pointer (some ⟨g,k * 7,none⟩)) w:=ix
         have x4:=Y4.out.cell 4
         simp only [List.getElem?_toArray,List.getElem?_cons_zero,List.getElem?_cons_succ] at x4
         have OU:=Lib.hid u1
         clear u1
         have gl:g<x2.heap.size:=by obtain⟨cur,hb⟩:=own_tag OA2.out; exact hb.lt
         go_upto_region 16 with fail
         clear u2 u3 x4 gl
         have BG:=but_cell x2 g (k * 7+6) (.bool true)
         have GG:=Lib.hid (show w.heap.size+4≤g from by have:=WG.out; have:=WF.out; have:=GL.out; omega)
         have GB3:=Lib.hid (GB2.out.setCell (p:=⟨g,k * 7+6,none⟩) (by have:=GG.out; show w.heap.size≤g; omega) (.bool true))
         have Z4:=Lib.hid (BG.box Y4.out (by have:=GG.out; omega))
         have Z5:=Lib.hid (BG.box Y5.out (by have:=GG.out; omega))
         have Z8:=Lib.hid (BG.box Y8.out (by have:=GG.out; omega))
         have LG:=Lib.hid (show u13.ownBlock=none∨u13.ownBlock≠some g from by
          cases hob:u13.ownBlock with
          | none=>exact Or.inl rfl
          | some j =>
           refine Or.inr fun e=>?_
           injection e with e
           have h1:=(OLB.out.lt j hob).2
           have h2:=GL.out
           omega)
         have OL3:=Lib.hid (OL2.out.kept (w':=x2.setCell ⟨g,k * 7+6,none⟩ (.bool true)) (row:=some g) ⟨rfl,rfl,rfl,by simp [World.setCell],fun j _ hne=>RowKit.Below.heap_setCell _ _ _ _ (fun e=>hne (by rw [e]))⟩ LG.out)
         have WG3:=Lib.hid (show wr.heap.size≤(x2.setCell ⟨g,k * 7+6,none⟩ (.bool true)).heap.size from by have:=WG2.out; simpa using this)
         clear BG GB2 Y4 Y5 Y8 OA2 OL2 WG2
         generalize x2.setCell ⟨g,k * 7+6,none⟩ (.bool true)=x3 at *
         have OU2:=OU.out
         have hset:(xs.set k (y1,y2,y3,y4,(yo,yn,yc),y6,true))[k]?=some (y1,y2,y3,y4,(yo,yn,yc),y6,true):=List.getElem?_set_self (by rw [XN.out]; exact hlt)
         have ce:∀ j u,(cellsN (y1,y2,y3,y4,(yo,yn,yc),y6,true))[j]?=some u→x3.cell? ((⟨g,k * 7,none⟩:Addr).add j)=some u:=own_row_at okN OU2 hset x3 (Below.refl _ _)
         have c0_:=ce 0 _ rfl
         have c1_:=ce 1 _ rfl
         have c2_:=ce 2 _ rfl
         have c3_:=ce 3 _ rfl
         have c4_:=ce 4 _ rfl
         have c5_:=ce 5 _ rfl
         have c6_:=ce 6 _ rfl
         simp [Addr.add] at c0_ c1_ c2_ c3_ c4_ c5_ c6_
         have x4:=Z4.out.cell 4
         simp only [List.getElem?_toArray,List.getElem?_cons_zero,List.getElem?_cons_succ] at x4
         have hlit:=row_lit okN x3 [(y1,y2,y3,y4,(yo,yn,yc),y6,true)] 1 rfl (by simp) #[.int .i64 y1,.int .i64 y2,.int .i64 y3,.int .i64 y4,.slice yo yn yc,.int .i64 y6,.bool true] rfl
         have NB:=newB x3 (.cells #[.int .i64 y1,.int .i64 y2,.int .i64 y3,.int .i64 y4,.slice yo yn yc,.int .i64 y6,.bool true] 43)
         have hB:w.heap.size+4≤(x3.alloc (.cells #[.int .i64 y1,.int .i64 y2,.int .i64 y3,.int .i64 y4,.slice yo yn yc,.int .i64 y6,.bool true] 43)).heap.size:=Nat.le_trans (Nat.le_trans WF.out WG3.out) NB.size
         obtain⟨v',x5,q2,o2,g2⟩:=app_row okN (w.heap.size+4) (own_on OL3.out NB) (Row.of_own hlit) (by have:=LN9.out; omega) (by simp) hB 28
         have q2:(Builtin.append_ #[28,28] 28 #[u13,.slice (some ⟨x3.heap.size,0,none⟩) 1 1]).run Tryz.prog (x3.alloc (.cells #[.int .i64 y1,.int .i64 y2,.int .i64 y3,.int .i64 y4,.slice yo yn yc,.int .i64 y6,.bool true] 43))=.ok v' x5:=q2
         have GF:=Lib.hid (show Below w.heap.size w x5 from ((GB3.out.trans (NB.mono GB3.out.size)).grown g2 (by omega) fun j hj=>by have:=((own_on OL3.out NB).lt j hj).1; omega))
         have BO:=Lib.hid (show ∀ j,j<x3.heap.size→some j≠u13.ownBlock→x5.heap[j]?=x3.heap[j]? from fun j hj hne=>(g2.block j (Nat.lt_of_lt_of_le hj NB.size) hne).trans (NB.block j hj))
         have ZX:=fun (bb:Nat) (cs:Array Value) (tt:TypeId) (hbb:bb<w.heap.size+4) (hbx:Box x3 bb cs tt)=>show Box x5 bb cs tt from (BO.out bb hbx.lt (fun e=>by have:=(OL3.out.lt bb e.symm).1; omega)).trans hbx
         have V4:=Lib.hid (ZX _ _ _ (by omega) Z4.out)
         have V5:=Lib.hid (ZX _ _ _ (by omega) Z5.out)
         have V8:=Lib.hid (ZX _ _ _ (by omega) Z8.out)
         have OU5:=Lib.hid (show OwnN x5 (w.heap.size+4) (.slice (some ⟨g,0,none⟩) n cg) (xs.set k (y1,y2,y3,y4,(yo,yn,yc),y6,true)) from by
          have h1:=Bk.own_on OU.out NB
          exact h1.kept g2 (by
           cases hob:u13.ownBlock with
           | none=>exact Or.inr (by simp [Value.ownBlock])
           | some j =>
            refine Or.inr fun e=>?_
            have h2:=LG.out
            rw [hob] at h2
            rcases h2 with h2|h2
            ·cases h2
            ·exact h2 (by rw [← e]; rfl)))
         have O2:=Lib.hid o2
         have W5:=Lib.hid (Nat.le_trans WG3.out (Nat.le_trans NB.size g2.size))
         clear hlit hB o2 g2 ZX BO OU2 NB hset ce
         go_wp2_with (first | (at_builtin; refine wpList_append_run rfl _ _ 28 rfl rfl rfl q2 ?_) | fail)
         go_roundw
         case rel=>exact⟨k+1,_,_,some ⟨g,0,none⟩,cg,by omega,by go_num,GF.out,by have:=WF.out; have:=W5.out; omega,V4.out,V5.out,V8.out,OU5.out,by
          rw [TK.out]
          exact EN.out.set2 k ⟨HYE.out.1,HYE.out.2.1,HYE.out.2.2.1,rfl,HYE.out.2.2.2.2⟩,O2.out,by
          rw [TK.out]
          exact LN.out.append (.cons ⟨HYE.out.1,HYE.out.2.1,HYE.out.2.2.1,rfl,HYE.out.2.2.2.2⟩ .nil)⟩
         case measure=>simp [intOf]; omega
        ·go_wp2_with fail
         go_roundw
         case rel=>exact⟨k+1,xs,ls,ea,ecc,by omega,by go_num,GB_42.out,by have:=WG.out; have:=WF.out; omega,X4_42.out,X5_42.out,X8_42.out,OE_42.out,by rw [TK.out,if_neg (by simp)]; exact EN.out,OL_42.out,by rw [TK.out,if_neg (by simp)]; exact LN.out⟩
         case measure=>simp [intOf]; omega
       ·go_wp2_with fail
        go_roundw
        case rel=>exact⟨k+1,xs,ls,ea,ecc,by omega,by go_num,GB_40.out,by have:=WG.out; have:=WF.out; omega,X4_40.out,X5_40.out,X8_40.out,OE_40.out,by rw [TK.out,if_neg (by intro hh; have h1:=hh.2.1; rw [UE.out] at h1; cases h1)]; exact EN.out,OL_40.out,by rw [TK.out,if_neg (by intro hh; have h1:=hh.2.1; rw [UE.out] at h1; cases h1)]; exact LN.out⟩
        case measure=>simp [intOf]; omega
     ·obtain rfl:k=n:=by omega
      obtain⟨x0,x1,x2,x3,x4,x5⟩:=X4_35.out.cs6
      obtain⟨la,lc,hlv⟩:=(Row.of_own OL_39.out).len
      obtain⟨ln,hln⟩:∃ n,n=ls.length:=⟨_,rfl⟩
      rw [← hln] at hlv
      subst hlv
      clear hln
      obtain⟨r0,r1,r2,r3,r4,r5⟩:=X8_37.out.cs6
      obtain⟨rf0,rf1,rf2,rf3,rf4,rf5⟩:=X8_37.out.fs6
      have zz:=X8_37.out.lt
      have FB:=Lib.hid (setB_box X8_37.out (.int .i64 me) (.slice no nn nc) (.slice ao an ac) (.slice so sn sc) (.slice ea k ecc) (.slice oo on_ oc))
      have BL:=Lib.hid (setB_below (b:=w.heap.size+1+1+1) GB_34.out (by omega) (.int .i64 me) (.slice no nn nc) (.slice ao an ac) (.slice so sn sc) (.slice ea k ecc) (.slice oo on_ oc))
      have OE2:=Lib.hid (setB_ownA OE_38.out (w.heap.size+1+1+1) (by omega) (.int .i64 me) (.slice no nn nc) (.slice ao an ac) (.slice so sn sc) (.slice ea k ecc) (.slice oo on_ oc))
      have OL2:=Lib.hid (setB_ownA OL_39.out (w.heap.size+1+1+1) (by omega) (.int .i64 me) (.slice no nn nc) (.slice ao an ac) (.slice so sn sc) (.slice ea k ecc) (.slice oo on_ oc))
      go_wp2_with fail
      obtain⟨v0,v1,v2,v3,v4,v5⟩:=FB.out.cs6
      refine bodyPost_ret (v:=.tuple #[.agg #[.int .i64 me,.slice no nn nc,.slice ao an ac,.slice so sn sc,.slice ea k ecc,.slice oo on_ oc],.slice la ln lc,.bool true]) (by simp [results,Tryz.results19,go_sem,v0,v1,v2,v3,v4,v5]) rfl ?_
      rw [LB.out]
      have hI:=HH.out.on BL.out
      exact⟨⟨(ea,k,ecc),(la,ln,lc),rfl,⟨hI.near,hI.adv,hI.seen,⟨xs,Row.of_own OE2.out,EN.out.mono fun _ _ h=>h.on BL.out⟩,hI.own⟩,ls,Row.of_own OL2.out,LN.out.mono fun _ _ h=>h.on BL.out⟩,BL.out⟩
  ·rw [if_pos hpf] at LB
   have hne:(fr != f)=true:=by simp [hpf]
   obtain⟨x0,x1,x2,x3,x4,x5⟩:=X4_7.out.cs6
   obtain⟨r0,r1,r2,r3,r4,r5⟩:=X8_7.out.cs6
   obtain⟨rf0,rf1,rf2,rf3,rf4,rf5⟩:=X8_7.out.fs6
   have zz:=X8_7.out.lt
   have FB:=Lib.hid (setB_box X8_7.out (.int .i64 me) (.slice no nn nc) (.slice ao an ac) (.slice so sn sc) (.slice eo n3 ec) (.slice oo on_ oc))
   have BL:=Lib.hid (setB_below (b:=w.heap.size+1+1+1) GB_7.out (by omega) (.int .i64 me) (.slice no nn nc) (.slice ao an ac) (.slice so sn sc) (.slice eo n3 ec) (.slice oo on_ oc))
   go_wp2_with fail
   obtain⟨v0,v1,v2,v3,v4,v5⟩:=FB.out.cs6
   refine bodyPost_ret (v:=.tuple #[.agg #[.int .i64 me,.slice no nn nc,.slice ao an ac,.slice so sn sc,.slice eo n3 ec,.slice oo on_ oc],.slice none 0 0,.bool false]) (by simp [results,Tryz.results19,go_sem,v0,v1,v2,v3,v4,v5]) rfl ?_
   rw [LB.out]
   exact⟨⟨(eo,n3,ec),(none,0,0),rfl,HH.out.on BL.out,[],row_nil _,.nil⟩,BL.out⟩
structure Ou where
 to_:Int
 kind:Int
 tree:Id
 id:Id
 p:List C5
def OuIn (W:World) (x:XOu) (o:Ou):Prop:=x.1=o.to_∧x.2.1=o.kind∧(x.2.2.1,x.2.2.2.1)=o.tree∧(x.2.2.2.2.1,x.2.2.2.2.2.1)=o.id∧RowC W (slv x.2.2.2.2.2.2.1) o.p∧x.2.2.2.2.2.2.2=(none,0,0)
theorem OuIn.on {W W':World} {x:XOu} {o:Ou} (h:OuIn W x o) (hb:Below W.heap.size W W'):OuIn W' x o:=⟨h.1,h.2.1,h.2.2.1,h.2.2.2.1,h.2.2.2.2.1.on hb,h.2.2.2.2.2⟩
def OutsIn (W:World) (s:Sl) (l:List Ou):Prop:=∃ xs,RowU W (slv s) xs∧All2 (OuIn W) xs l
theorem OutsIn.on {W W':World} {s:Sl} {l:List Ou} (h:OutsIn W s l) (hb:Below W.heap.size W W'):OutsIn W' s l:=by
 obtain⟨xs,h1,h2⟩:=h
 exact⟨xs,h1.on hb,h2.mono fun _ _ h=>h.on hb⟩
theorem outs_nil (W:World):OutsIn W (none,0,0) []:=⟨[],row_nil _,.nil⟩
def subE (to_:Int) (e:En):Ou:=⟨to_,3,e.tree,e.sub,e.p⟩
abbrev subX (to_:Int) (x:XEn):XOu:=(to_,3,x.1,x.2.1,x.2.2.1,x.2.2.2.1,x.2.2.2.2.1,(none,0,0))
theorem sub_in {W:World} {x:XEn} {e:En} (h:EnIn W x e) (t:Int):OuIn W (subX t x) (subE t e):=⟨rfl,rfl,h.1,h.2.1,h.2.2.2.2,rfl⟩
def dropB (b:Br) (t x:Id) (f:Int):Br×List Ou:=if (takeB b t x f).2.2=false then ((takeB b t x f).1,[]) else
 match b.adv[(findI (b.adv.map Ad.id) t).toNat]? with
 | none=>((takeB b t x f).1,[])
 | some a=>((takeB b t x f).1,(takeB b t x f).2.1.map (subE a.par)++[⟨a.par,4,t,x,[]⟩])
theorem takeB_adv (b:Br) (t x:Id) (f:Int):(takeB b t x f).1.adv=b.adv∧(takeB b t x f).1.near=b.near∧(takeB b t x f).1.me=b.me∧(takeB b t x f).1.seen=b.seen∧(takeB b t x f).1.own=b.own:=by
 unfold takeB
 split
 ·exact⟨rfl,rfl,rfl,rfl,rfl⟩
 ·split
  ·exact⟨rfl,rfl,rfl,rfl,rfl⟩
  ·split
   ·exact⟨rfl,rfl,rfl,rfl,rfl⟩
   ·split <;> exact⟨rfl,rfl,rfl,rfl,rfl⟩
theorem findI_mem (l:List Id) (x:Id) (h:x∈l):∃ k:Nat,findI l x=k∧l[k]?=some x:=by
 induction l with
 | nil=>simp at h
 | cons a r ih =>
  by_cases e:a=x
  ·subst e
   exact⟨0,by simp [findI],rfl⟩
  ·have hr:x∈r:=by
    rcases List.mem_cons.1 h with h1|h1
    ·exact absurd h1.symm e
    ·exact h1
   obtain⟨k,h1,h2⟩:=ih hr
   refine⟨k+1,?_,by simpa using h2⟩
   rw [findI,if_neg e,h1,if_neg (by omega)]
   omega
theorem takeB_true {b:Br} {t x:Id} {f:Int} (h:(takeB b t x f).2.2=true):∃ e∈b.ent,e.tree=t:=by
 unfold takeB at h
 split at h
 ·cases h
 ·rename_i e he
  split at h
  ·cases h
  ·rename_i h1
   rcases findK_or (b.ent.map keyE) (t,x) with h2|⟨k,h2,h3⟩
   ·exact absurd h2 h1
   ·rw [h2,Int.toNat_natCast] at he
    refine⟨e,List.mem_of_getElem? he,?_⟩
    rw [List.getElem?_map,he] at h3
    exact congrArg Prod.fst (Option.some.inj h3)
theorem takeB_len (b:Br) (t x:Id) (f:Int):(takeB b t x f).1.ent.length≤b.ent.length∧(takeB b t x f).2.1.length≤b.ent.length:=by
 unfold takeB
 split
 ·simp
 ·split
  ·simp
  ·split
   ·simp
   ·have hc:(cutAt b.ent (findK (b.ent.map keyE) (t,x)).toNat).length≤b.ent.length:=by
     unfold cutAt
     rw [List.length_append,List.length_take,List.length_drop]
     omega
    split
    ·exact⟨hc,by simp⟩
    ·have h1:=takeK_len t (cutAt b.ent (findK (b.ent.map keyE) (t,x)).toNat) (cutAt b.ent (findK (b.ent.map keyE) (t,x)).toNat).length
     exact⟨by rw [show ((takeK t _ _).1.length)=_ from h1.1]; exact hc,Nat.le_trans h1.2 hc⟩
theorem box_boxF {W x:World} {b F0:Nat} {cs:Array Value} {t:TypeId} (h:Box W b cs t) (hb:Below F0 W x) (hl:b<F0):Box x b cs t:=(hb.block b hl).trans h
def dV (W F0:Nat) (bv rv:Value) (to_ c d c2 d2:Int) (lo:List XOu) (i:Nat) (v:Value) (x:World):Prop :=
 match i with
 | 0=>v=bv
 | 1=>v=rv
 | 2=>v=.int .i64 to_
 | 3=>v=idv (c,d)
 | 4=>v=idv (c2,d2)
 | 5=>v=.agg #[.int .i64 4,.int .i64 c,.int .i64 d,.int .i64 c2,.int .i64 d2,.slice none 0 0,.slice none 0 0]
 | 6=>v=valU (to_,4,c,d,c2,d2,(none,0,0),(none,0,0))
 | 7=>OwnU x W v [(to_,4,c,d,c2,d2,(none,0,0),(none,0,0))]
 | 8=>∃ sl:Sl,v=slv sl∧OwnU x F0 v (lo++[(to_,4,c,d,c2,d2,(none,0,0),(none,0,0))])
 | 10=>∃ sl:Sl,v=slv sl∧OwnU x F0 v (lo++[(to_,4,c,d,c2,d2,(none,0,0),(none,0,0))])
 | _=>True
def dF (W:World) (F0 b4 b5 b6 b8:Nat) (bc:Array Value) (c d c2 d2:Int) (D:Nat→Prop) (x:World):Prop :=
 (Box x b4 bc 31∧Box x b5 #[.int .i64 c,.int .i64 d] 38∧Box x b6 #[.int .i64 c2,.int .i64 d2] 38)∧(¬ D 8→Below W.heap.size W x)∧(¬ D 9→Below F0 W x)∧(D 9→Box x b8 bc 31∧(∀ j,j<F0→j≠b8→x.heap[j]?=W.heap[j]?)∧∀ B,B≤b8→Below B W x)
noncomputable def dropR11:Code:=((Tryz.f97.body.bind (findRegion 11)).getD .skip)
theorem drop_r11 (Q:Exit→Act→World→Prop) (W:World) (F0 b4 b5 b6 b8:Nat) (me to_ c d c2 d2:Int) (o1 o2 o3 o4 o5:Option Addr) (n1 k1 n2 k2 n3 k3 n4 k4 n5 k5:Nat) (rv:Value) (lo:List XOu) (z0 z1 z2 z3 z4 z5:Value) (u0 u1 u2 u3 u7 u9 u10 u11 u14 u15 u16 u17 u18 u19 u20 u21 u22 u23 u24 u25 u26 u27 u28 u29 u30 u31 u32 u33 u34 u35 u36 u37 u38 u39 u40 u41 u42 u43 u44 u45 u46 u47 u48 u49 u50 u51 u52 u53 u54 u55 u56 u57 u58:Value)
  (h4:Box W b4 #[.int .i64 me,.slice o1 n1 k1,.slice o2 n2 k2,.slice o3 n3 k3,.slice o4 n4 k4,.slice o5 n5 k5] 31) (h5:Box W b5 #[.int .i64 c,.int .i64 d] 38) (h6:Box W b6 #[.int .i64 c2,.int .i64 d2] 38) (h8:Box W b8 #[z0,z1,z2,z3,z4,z5] 31) (l4:b4<F0) (l5:b5<F0) (l6:b6<F0) (l8:b8<F0) (n4_:b4≠b8) (n5_:b5≠b8) (n6_:b6≠b8) (fw:F0≤W.heap.size) (hown:OwnU W F0 rv lo) (hlen:lo.length≤1000)
  (hQ:∀ (a:Act) (x:World) (sl:Sl),a.defers=[]→a.tmps[8]?=some (.pointer (some ⟨b8,0,none⟩))→a.tmps[9]?=some (slv sl)→Box x b8 #[.int .i64 me,.slice o1 n1 k1,.slice o2 n2 k2,.slice o3 n3 k3,.slice o4 n4 k4,.slice o5 n5 k5] 31→OwnU x F0 (slv sl) (lo++[(to_,4,c,d,c2,d2,(none,0,0),(none,0,0))])→(∀ k,k<F0→k≠b8→x.heap[k]?=W.heap[k]?)→(∀ B,B≤b8→Below B W x)→Q .normal a x) :
  Code.wp Tryz.prog dropR11 Q ⟨(u0::u1::u2::u3::.pointer (some ⟨b4,0,none⟩)::.pointer (some ⟨b5,0,none⟩)::.pointer (some ⟨b6,0,none⟩)::u7::.pointer (some ⟨b8,0,none⟩)::u9::u10::u11::.int .i64 to_::rv::u14::u15::u16::u17::u18::u19::u20::u21::u22::u23::u24::u25::u26::u27::u28::u29::u30::u31::u32::u33::u34::u35::u36::u37::u38::u39::u40::u41::u42::u43::u44::u45::u46::u47::u48::u49::u50::u51::u52::u53::u54::u55::u56::u57::u58::[]).toArray,[]⟩ W:=by
 have HQ:=Lib.hid hQ
 have H4:=Lib.hid h4
 have H5:=Lib.hid h5
 have H6:=Lib.hid h6
 have H8:=Lib.hid h8
 have L4:=Lib.hid l4
 have L5:=Lib.hid l5
 have L6:=Lib.hid l6
 have L8:=Lib.hid l8
 have N4:=Lib.hid n4_
 have N5:=Lib.hid n5_
 have N6:=Lib.hid n6_
 have FW:=Lib.hid fw
 have HO:=Lib.hid hown
 have HL:=Lib.hid hlen
 clear hQ h4 h5 h6 h8 l4 l5 l6 l8 n4_ n5_ n6_ fw hown hlen
 unfold dropR11
 conv=>arg 2; whnf
 have nd:∀ j,(∀ i,i<11→[some 50,some 51,some 52,some 53,some 54,some 55,some 56,some 57,some 58,none,some 9].getD i none≠some j)→∀ i,i<11→(fun i=>[some 50,some 51,some 52,some 53,some 54,some 55,some 56,some 57,some 58,none,some 9].getD i none) i≠some j:=fun j h=>h
 refine Rg.region_done 11 (fun i=>[some 50,some 51,some 52,some 53,some 54,some 55,some 56,some 57,some 58,none,some 9].getD i none) (fun i=>if i=7 then 8 else 11) (dV W.heap.size F0 (.agg #[.int .i64 me,.slice o1 n1 k1,.slice o2 n2 k2,.slice o3 n3 k3,.slice o4 n4 k4,.slice o5 n5 k5]) rv to_ c d c2 d2 lo) (dF W F0 b4 b5 b6 b8 #[.int .i64 me,.slice o1 n1 k1,.slice o2 n2 k2,.slice o3 n3 k3,.slice o4 n4 k4,.slice o5 n5 k5] c d c2 d2) (by kernel_rfl) (by kernel_rfl) rfl (fun i j e hi hj h1 h2=>(by decide:∀ i,i<11→∀ j,j<11→([some 50,some 51,some 52,some 53,some 54,some 55,some 56,some 57,some 58,none,some 9].getD i none).isSome=true→[some 50,some 51,some 52,some 53,some 54,some 55,some 56,some 57,some 58,none,some 9].getD i none=[some 50,some 51,some 52,some 53,some 54,some 55,some 56,some 57,some 58,none,some 9].getD j none→i=j) i hi j hj (by have h1:[some 50,some 51,some 52,some 53,some 54,some 55,some 56,some 57,some 58,none,some 9].getD i none=some e:=h1; rw [h1]; rfl) (h1.trans h2.symm)) (fun i e hi h=>(by decide:∀ i,i<11→∀ q∈[some 50,some 51,some 52,some 53,some 54,some 55,some 56,some 57,some 58,none,some 9].getD i none,q<59) i hi e h) ⟨⟨H4.out,H5.out,H6.out⟩,fun _=>(Below.refl _ _).drew,fun _=>(Below.refl _ _).drew,False.elim⟩ ?_ ?_
 ·intro i o hi ho a x D hnd hc hD hF seen K hK
  clear HQ
  have still:∀ i,i≠8→i≠9→dF W F0 b4 b5 b6 b8 #[.int .i64 me,.slice o1 n1 k1,.slice o2 n2 k2,.slice o3 n3 k3,.slice o4 n4 k4,.slice o5 n5 k5] c d c2 d2 (fun j=>j=i∨D j) x:=fun i h8 h9=>⟨hF.1,fun h=>hF.2.1 fun h2=>h (Or.inr h2),fun h=>hF.2.2.1 fun h2=>h (Or.inr h2),fun h=>hF.2.2.2 (h.resolve_left (Ne.symm h9))⟩
  rcases (by omega:i=0∨i=1∨i=2∨i=3∨i=4∨i=5∨i=6∨i=7∨i=8∨i=9∨i=10) with rfl|rfl|rfl|rfl|rfl|rfl|rfl|rfl|rfl|rfl|rfl
  ·obtain rfl:=Option.some.inj ho
   have e4:a.eval (.tmp 4)=.pointer (some ⟨b4,0,none⟩):=seen.kp 4 _ (nd 4 (by decide)) rfl
   exact Rg.op_value rfl rfl (Rg.ex_load a.eval _ 31 (.tmp 4) rfl (by rw [e4]; exact loadBr hF.1.1)) (hK _ _ rfl (still 0 (by decide) (by decide)) fun _ _ _ _ _ _ _ h=>h)
  ·obtain rfl:=Option.some.inj ho
   have e13:a.eval (.tmp 13)=rv:=seen.kp 13 _ (nd 13 (by decide)) rfl
   exact Rg.op_value rfl rfl (Rg.ex_move a.eval _ (.tmp 13) rfl x) (hK _ _ e13 (still 1 (by decide) (by decide)) fun _ _ _ _ _ _ _ h=>h)
  ·obtain rfl:=Option.some.inj ho
   have e12:a.eval (.tmp 12)=.int .i64 to_:=seen.kp 12 _ (nd 12 (by decide)) rfl
   exact Rg.op_value rfl rfl (Rg.ex_move a.eval _ (.tmp 12) rfl x) (hK _ _ e12 (still 2 (by decide) (by decide)) fun _ _ _ _ _ _ _ h=>h)
  ·obtain rfl:=Option.some.inj ho
   have e5:a.eval (.tmp 5)=.pointer (some ⟨b5,0,none⟩):=seen.kp 5 _ (nd 5 (by decide)) rfl
   exact Rg.op_value rfl rfl (Rg.ex_load a.eval _ 38 (.tmp 5) rfl (by rw [e5]; exact loadJ x _ (c,d) (box_J hF.1.2.1))) (hK _ _ rfl (still 3 (by decide) (by decide)) fun _ _ _ _ _ _ _ h=>h)
  ·obtain rfl:=Option.some.inj ho
   have e6:a.eval (.tmp 6)=.pointer (some ⟨b6,0,none⟩):=seen.kp 6 _ (nd 6 (by decide)) rfl
   exact Rg.op_value rfl rfl (Rg.ex_load a.eval _ 38 (.tmp 6) rfl (by rw [e6]; exact loadJ x _ (c2,d2) (box_J hF.1.2.2))) (hK _ _ rfl (still 4 (by decide) (by decide)) fun _ _ _ _ _ _ _ h=>h)
  ·obtain rfl:=Option.some.inj ho
   have e53:a.eval (.tmp 53)=idv (c,d):=seen.at_ ⟨3,.data⟩ (by simp) rfl (Or.inr (by decide)) _ rfl
   have e54:a.eval (.tmp 54)=idv (c2,d2):=seen.at_ ⟨4,.data⟩ (by simp) rfl (Or.inr (by decide)) _ rfl
   exact Rg.op_value rfl rfl (Rg.ex_buildS a.eval _ 77 #[(0,.const (.int .i64 4)),(1,.tmp 53),(2,.tmp 54)] rfl (ps:=#[(0,.int .i64 4),(1,idv (c,d)),(2,idv (c2,d2))]) (by simp only [List.map_toArray,List.map_cons,List.map_nil,e53,e54]; rfl) (by simp [go_sem])) (hK _ _ rfl (still 5 (by decide) (by decide)) fun _ _ _ _ _ _ _ h=>h)
  ·obtain rfl:=Option.some.inj ho
   have e52:a.eval (.tmp 52)=.int .i64 to_:=seen.at_ ⟨2,.data⟩ (by simp) rfl (Or.inr (by decide)) _ rfl
   have e55:a.eval (.tmp 55)=.agg #[.int .i64 4,.int .i64 c,.int .i64 d,.int .i64 c2,.int .i64 d2,.slice none 0 0,.slice none 0 0]:=seen.at_ ⟨5,.data⟩ (by simp) rfl (Or.inr (by decide)) _ rfl
   exact Rg.op_value rfl rfl (Rg.ex_buildS a.eval _ 141 #[(0,.tmp 52),(1,.tmp 55)] rfl (ps:=#[(0,.int .i64 to_),(1,.agg #[.int .i64 4,.int .i64 c,.int .i64 d,.int .i64 c2,.int .i64 d2,.slice none 0 0,.slice none 0 0])]) (by simp only [List.map_toArray,List.map_cons,List.map_nil,e52,e55]) (by simp [go_sem])) (hK _ _ rfl (still 6 (by decide) (by decide)) fun _ _ _ _ _ _ _ h=>h)
  ·obtain rfl:=Option.some.inj ho
   have e56:a.eval (.tmp 56)=valU (to_,4,c,d,c2,d2,(none,0,0),(none,0,0)):=seen.at_ ⟨6,.data⟩ (by simp) rfl (Or.inr (by decide)) _ rfl
   have n8:¬ D 8:=fun h=>hnd (hc 8 _ h rfl ⟨7,.data⟩ (by simp) rfl)
   have n9:¬ D 9:=fun h=>n8 (hc 9 _ h rfl ⟨8,.chain⟩ (by simp) rfl)
   have hb:=hF.2.1 n8
   have hl:=row_lit okU x [((to_,4,c,d,c2,d2,(none,0,0),(none,0,0)):XOu)] 1 rfl (by simp) (cellsU (to_,4,c,d,c2,d2,(none,0,0),(none,0,0))).toArray (by simp [flat,EU])
   have nb:=newB x (.cells (cellsU (to_,4,c,d,c2,d2,(none,0,0),(none,0,0))).toArray 141)
   exact Rg.op_value rfl rfl (Rg.ex_build a.eval _ 78 1 #[(0,.tmp 56)] rfl (ps:=#[(0,valU (to_,4,c,d,c2,d2,(none,0,0),(none,0,0)))]) (by simp [e56]) (by simp [go_sem])) (hK (.slice (some ⟨x.heap.size,0,none⟩) 1 1) (x.alloc (.cells (cellsU (to_,4,c,d,c2,d2,(none,0,0),(none,0,0))).toArray 141)) (own_fewer hl hb.size) ⟨⟨hF.1.1.on nb,hF.1.2.1.on nb,hF.1.2.2.on nb⟩,fun _=>hb.trans (nb.mono hb.size),fun _=>(hb.trans (nb.mono hb.size)).mono FW.out,fun h=>absurd (h.resolve_left (by decide)) n9⟩ fun j u hj dj nl nx ni h=>by
    rcases (by omega:j=0∨j=1∨j=2∨j=3∨j=4∨j=5∨j=6∨j=7∨j=8∨j=9∨j=10) with rfl|rfl|rfl|rfl|rfl|rfl|rfl|rfl|rfl|rfl|rfl
    ·exact h
    ·exact h
    ·exact h
    ·exact h
    ·exact h
    ·exact h
    ·exact h
    ·exact absurd rfl ni
    ·exact absurd dj n8
    ·exact h
    ·exact absurd (hc 10 _ dj rfl ⟨8,.data⟩ (by simp) rfl) n8)
  ·obtain rfl:=Option.some.inj ho
   have e51:a.eval (.tmp 51)=rv:=seen.at_ ⟨1,.data⟩ (by simp) rfl (Or.inr (by decide)) _ rfl
   have o57:OwnU x W.heap.size (a.eval (.tmp 57)) [(to_,4,c,d,c2,d2,(none,0,0),(none,0,0))]:=seen.at_ ⟨7,.data⟩ (by simp) rfl (Or.inl rfl) _ rfl
   have hb:=hF.2.1 hnd
   have n9:¬ D 9:=fun h=>hnd (hc 9 _ h rfl ⟨8,.chain⟩ (by simp) rfl)
   have n10:¬ D 10:=fun h=>hnd (hc 10 _ h rfl ⟨8,.data⟩ (by simp) rfl)
   obtain⟨v',x',r,o',gr⟩:=app_row okU F0 (Bk.own_on HO.out hb) (Row.of_own o57) HL.out (by simp) (Nat.le_trans FW.out hb.size) 78
   obtain⟨sa,sc,hsv⟩:=(Row.of_own o').len
   have hb2:Below F0 W x':=(hb.mono FW.out).grown gr (Nat.le_trans FW.out hb.size) fun j hj=>((Bk.own_on HO.out hb).lt j hj).1
   have vv:dV W.heap.size F0 (.agg #[.int .i64 me,.slice o1 n1 k1,.slice o2 n2 k2,.slice o3 n3 k3,.slice o4 n4 k4,.slice o5 n5 k5]) rv to_ c d c2 d2 lo 8 v' x':=⟨(sa,(lo++[(to_,4,c,d,c2,d2,(none,0,0),(none,0,0))]).length,sc),hsv,o'⟩
   have ff:dF W F0 b4 b5 b6 b8 #[.int .i64 me,.slice o1 n1 k1,.slice o2 n2 k2,.slice o3 n3 k3,.slice o4 n4 k4,.slice o5 n5 k5] c d c2 d2 (fun j=>j=8∨D j) x':=⟨⟨box_boxF H4.out hb2 L4.out,box_boxF H5.out hb2 L5.out,box_boxF H6.out hb2 L6.out⟩,fun h=>absurd (Or.inl rfl) h,fun _=>hb2,fun h=>absurd (h.resolve_left (by decide)) n9⟩
   have st:∀ j u,j<11→D j→(fun i=>if i=7 then 8 else 11) j≠8→j≠8→dV W.heap.size F0 (.agg #[.int .i64 me,.slice o1 n1 k1,.slice o2 n2 k2,.slice o3 n3 k3,.slice o4 n4 k4,.slice o5 n5 k5]) rv to_ c d c2 d2 lo j u x→dV W.heap.size F0 (.agg #[.int .i64 me,.slice o1 n1 k1,.slice o2 n2 k2,.slice o3 n3 k3,.slice o4 n4 k4,.slice o5 n5 k5]) rv to_ c d c2 d2 lo j u x':=fun j u hj dj nx ni h=>by
    rcases (by omega:j=0∨j=1∨j=2∨j=3∨j=4∨j=5∨j=6∨j=7∨j=8∨j=9∨j=10) with rfl|rfl|rfl|rfl|rfl|rfl|rfl|rfl|rfl|rfl|rfl
    ·exact h
    ·exact h
    ·exact h
    ·exact h
    ·exact h
    ·exact h
    ·exact h
    ·exact absurd rfl nx
    ·exact absurd rfl ni
    ·exact h
    ·exact absurd dj n10
   have q:=hK v' x' vv ff fun j u hj dj _ nx ni h=>st j u hj dj nx ni h
   exact Rg.op_value rfl rfl (Rg.ex_append a.eval _ (.tmp 51) (.tmp 57) 78 rfl e51 rfl r) q
  ·obtain rfl:=Option.some.inj ho
   have e50:a.eval (.tmp 50)=.agg #[.int .i64 me,.slice o1 n1 k1,.slice o2 n2 k2,.slice o3 n3 k3,.slice o4 n4 k4,.slice o5 n5 k5]:=seen.at_ ⟨0,.data⟩ (by simp) rfl (Or.inr (by decide)) _ rfl
   have e8:a.eval (.tmp 8)=.pointer (some ⟨b8,0,none⟩):=seen.kp 8 _ (nd 8 (by decide)) rfl
   obtain⟨sl,h58,o58⟩:∃ sl:Sl,a.eval (.tmp 58)=slv sl∧OwnU x F0 (a.eval (.tmp 58)) (lo++[(to_,4,c,d,c2,d2,(none,0,0),(none,0,0))]):=seen.at_ ⟨8,.chain⟩ (by simp) rfl (Or.inr (by decide)) _ rfl
   have hb:=hF.2.2.1 hnd
   have H8x:=box_boxF H8.out hb L8.out
   have s4:=setB_heap x b8 (.int .i64 me) (.slice o1 n1 k1) (.slice o2 n2 k2) (.slice o3 n3 k3) (.slice o4 n4 k4) (.slice o5 n5 k5)
   have d8:D 8:=hD ⟨8,.chain⟩ (by simp) rfl
   have n10:¬ D 10:=fun h=>hnd (hc 10 _ h rfl ⟨9,.chain⟩ (by simp) rfl)
   have hx:=setB_box H8x (.int .i64 me) (.slice o1 n1 k1) (.slice o2 n2 k2) (.slice o3 n3 k3) (.slice o4 n4 k4) (.slice o5 n5 k5)
   have hy:∀ B,B≤b8→Below B W (setB x b8 (.int .i64 me) (.slice o1 n1 k1) (.slice o2 n2 k2) (.slice o3 n3 k3) (.slice o4 n4 k4) (.slice o5 n5 k5)):=fun B hB=>setB_below (hb.mono (Nat.le_of_lt (Nat.lt_of_le_of_lt hB L8.out))) hB _ _ _ _ _ _
   have hs:=storeBr H8x me o1 o2 o3 o4 o5 n1 k1 n2 k2 n3 k3 n4 k4 n5 k5
   have so:∀ v l,OwnU x F0 v l→OwnU (setB x b8 (.int .i64 me) (.slice o1 n1 k1) (.slice o2 n2 k2) (.slice o3 n3 k3) (.slice o4 n4 k4) (.slice o5 n5 k5)) F0 v l:=fun v l h=>setB_ownA h b8 L8.out _ _ _ _ _ _
   generalize setB x b8 (.int .i64 me) (.slice o1 n1 k1) (.slice o2 n2 k2) (.slice o3 n3 k3) (.slice o4 n4 k4) (.slice o5 n5 k5)=x2 at *
   have ff:dF W F0 b4 b5 b6 b8 #[.int .i64 me,.slice o1 n1 k1,.slice o2 n2 k2,.slice o3 n3 k3,.slice o4 n4 k4,.slice o5 n5 k5] c d c2 d2 (fun j=>j=9∨D j) x2:=⟨⟨(s4 b4 N4.out).trans hF.1.1,(s4 b5 N5.out).trans hF.1.2.1,(s4 b6 N6.out).trans hF.1.2.2⟩,fun h=>absurd (Or.inr d8) h,fun h=>absurd (Or.inl rfl) h,fun _=>⟨hx,fun j hj hne=>(s4 j hne).trans (hb.block j hj),hy⟩⟩
   have st:∀ j u,j<11→D j→¬ D ((fun i=>if i=7 then 8 else 11) j)→j≠9→dV W.heap.size F0 (.agg #[.int .i64 me,.slice o1 n1 k1,.slice o2 n2 k2,.slice o3 n3 k3,.slice o4 n4 k4,.slice o5 n5 k5]) rv to_ c d c2 d2 lo j u x→dV W.heap.size F0 (.agg #[.int .i64 me,.slice o1 n1 k1,.slice o2 n2 k2,.slice o3 n3 k3,.slice o4 n4 k4,.slice o5 n5 k5]) rv to_ c d c2 d2 lo j u x2:=fun j u hj dj nl ni h=>by
    rcases (by omega:j=0∨j=1∨j=2∨j=3∨j=4∨j=5∨j=6∨j=7∨j=8∨j=9∨j=10) with rfl|rfl|rfl|rfl|rfl|rfl|rfl|rfl|rfl|rfl|rfl
    ·exact h
    ·exact h
    ·exact h
    ·exact h
    ·exact h
    ·exact h
    ·exact h
    ·exact absurd d8 nl
    ·obtain⟨s,h1,h2⟩:=h
     exact⟨s,h1,so _ _ h2⟩
    ·exact h
    ·exact absurd dj n10
   have q:=hK (.bool true) x2 trivial ff fun j u hj dj nl _ ni h=>st j u hj dj nl ni h
   have q2:K a x2:=q
   exact Rg.op_store 31 (.tmp 8) (.tmp 50) rfl rfl rfl rfl e8 e50 hs q2
  ·obtain rfl:=Option.some.inj ho
   obtain⟨sl,h58,o58⟩:∃ sl:Sl,a.eval (.tmp 58)=slv sl∧OwnU x F0 (a.eval (.tmp 58)) (lo++[(to_,4,c,d,c2,d2,(none,0,0),(none,0,0))]):=seen.at_ ⟨8,.data⟩ (by simp) rfl (Or.inr (by decide)) _ rfl
   exact Rg.op_value rfl rfl (Rg.ex_assign a.eval _ (.tmp 58) rfl x) (hK _ _ ⟨sl,h58,o58⟩ (still 10 (by decide) (by decide)) fun _ _ _ _ _ _ _ h=>h)
 ·intro a x df sz kp ⟨vs,hv⟩ ⟨D,hall,hF⟩
  obtain⟨sl,h1,h2⟩:=(hv 10 (by omega)).2 (by decide)
  have g9:a.tmps[9]?=some (slv sl):=by
   rw [← h1]
   exact (hv 10 (by omega)).1 9 rfl
  obtain⟨e1,e2,e3⟩:=hF.2.2.2 (hall 9 (by omega))
  rw [h1] at h2
  exact HQ.out a x sl df ((kp 8 (nd 8 (by decide))).trans rfl) g9 e1 h2 e2 e3
end Go.Proofs.YtncogjpmboglhaaGreat.Bk
