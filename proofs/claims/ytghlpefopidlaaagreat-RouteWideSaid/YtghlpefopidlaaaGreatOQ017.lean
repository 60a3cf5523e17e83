/-
  A broker's rows lie . Conditions as told.
-/
import Derived.Test.YtghlpefopidlaaaGreatOQ013
import Derived.Test.YtghlpefopidlaaaGreatOQ015
import Derived.Test.YtghlpefopidlaaaGreatOQ016
set_option maxRecDepth 100000
set_option maxHeartbeats 64000000
open _root_.Bool renaming true->ay
open _root_.Go renaming Value->O,World->U,TypeId->aA,Addr->aB
open Go.Addr renaming add->aj
open Go.IntKind renaming i64->Z
open Go.Region renaming binds->X
open Go.Value renaming int->Y,slice->ah,pointer->ak,agg->aC
open _root_.Option renaming some->J,none->au
namespace Go.Proofs.YtghlpefopidlaaaGreat
namespace Bk
open Go.RowKit Rw YtghlpefopidlaaaGreat.Nm Pr
theorem uN {W:U} {b:Nat} {cs:Array O} {t:aA} (hb:dx W b cs t) {a:aB} {v:O} (h:W.cell? a=J v) (e:a.block=b):cs[a.off]?=J v:=by
 unfold World.cell? at h;unfold dx at hb;rw [e,hb] at h;have h2:a.spot=au/\cs[a.off]?=J v:=by simpa using h
 exact h2.2
theorem Ho {W W':U} {b:Nat} (hk:∀ j,j<W.heap.size->j≠b->W'.heap[j]?=W.heap[j]?) {a:aB} {v:O} (h:W.cell? a=J v) (e:a.block≠b):W'.cell? a=J v:=by
 have hlt:=World.block_lt_of_cell? W _ h;unfold World.cell? at h ⊢;rw [hk _ hlt e];exact h
theorem nD (a:aB) (j:Nat):(a.add j).block=a.block:=by unfold aj; split <;> rfl
theorem jB {α:Type} {E:Ek α} (_K:E.Ok) {W W':U} {b:Nat} {v:O} {l:List α} (h:Row E W v l) (hk:∀ j,j<W.heap.size->j≠b->W'.heap[j]?=W.heap[j]?) (hno:∀ (a:aB) (c:α),(∀ j u,(E.cells c)[j]?=J u->W.cell? (a.add j)=J u)->a.block≠b):Row E W' v l:=by
 rcases h with h|⟨a,cap,h1,h2,h3,h4⟩
 ·exact Or.inl h
 ·refine Or.inr ⟨a,cap,h1,h2,h3,fun j u hj=>?_⟩;cases l with
  | nil=>simp [flat] at hj
  | cons c r =>
   have hne:a.block≠b:=hno a c fun j u hj=>h4 j u (by
    rw [flat,List.getElem?_append_left (by exact (List.getElem?_eq_some_iff.1 hj).1)];exact hj)
   exact Ho hk (h4 j u hj) (by rw [nD]; exact hne)
theorem oz {α:Type} {E:Ek α} {W:U} {b:Nat} {cs:Array O} {t:aA} (hb:dx W b cs t) (hE:∀ c:α,∃ i j:Int,(E.cells c)[0]?=J (Y Z i)/\(E.cells c)[1]?=J (Y Z j)) (hcs:∀ (k:Nat) (i j:Int),cs[k]?=J (Y Z i)->cs[k+1]?=J (Y Z j)->False) (a:aB) (c:α) (h:∀ j u,(E.cells c)[j]?=J u->W.cell? (a.add j)=J u):a.block≠b:=fun e=>by
 obtain⟨i,j,h0,h1⟩:=hE c;have c0:=uN hb (h 0 _ h0) (by rw [nD]; exact e);have c1:=uN hb (h 1 _ h1) (by rw [nD]; exact e);have o0:(a.add 0).off=a.off:=by rw [Addr.add_zero']
 have o1:(a.add 1).off=a.off+1:=by rw [add_pos _ _ (by decide)]
 rw [o0] at c0;rw [o1] at c1;exact hcs a.off i j c0 c1
theorem tO {W:U} {b:Nat} {cs:Array O} {t:aA} (hb:dx W b cs t) (hcs:∀ (k:Nat) (s:ByteArray),cs[k]?≠J (.string s)) (a:aB) (c:C5) (h:∀ j u,(EC.cells c)[j]?=J u->W.cell? (a.add j)=J u):a.block≠b:=fun e=>by
 have c0:=uN hb (h 0 _ rfl) (by rw [nD]; exact e);exact hcs _ _ c0
theorem qB (me:Int) (s1 s2 s3 s4 s5:Sl):∀ (k:Nat) (i j:Int),(oM me s1 s2 s3 s4 s5)[k]?=J (Y Z i)->(oM me s1 s2 s3 s4 s5)[k+1]?=J (Y Z j)->False:=by
 intro k i j h1 h2
 match k with
 | 0=>simp at h2
 | 1=>simp at h1
 | 2=>simp at h1
 | 3=>simp at h1
 | 4=>simp at h1
 | 5=>simp at h1
 | k+6=>simp at h1
theorem tQ (me:Int) (s1 s2 s3 s4 s5:Sl):∀ (k:Nat) (s:ByteArray),(oM me s1 s2 s3 s4 s5)[k]?≠J (.string s):=by
 intro k s h
 match k with
 | 0=>simp at h
 | 1=>simp at h
 | 2=>simp at h
 | 3=>simp at h
 | 4=>simp at h
 | 5=>simp at h
 | k+6=>simp at h
theorem Hq {W W':U} {k:Nat} {me:Int} {s1 s2 s3 s4 s5:Sl} {b:Br} {nv av sv ev ov:Sl} (h:lW W b nv av sv ev ov) (hb:dx W k (oM me s1 s2 s3 s4 s5) 30) (hk:∀ j,j<W.heap.size->j≠k->W'.heap[j]?=W.heap[j]?) (hn:Gq W' (dN nv) b.near):lW W' b nv av sv ev ov where
 near:=hn
 dG:=by
  obtain⟨l,h1,h2⟩:=h.dG;exact⟨l,jB okD h1 hk (oz hb (fun c=>⟨_,_,rfl,rfl⟩) (qB me s1 s2 s3 s4 s5)),h2.mono fun x a hx=>⟨hx.1,hx.2.1,jB sP hx.2.2 hk (tO hb (tQ me s1 s2 s3 s4 s5))⟩⟩
 seen:=jB CF h.seen hk (oz hb (fun c=>⟨_,_,rfl,rfl⟩) (qB me s1 s2 s3 s4 s5))
 ent:=by
  obtain⟨l,h1,h2⟩:=h.ent;exact⟨l,jB lF h1 hk (oz hb (fun c=>⟨_,_,rfl,rfl⟩) (qB me s1 s2 s3 s4 s5)),h2.mono fun x a hx=>⟨hx.1,hx.2.1,hx.2.2.1,hx.2.2.2.1,jB sP hx.2.2.2.2 hk (tO hb (tQ me s1 s2 s3 s4 s5))⟩⟩
 own:=by
  obtain⟨l,h1,h2⟩:=h.own;exact⟨l,jB okW h1 hk (oz hb (fun c=>⟨_,_,rfl,rfl⟩) (qB me s1 s2 s3 s4 s5)),h2.mono fun x a hx=>⟨hx.1,jB sP hx.2 hk (tO hb (tQ me s1 s2 s3 s4 s5))⟩⟩
end Bk
namespace Bk
open Go.RowKit Go.Sort Rw YtghlpefopidlaaaGreat.Nm Pr
theorem qC {W:U} {b:Nat} {z0 z1 z2 z3 z4 z5:O} (h:dx W b #[z0,z1,z2,z3,z4,z5] 30) (me:Int) (o1 o2 o3 o4 o5:Option aB) (n1 c1 n2 c2 n3 c3 n4 c4 n5 c5:Nat) :
  (Instr.storeAt 30 (ak (J ⟨b,0,au⟩)) (aC #[Y Z me,ah o1 n1 c1,ah o2 n2 c2,ah o3 n3 c3,ah o4 n4 c4,ah o5 n5 c5])).run Tryz.prog W=.ok () (iI W b (Y Z me) (ah o1 n1 c1) (ah o2 n2 c2) (ah o3 n3 c3) (ah o4 n4 c4) (ah o5 n5 c5)):=by
 obtain⟨x0,x1,x2,x3,x4,x5⟩:=h.gQ;obtain⟨f0,f1,f2,f3,f4,f5⟩:=h.nS;simp [go_sem,x0,x1,x2,x3,x4,x5,f0,f1,f2,f3,f4,f5]
theorem Dq {W:U} {b:Nat} {z0 z1 z2 z3 z4 z5:O} (h:dx W b #[z0,z1,z2,z3,z4,z5] 30):(Instr.loadAt 30 (ak (J ⟨b,0,au⟩))).run Tryz.prog W=.ok (aC #[z0,z1,z2,z3,z4,z5]) W:=by
 obtain⟨x0,x1,x2,x3,x4,x5⟩:=h.gQ;simp [go_sem,x0,x1,x2,x3,x4,x5]
theorem oO {P:Program} (ρ:Operand->O) (o:Oper) (x y z:Operand) (t s r:aA) (f:FuncId) (ho:o.op=.call { callee:=.value (.func f),args:=#[x,y,z],argTypes:=#[t,s,r] }) {v u q:O} (hx:ρ x=v) (hy:ρ y=u) (hz:ρ z=q) (hf:ρ (.func f)=.func (.func f) #[] #[]) (w:U)
  (hc:(callFunc f #[v,u,q]).run P w=.ok (.enter f #[v,u,q]) w):(execOp ρ o).run P w=.ok (.enter f #[v,u,q]) w:=by
 simp [execOp,ho,resolve,invoke,hx,hy,hz,hf,Deferred.ofValue,hc]
abbrev nP:=Int×Int×Int×Int×Int×Int×Sl×Sl
abbrev jL (x:nP):List O:=[Y Z x.1,Y Z x.2.1,Y Z x.2.2.1,Y Z x.2.2.2.1,Y Z x.2.2.2.2.1,Y Z x.2.2.2.2.2.1,dN x.2.2.2.2.2.2.1,dN x.2.2.2.2.2.2.2]
abbrev Aw (x:nP):O:=aC #[Y Z x.1,Y Z x.2.1,Y Z x.2.2.1,Y Z x.2.2.2.1,Y Z x.2.2.2.2.1,Y Z x.2.2.2.2.2.1,dN x.2.2.2.2.2.2.1,dN x.2.2.2.2.2.2.2]
def EU:Ek nP:=⟨46,37,8,96,aC #[Y Z 0,Y Z 0,Y Z 0,Y Z 0,Y Z 0,Y Z 0,ah au 0 0,ah au 0 0],Aw,jL⟩
theorem Uu:(Tryz.prog.info? 46).map (fun i=>(i.zero,i.size,i.bytes))=J (J (aC #[Y Z 0,Y Z 0,Y Z 0,Y Z 0,Y Z 0,Y Z 0,ah au 0 0,ah au 0 0]),8,96):=by kernel_rfl
theorem Uv (w:U) (p:aB) (x:nP) (h:∀ j u,(jL x)[j]?=J u->w.cell? (p.add j)=J u):(Instr.loadAt 46 (ak (J p))).run Tryz.prog w=.ok (Aw x) w:=by
 have h0:=h 0 _ rfl;have h1:=h 1 _ rfl;have h2:=h 2 _ rfl;have h3:=h 3 _ rfl;have h4:=h 4 _ rfl;have h5:=h 5 _ rfl;have h6:=h 6 _ rfl;have h7:=h 7 _ rfl;simp [aj] at h0 h1 h2 h3 h4 h5 h6 h7;simp [go_sem,h0,h1,h2,h3,h4,h5,h6,h7]
theorem Nw:EU.Ok where
 hu:=Tryz.underlying37
 info:=by
  have h:=Uu;cases hi:Tryz.prog.info? 46 with
  | none=>rw [hi] at h; cases h
  | some i =>
   rw [hi] at h;simp only [Option.map_some,Option.some.injEq,Prod.mk.injEq] at h;exact⟨i,hi,h.1,h.2.1,h.2.2⟩
 zs:=rfl
 len:=fun _=>rfl
 one:=fun x u hu=>by
  simp only [EU,jL,List.mem_cons,List.not_mem_nil,or_false] at hu;rcases hu with rfl|rfl|rfl|rfl|rfl|rfl|rfl|rfl <;> rfl
 pos:=by decide
 few:=by decide
 load:=fun w p x h=>Uv w p x h
abbrev Uw (W:U) (v:O) (l:List nP):Prop:=Row EU W v l
abbrev Dr (W:U) (B:Nat) (v:O) (l:List nP):Prop:=Own EU W B v l
theorem TI {W:U} {v:O} {l:List nP} {ao:Option aB} {n c k:Nat} {x:nP} (h:Uw W v l) (hv:v=ah ao n c) (hn:l.length=n) (hk:l[k]?=J x) :
  ∃ p:aB,(∀ w,(Instr.indexAt 37 (ah ao n c) (Y Z k)).run Tryz.prog w=.ok (ak (J p)) w)/\∀ w,Below W.heap.size W w->w.cell? p=J (Y Z x.1)/\w.cell? ⟨p.block,p.off+1,au⟩=J (Y Z x.2.1)/\w.cell? ⟨p.block,p.off+2,au⟩=J (Y Z x.2.2.1)/\w.cell? ⟨p.block,p.off+3,au⟩=J (Y Z x.2.2.2.1)/\w.cell? ⟨p.block,p.off+4,au⟩=J (Y Z x.2.2.2.2.1)/\w.cell? ⟨p.block,p.off+5,au⟩=J (Y Z x.2.2.2.2.2.1)/\w.cell? ⟨p.block,p.off+6,au⟩=J (dN x.2.2.2.2.2.2.1)/\w.cell? ⟨p.block,p.off+7,au⟩=J (dN x.2.2.2.2.2.2.2):=by
 obtain⟨p,h1,_,h2⟩:=pY Nw h hv hn hk;exact⟨p,h1,fun w hw=>⟨by simpa [aj] using h2 w hw 0 _ rfl,by simpa [aj] using h2 w hw 1 _ rfl,by simpa [aj] using h2 w hw 2 _ rfl,by simpa [aj] using h2 w hw 3 _ rfl,by simpa [aj] using h2 w hw 4 _ rfl,by simpa [aj] using h2 w hw 5 _ rfl,by simpa [aj] using h2 w hw 6 _ rfl,by simpa [aj] using h2 w hw 7 _ rfl⟩⟩
abbrev Ay (W:U) (b:Nat) (a0 a1 a2 a3 a4 a5 a6:O):U:=((((((W.setCell ⟨b,0,au⟩ a0).setCell ⟨b,1,au⟩ a1).setCell ⟨b,2,au⟩ a2).setCell ⟨b,3,au⟩ a3).setCell ⟨b,4,au⟩ a4).setCell ⟨b,5,au⟩ a5).setCell ⟨b,6,au⟩ a6
theorem Hr {W:U} {b:Nat} {t:aA} {z0 z1 z2 z3 z4 z5 z6:O} (h:dx W b #[z0,z1,z2,z3,z4,z5,z6] t) (a0 a1 a2 a3 a4 a5 a6:O):dx (Ay W b a0 a1 a2 a3 a4 a5 a6) b #[a0,a1,a2,a3,a4,a5,a6] t:=by
 have h2:=dY (k:=6) (dY (k:=5) (dY (k:=4) (dY (k:=3) (dY (k:=2) (dY (k:=1) (dY (k:=0) h a0) a1) a2) a3) a4) a5) a6;simp only [List.setIfInBounds_toArray,List.set_cons_zero,List.set_cons_succ] at h2;exact h2
end Bk
namespace Rg
open Go.RowKit Rw
structure Px (i N A S:Nat) (d last:Nat->Nat) (V:Nat->O->U->Prop) (base:Act) (o:Oper) (a:Act) (x:U):Prop where
 kp:∀ j u,(∀ i,i<N->d i≠j)->base.tmps[j]?=J u->a.eval (.tmp j)=u
 at_:∀ e∈o.after,X .any e=ay->e.on≠A->e.on≠S->(last e.on=i\/N<=last e.on)->V e.on (a.eval (.tmp (d e.on))) x
structure Zm (l:List Oper) (N A S C:Nat) (d last:Nat->Nat) (V:Nat->O->U->Prop) (t:aA) (zero:Array O) (Jr:O->Array O) (base:Act) (W:U) (L:Array Bool) (a:Act) (x:U):Prop where
 cl:∀ i o,done L i->l[i]?=J o->∀ e∈o.after,X .any e=ay->done L e.on
 no:∀ i,N<=i->¬ done L i
 df:a.defers=base.defers
 sz:a.tmps.size=base.tmps.size
 kp:∀ j,(∀ i,i<N->d i≠j)->a.tmps[j]?=base.tmps[j]?
 pI:Below W.heap.size W x
 val:∃ vs:Nat->O,∀ i,i<N->i≠S->done L i->a.tmps[d i]?=J (vs i)/\(i≠A->¬ done L (last i)->V i (vs i) x)
 box:done L A->¬ done L S->∃ bb,a.tmps[d A]?=J (ak (J ⟨bb,0,au⟩))/\W.heap.size<=bb/\dx x bb zero t
 fin:done L S->∃ bb v,a.tmps[d A]?=J (ak (J ⟨bb,0,au⟩))/\a.tmps[d C]?=J v/\W.heap.size<=bb/\dx x bb (Jr v) t/\V C v x
theorem xH {P:Program} {Q:Exit->Act->U->Prop} {id:Nat} {base:Act} {W:U} {l:List Oper} (N A S C:Nat) (d last:Nat->Nat) (V:Nat->O->U->Prop) (t:aA) (zero:Array O) (Jr:O->Array O)
  (hm:P.follows .mixedOrders=ay) (hf:CK l.toArray=ay) (hN:l.length=N) (hA:A<N) (hS:S<N) (hC:C<N) (Zn:A≠S) (hCS:C≠S) (Zo:A≠C) (Ux:N<=last C)
  (hinj:∀ i j,i<N->j<N->i≠S->j≠S->d i=d j->i=j) (hs:∀ i,i<N->d i<base.tmps.size)
  (hV:∀ i v x x',i<N->V i v x->Below x.heap.size x x'->V i v x')
  (hw:∀ o,l[S]?=J o->(∃ e∈o.after,X .any e=ay/\e.on=A)/\∃ e∈o.after,X .any e=ay/\e.on=C)
  (hop:∀ i o,i<N->i≠A->i≠S->l[i]?=J o->∀ a x,Below W.heap.size W x->Px i N A S d last V base o a x->∀ K:Act->U->Prop,(∀ v x',V i v x'->Below x.heap.size x x'->K (a.put (J (d i)) v) x')->wpOp P l.toArray Q i K a x)
  (hoA:∀ o,l[A]?=J o->∀ a x,∀ K:Act->U->Prop,K (a.put (J (d A)) (ak (J ⟨x.heap.size,0,au⟩))) (x.alloc (.cells zero t))->wpOp P l.toArray Q A K a x)
  (XP:∀ o,l[S]?=J o->∀ a x bb v (D:Nat->Prop),(∀ j oj,D j->l[j]?=J oj->∀ e∈oj.after,X .any e=ay->D e.on)->(∀ e∈o.after,X .any e=ay->D e.on)->Below W.heap.size W x->a.eval (.tmp (d A))=ak (J ⟨bb,0,au⟩)->a.eval (.tmp (d C))=v->V C v x->W.heap.size<=bb->dx x bb zero t->∀ K:Act->U->Prop,(∀ x',Below W.heap.size W x'->dx x' bb (Jr v) t->(∀ j u,j<N->j≠A->j≠S->D j->¬ D (last j)->last j≠S->V j u x->V j u x')->K a x')->wpOp P l.toArray Q S K a x)
  (hend:∀ a x bb v,a.defers=base.defers->a.tmps.size=base.tmps.size->(∀ j,(∀ i,i<N->d i≠j)->a.tmps[j]?=base.tmps[j]?)->a.tmps[d A]?=J (ak (J ⟨bb,0,au⟩))->a.tmps[d C]?=J v->W.heap.size<=bb->dx x bb (Jr v) t->V C v x->Below W.heap.size W x->(∃ vs:Nat->O,∀ i,i<N->i≠S->i≠A->a.tmps[d i]?=J (vs i)/\(N<=last i->V i (vs i) x))->Q .normal a x):(Code.region id l.toArray ay).wp P Q base W:=by
 refine ng (fun L a x=>Zm l N A S C d last V t zero Jr base W L a x) hm hf ?_ ?_ ?_
 ·exact⟨fun i o h=>absurd h (fP _ _),fun i _=>fP _ _,rfl,rfl,fun _ _=>rfl,(Below.refl _ _).drew,⟨fun _=>.bool ay,fun i _ _ h=>absurd h (fP _ _)⟩,fun h=>absurd h (fP _ _),fun h=>absurd h (fP _ _)⟩
 ·intro L a x i o hsz I ho hnd kP;have hi:i<l.length:=(List.getElem?_eq_some_iff.1 ho).1;have M9:i<N:=by omega
  have uz:i<L.size:=by omega
  obtain⟨vs,hvs⟩:=I.val;have hon:∀ e∈o.after,X .any e=ay->e.on<i:=fun e he hb=>by
   have h7:=List.all_eq_true.1 hf i (List.mem_range.2 (by simpa using hi));have ho':(l.toArray)[i]?=J o:=by simpa using ho
   rw [ho'] at h7;have h8:=Array.all_eq_true'.1 h7 e he;rw [hb] at h8;simpa using h8
  have dd:∀ {k},k≠i->done (L.setIfInBounds i ay) k->done L k:=fun {k} h h5=>((fK uz k).1 h5).resolve_left h;have du:∀ {k},done L k->done (L.setIfInBounds i ay) k:=fun {k} h=>(fK uz k).2 (Or.inr h);have cl':∀ k q,done (L.setIfInBounds i ay) k->l[k]?=J q->∀ e∈q.after,X .any e=ay->done (L.setIfInBounds i ay) e.on:=fun k q hk hq e he hb=>by
   by_cases e2:k=i
   ·subst e2;rw [hq] at ho;cases ho;exact du (kP e he hb)
   ·exact du (I.cl k q (dd e2 hk) hq e he hb)
  have no':∀ k,N<=k->¬ done (L.setIfInBounds i ay) k:=fun k hk h=>I.no k hk (dd (by omega) h);have seen:Px i N A S d last V base o a x:=⟨fun j u hj hu=>dL (by rw [I.kp j hj]; exact hu),fun e he hb hA' hS' hl=>by
   obtain⟨h1,h2⟩:=hvs e.on (by have:=hon e he hb; omega) hS' (kP e he hb);rw [dL h1];refine h2 hA' ?_;rcases hl with hl|hl
   ·rw [hl]; exact hnd
   ·exact I.no _ hl⟩
  have Uy:i≠S->∀ v x',Below x.heap.size x x'->(i≠A->V i v x')->(i=A->∃ bb,v=ak (J ⟨bb,0,au⟩)/\W.heap.size<=bb/\dx x' bb zero t)->Zm l N A S C d last V t zero Jr base W (L.setIfInBounds i ay) (a.put (J (d i)) v) x':=by
   intro wE v x' hb hpv hpa;have self:(a.put (J (d i)) v).tmps[d i]?=J v:=by
    have h5:d i<a.tmps.size:=by rw [I.sz]; exact hs i M9
    simp [Act.put,h5]
   have keep:∀ k,k<N->k≠S->k≠i->(a.put (J (d i)) v).tmps[d k]?=a.tmps[d k]?:=fun k hk wK hki=>get_put _ _ _ _ (fun e=>hki (hinj _ _ hk M9 wK wE e));refine⟨cl',no',I.df,by rw [size_put]; exact I.sz,fun j hj=>?_,I.pI.trans (hb.mono I.pI.size),⟨fun k=>if k=i then v else vs k,fun k hk wK hdn=>?_⟩,fun h1 h2=>?_,fun h1=>?_⟩
   ·rw [get_put _ _ _ _ (fun e=>hj i M9 e.symm)];exact I.kp j hj
   ·by_cases e:k=i
    ·subst e;simp only [if_true];exact⟨self,fun h3 _=>hpv h3⟩
    ·simp only [if_neg e];obtain⟨h3,h4⟩:=hvs k hk wK (dd e hdn);exact⟨by rw [keep k hk wK e]; exact h3,fun h5 h6=>hV k _ _ _ hk (h4 h5 (fun h=>h6 (du h))) hb⟩
   ·by_cases e:A=i
    ·subst e;obtain⟨bb,rfl,h4,h5⟩:=hpa rfl;exact⟨bb,self,h4,h5⟩
    ·obtain⟨bb,h3,h4,h5⟩:=I.box (dd e h1) (fun h=>h2 (du h));exact⟨bb,by rw [keep A hA Zn e]; exact h3,h4,h5.on hb⟩
   ·have h2:=dd (Ne.symm wE) h1;obtain⟨bb,u,h5,h6,h7,h8,h9⟩:=I.fin h2;obtain⟨oS,Az⟩:∃ oS,l[S]?=J oS:=⟨_,List.getElem?_eq_getElem (by omega)⟩;obtain⟨⟨ea,k1,k2,k3⟩,ec,k4,k5,k6⟩:=hw oS Az;have dA:=I.cl S oS h2 Az ea k1 k2;have dC:=I.cl S oS h2 Az ec k4 k5;rw [k3] at dA;rw [k6] at dC;have eA:A≠i:=fun e=>hnd (e ▸ dA);have eC:C≠i:=fun e=>hnd (e ▸ dC);exact⟨bb,u,by rw [keep A hA Zn eA]; exact h5,by rw [keep C hC hCS eC]; exact h6,h7,h8.on hb,hV C _ _ _ hC h9 hb⟩
  by_cases wE:i=S
  ·subst wE;obtain⟨⟨ea,h1,h2,h3⟩,ec,h4,h5,h6⟩:=hw o ho;have dA:=kP ea h1 h2;have dC:=kP ec h4 h5;rw [h3] at dA;rw [h6] at dC;obtain⟨v1,v2⟩:=hvs C hC hCS dC;obtain⟨bb,b1,b2,b3⟩:=I.box dA hnd;have vC:=v2 (Ne.symm Zo) (I.no _ Ux);refine XP o ho a x bb (vs C) (done L) I.cl kP I.pI (dL b1) (dL v1) vC b2 b3 _ (fun x' q1 q2 q3=>⟨cl',no',I.df,I.sz,I.kp,q1,⟨vs,fun k hk wK hdn=>?_⟩,fun _ hn=>absurd ((fK uz _).2 (Or.inl rfl)) hn,fun _=>⟨bb,vs C,b1,v1,b2,q2,?_⟩⟩)
   ·obtain⟨w1,w2⟩:=hvs k hk wK (dd wK hdn);refine⟨w1,fun Zp hnl=>?_⟩;have n1:last k≠i:=fun e=>hnl ((fK uz _).2 (Or.inl e));have n2:¬ done L (last k):=fun e=>hnl (du e);exact q3 k _ hk Zp wK (dd wK hdn) n2 n1 (w2 Zp n2)
   ·exact q3 C _ hC (Ne.symm Zo) hCS dC (I.no _ Ux) (by omega) vC
  ·by_cases Rs:i=A
   ·subst Rs;refine hoA o ho a x _ (Uy wE _ _ ((Below.refl _ _).alloc (Nat.le_refl _) _) (fun h=>absurd rfl h) (fun _=>⟨x.heap.size,rfl,I.pI.size,dK x zero t⟩))
   ·refine hop i o M9 Rs wE ho a x I.pI seen _ (fun v x' q1 q2=>Uy wE v x' q2 (fun _=>q1) (fun e=>absurd e Rs))
 ·intro L a x I hd;have dS:=hd S (by omega);obtain⟨bb,v,h1,h2,h3,h4,h5⟩:=I.fin dS;obtain⟨vs,hvs⟩:=I.val;exact hend a x bb v I.df I.sz I.kp h1 h2 h3 h4 h5 I.pI ⟨vs,fun i hi wE Rs=>by
   obtain⟨k1,k2⟩:=hvs i hi wE (hd i (by omega));exact⟨k1,fun hl=>k2 Rs (I.no _ hl)⟩⟩
end Rg
end Go.Proofs.YtghlpefopidlaaaGreat
