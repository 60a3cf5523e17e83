/-
  Publications of stag. Conditions as told.
-/
import Derived.Test.YtkcfgbddlpomgaaGreatOQ032
import Derived.Test.YtkcfgbddlpomgaaGreatOQ034
import Derived.Test.YtkcfgbddlpomgaaGreatOQ035
set_option maxRecDepth 100000
set_option maxHeartbeats 64000000
open _root_.Bool renaming and_eq_true->V,not_eq_true'->aG,true->aO
open _root_.Go renaming World->ah,Value->aK,Calls->aM
open Go.Builtin renaming append_->aj
open Go.Ending renaming returned->X
open Go.Lib renaming hid->ak
open Go.Proofs.Tryz renaming prog->K,ntmps35->aJ,func35->aL
open Go.Value renaming slice->Z,bool->aN
open _root_.List renaming mem_filter->D,map_append->J,length_filter_le->O,filter_append->Y,any_eq_true->au,filter_cons_of_pos->ay,filter_cons_of_neg->aA,mem_map->aB,filter_sublist->aF,length_map->aH,mem_range->aI
open _root_.Nat renaming le_trans->U
open _root_.Option renaming some->aC,none->aD
namespace Go.Proofs.YtkcfgbddlpomgaaGreat
namespace Ca
open Go.RowKit Go.Sort Rw YtkcfgbddlpomgaaGreat.Nm Pr Bk Av Rl Sb Fl
structure qU (b:Br):Prop where
 ok:jZ b
 few:Kw b
 uY:wL b
 pe:∀ e∈b.ent,dW e.p
 po:∀ o∈b.own,dW o.p
 cl:∀ o∈b.own,0<=o.id.1/\o.id.1<32
 np:∀ n∈b.near,n≠-1
theorem KI.ai0 {b:Br} (h:KI 12 b) (hs:KS b) (hn:b.near=(List.range b.near.length).map fun (j:Nat)=>(j:Int)+1):qU b:=⟨h.ok,h.few,h.uY,h.pe,h.po,fun o ho=>by have:=hs.2 o ho; unfold K4 at this; omega,fun n hm=>by
 rw [hn] at hm;obtain⟨j,_,rfl⟩:=aB.1 hm;omega⟩
def Gx (k:Int) (t x:eT) (l:List An) (ns:List Int):List (Ou×List An):=ns.map fun n=>(⟨n,k,t,x,[]⟩,l)
def JR (x:eT) (l:List An) (cs:List Int):List ((Int×eT)×List An):=cs.map fun c=>((c,x),l)
theorem WQ (W:ah):gu W (Z aD 0 0) []:=Or.inl ⟨rfl,rfl⟩
theorem OH (pv lv:aK) (p:List C5) (l:List An) (w:ah) (hp:gu w pv p) (hl:wH w lv l) (np:dW p) (nl:NL l) :
  aM K 18 #[pv,lv] w fun e w'=>e=X (aN (pR p l))/\Below w.heap.size w w':=by
 obtain⟨a,ha,rfl⟩:=np;unfold pR;rw [qy];exact Eh pv lv a l w hp hl ha nl
theorem OJ {wr w0:ah} {B:Nat} {v:aK} {lu:List Int} (x:Int) (o:kS wr B v lu) (hn:lu.length<=1000) (hB:B<=wr.heap.size) (hb:Below B w0 wr) :
  ∃ v' w',(aj #[25,25] 25 #[v,Z (aC ⟨wr.heap.size,0,aD⟩) 1 1]).run K (wr.alloc (.cells #[.int .i64 x] 3))=.ok v' w'/\kS w' B v' (lu++[x])/\Below B w0 w':=by
 have NB:=fI wr (.cells #[.int .i64 x] 3);have o1:kS (wr.alloc (.cells #[.int .i64 x] 3)) B v lu:=Bk.dG o NB;obtain⟨v',w',r',o',g'⟩:=ahP B o1 (Sr wr x) hn (by simp) (U hB NB.size);exact⟨v',w',r',o',(hb.trans (NB.mono hB)).grown g' (U hB NB.size) fun j hj=>(o1.lt j hj).1⟩
theorem Ey (w:ah) (B:Nat) (v:Sl) (l:List Int) (h:kS w B (dU v) l) (hl:l.length<=900) (hB:B<=w.heap.size) :
  aM K 43 #[dU v] w fun e w'=>(∃ (v':Sl) (l':List Int),e=X (dU v')/\kS w' B (dU v') l'/\l'.Pairwise (·<·)/\∀ x,x∈l'↔x∈l)/\Below B w w':=by
 obtain⟨p1,p2,p3⟩:=v;have C:=ak (DC w B _ l h hl);have OT:=ak (fun g hg=>(h.lt g hg).1);have HL:=ak hl;have HB:=ak hB;clear h hl hB;go_enter Tryz.func43,Tryz.ntmps43;go_wp2_with fail;refine C.out.mono ?_;rintro e2 w2 ⟨rfl,l2,ho2,hp2,hs2,hg2⟩;have B2:=ak ((Below.refl B w).grown hg2 HB.out (fun j hj=>OT.out j hj));have C3:=ak (Iu w2 B (p1,p2,p3) l2 ho2 hs2 (by rw [hp2.length_eq]; exact HL.out));have PM:=ak hp2;have OT2:=ak (fun g hg=>(ho2.lt g hg).1);clear ho2 hp2 hs2 hg2 C OT;go_wp2_with fail;refine C3.out.mono ?_;rintro e3 w3 ⟨⟨⟨t1,t2,t3⟩,rfl,l3,ho3,hs3,hm3⟩,hg3⟩;have Q:=ak (show (∃ (v':Sl) (l':List Int),X (Z t1 t2 t3)=X (dU v')/\kS w3 B (dU v') l'/\l'.Pairwise (·<·)/\∀ x,x∈l'↔x∈l)/\Below B w w3 from ⟨⟨(t1,t2,t3),l3,rfl,ho3,hs3,fun x=>(hm3 x).trans PM.out.mem_iff⟩,B2.out.grown hg3 (U HB.out (B2.out.size)) (fun j hj=>OT2.out j hj)⟩);clear ho3 hs3 hm3 hg3 C3 B2 PM OT2;go_wp2;go_ret;exact Q.out
theorem WT {b:Br} (h:qU b) (t:eT) (l:List An):(toB b t l).Pairwise (·<·):=h.ok.near.sublist aF
theorem OQ {b:Br} (h:qU b) (t:eT) (l:List An):(toB b t l).length<=900:=U (O _ _) h.few.near
theorem Zx {b:Br} (h:qU b) {t:eT} {l:List An} {e:En} (he:e∈b.ent) (ht:e.tree=t) (hf:e.from_≠-1) (hm:pR e.p l=aO):e.from_∈toB b t l:=by
 have h5:=h.ok.NM e he;unfold yK at h5;cases hfa:gD b.dQ e.tree with
 | none=>rw [hfa] at h5; cases h5
 | some a =>
  rw [hfa] at h5;simp only [V] at h5;have h6:=h5.2.1;unfold jS at h6;have h7:e.from_∈b.near:=by simpa [hf] using h6
  refine D.2 ⟨h7,au.2 ⟨e,he,?_⟩⟩;unfold IG;simp [ht,hm]
theorem Rn:Qm.Pairwise (·<·):=by decide
theorem WU {n:Int}:n∈Qm↔0<=n/\n<32:=by
 unfold Qm;rw [aB];constructor
 ·rintro⟨j,hj,rfl⟩; have:=aI.1 hj; omega
 ·rintro⟨h1,h2⟩; exact⟨n.toNat,aI.2 (by omega),by omega⟩
theorem Ro (b:Br) (l:List An):(q8 b l).Pairwise (·<·):=Rn.sublist aF
theorem JU (b:Br) (l:List An):(q8 b l).length<=32:=U (O _ _) (by simp [Qm])
theorem WV {b:Br} (h:qU b) {l:List An} {n:Int}:n∈q8 b l↔∃ o∈b.own,o.id.1=n/\pR o.p l=aO:=by
 unfold q8;rw [D,WU,au];constructor
 ·rintro⟨_,o,h1,h2⟩;unfold sM at h2;simp only [V,decide_eq_true_eq] at h2;exact⟨o,h1,h2⟩
 ·rintro⟨o,h1,h2,h3⟩;exact⟨by rw [<- h2]; exact h.cl o h1,o,h1,by unfold sM; simp [h2,h3]⟩
def p9 (m:List En) (l:List An):List Int:=(m.filter fun e=>!decide (e.from_=-1) && pR e.p l).map (·.from_)
def qb (m:List Ow) (l:List An):List Int:=(m.filter fun o=>pR o.p l).map fun o=>o.id.1
theorem Rp {b:Br} (h:qU b) {t:eT} {l:List An} {n:Int}:n∈p9 (mZ b.ent t) l↔n∈toB b t l:=by
 unfold p9;rw [aB];constructor
 ·rintro⟨e,he,rfl⟩;obtain⟨h1,h2⟩:=D.1 he;simp only [V,aG,decide_eq_false_iff_not] at h2;obtain⟨h3,h4⟩:=(Lx (show iB b.ent from h.ok.ent) t e).1 h1;exact Zx h h3 h4 h2.1 h2.2
 ·intro hn;obtain⟨h1,h2⟩:=D.1 hn;obtain⟨e,h3,h4⟩:=au.1 h2;unfold IG at h4;simp only [V,decide_eq_true_eq] at h4;refine⟨e,D.2 ⟨(Lx (show iB b.ent from h.ok.ent) t e).2 ⟨h3,h4.1⟩,?_⟩,h4.2.1⟩;simp only [V,aG,decide_eq_false_iff_not];exact⟨by rw [h4.2.1]; exact h.np n h1,h4.2.2⟩
theorem Rq {b:Br} (h:qU b) {l:List An} {n:Int}:n∈qb b.own l↔n∈q8 b l:=by
 rw [WV h];unfold qb;rw [aB];constructor
 ·rintro⟨o,ho,rfl⟩;obtain⟨h1,h2⟩:=D.1 ho;exact⟨o,h1,rfl,h2⟩
 ·rintro⟨o,h1,h2,h3⟩;exact⟨o,D.2 ⟨h1,h3⟩,h2⟩
theorem Ez (m:List En) (l:List An):(p9 m l).length<=m.length:=by
 unfold p9;rw [aH];exact O _ _
theorem EH (m:List Ow) (l:List An):(qb m l).length<=m.length:=by
 unfold qb;rw [aH];exact O _ _
theorem o9 {α:Type} (m:List α) (k:Nat) (e:α) (he:m[k]?=aC e):m.take (k+1)=m.take k++[e]:=by
 rw [List.take_add_one,he]
 rfl
theorem Rs {m:List En} {l:List An} {k:Nat} {e:En} (he:m[k]?=aC e) (hf:e.from_≠-1) (hh:pR e.p l=aO):p9 (m.take (k+1)) l=p9 (m.take k) l++[e.from_]:=by
 unfold p9;rw [o9 m k e he,Y,J,ay (by simp [hf,hh])]
 rfl
theorem JW {m:List En} {l:List An} {k:Nat} {e:En} (he:m[k]?=aC e) (hf:e.from_=-1\/pR e.p l=false):p9 (m.take (k+1)) l=p9 (m.take k) l:=by
 unfold p9;rw [o9 m k e he,Y,J,aA (by rcases hf with h | h <;> simp [h])];simp
theorem Ru {m:List Ow} {l:List An} {k:Nat} {e:Ow} (he:m[k]?=aC e) (hh:pR e.p l=aO):qb (m.take (k+1)) l=qb (m.take k) l++[e.id.1]:=by
 unfold qb;rw [o9 m k e he,Y,J,ay (by simp [hh])]
 rfl
theorem WW {m:List Ow} {l:List An} {k:Nat} {e:Ow} (he:m[k]?=aC e) (hh:pR e.p l=false):qb (m.take (k+1)) l=qb (m.take k) l:=by
 unfold qb;rw [o9 m k e he,Y,J,aA (by simp [hh])];simp
theorem agr {b:Br} (h:qU b) {t:eT} {l:List An} {r:List Int} (hr:r.Pairwise (·<·)) (hm:∀ x,x∈r↔x∈p9 (mZ b.ent t) l):r=toB b t l :=
 uP hr (WT h t l) fun x=>(hm x).trans (Rp h)
theorem ags {b:Br} (h:qU b) {l:List An} {r:List Int} (hr:r.Pairwise (·<·)) (hm:∀ x,x∈r↔x∈qb b.own l):r=q8 b l :=
 uP hr (Ro b l) fun x=>(hm x).trans (Rq h)
theorem Ci (v:Sl) (l:List An) (w:ah) (hv:Row EA w (dU v) l) (hl:l.length<=900) :
  aM K 35 #[dU v] w fun e w'=>(∃ v':Sl,e=X (dU v')/\Own EA w' w.heap.size (dU v') l)/\Below w.heap.size w w':=by
 obtain⟨vo,vn,vc⟩:=v;rcases hv with⟨rfl,hv⟩|⟨a,cap,hv,h1,h2,h3⟩
 ·obtain⟨rfl,rfl,rfl⟩:vo=aD/\vn=0/\vc=0:=by simpa using hv
  clear hv hl;have q:∀ w',(binOp .eql 39 (Z aD 0 0) (Z aD 0 0)).run K w'=.ok (aN aO) w':=fun w'=>VZ aD 0 0 w';go_enter aL,aJ;go_wp2;go_ret;exact⟨⟨(aD,0,0),rfl,gB _ _⟩,Below.refl _ _⟩
 ·obtain⟨rfl,rfl,rfl⟩:vo=aC a/\vn=l.length/\vc=cap:=by simpa using hv
  have hx:Row EA w (Z (aC a) l.length vc) l:=Or.inr ⟨a,vc,rfl,h1,h2,h3⟩;have n0:=fI w (.cells #[] 97);obtain⟨q0,w0,r0,o0,g0⟩:=gK okA w.heap.size (dO w #[] 97) (Nat.le_refl _) (hx.on n0) (by omega) 39;obtain⟨v1,v3,hv1⟩:=(Row.dH o0).len;obtain⟨n,hn⟩:∃ n,n=l.length:=⟨_,rfl⟩;have Q:=ak (show (∃ v':Sl,X q0=X (dU v')/\Own EA w0 w.heap.size (dU v') l)/\Below w.heap.size w w0 from ⟨⟨(v1,l.length,v3),by rw [hv1],by subst hv1; exact o0⟩,n0.trans (g0.mono n0.size)⟩);rw [<- hn] at r0 ⊢;clear hv h1 h2 h3 hx o0 g0 n0 hv1 hn hl;have q:∀ w',(binOp .eql 39 (Z (aC a) n vc) (Z aD 0 0)).run K w'=.ok (aN false) w':=fun w'=>VZ (aC a) n vc w';have r0:(aj #[39,39] 39 #[Z (aC ⟨w.heap.size,0,aD⟩) 0 0,Z (aC a) n vc]).run K (w.alloc (.cells #[] 97))=.ok q0 w0:=r0;go_enter aL,aJ;go_wp2_with (first | (at_builtin; refine wpList_append_run rfl _ _ 39 rfl rfl rfl r0 ?_) | fail);go_ret;exact Q.out
theorem Ml (w:ah):aM K 66 #[Z aD 0 0] w fun e w'=>e=X (Z aD 0 0)/\Below w.heap.size w w':=by
 have q:∀ w',(binOp .eql 41 (Z aD 0 0) (Z aD 0 0)).run K w'=.ok (aN aO) w':=fun w'=>KT aD 0 0 w';go_enter Tryz.func66,Tryz.ntmps66;go_wp2;go_ret;exact⟨rfl,Below.refl _ _⟩
def OY (W:ah) (B:Nat) (x:qd) (o:Ou×List An):Prop:=x.1=o.1.iA/\x.2.1=o.1.kind/\(x.2.2.1,x.2.2.2.1)=o.1.tree/\(x.2.2.2.2.1,x.2.2.2.2.2.1)=o.1.id/\x.2.2.2.2.2.2.1=(aD,0,0)/\o.1.p=[]/\Fy W B (dU x.2.2.2.2.2.2.2) o.2
theorem OY.on {W W':ah} {B:Nat} {x:qd} {o:Ou×List An} (h:OY W B x o) (hb:Below W.heap.size W W'):OY W' B x o:=⟨h.1,h.2.1,h.2.2.1,h.2.2.2.1,h.2.2.2.2.1,h.2.2.2.2.2.1,Bk.dG h.2.2.2.2.2.2 hb⟩
theorem OY.app {W W':ah} {B B':Nat} {x:qd} {o:Ou×List An} {v:aK} {l:List qd} (h:OY W B x o) (ho:jB W B' v l) (gr:W.grownBy W' v.ownBlock):OY W' B x o:=⟨h.1,h.2.1,h.2.2.1,h.2.2.2.1,h.2.2.2.2.1,h.2.2.2.2.2.1,Gn ho gr h.2.2.2.2.2.2 (by decide)⟩
theorem OY.a {W:ah} {B:Nat} {x:qd} {o:Ou×List An} (h:OY W B x o):OuA W x o:=⟨h.1,h.2.1,h.2.2.1,h.2.2.2.1,by rw [h.2.2.2.2.1,h.2.2.2.2.2.1]; exact WQ W,Row.dH h.2.2.2.2.2.2⟩
def Ka (W:ah) (B:Nat) (x:FZ) (o:(Int×eT)×List An):Prop:=x.1=o.1.1/\(x.2.1,x.2.2.1)=o.1.2/\Fy W B (dU x.2.2.2) o.2
theorem Ka.on {W W':ah} {B:Nat} {x:FZ} {o:(Int×eT)×List An} (h:Ka W B x o) (hb:Below W.heap.size W W'):Ka W' B x o:=⟨h.1,h.2.1,Bk.dG h.2.2 hb⟩
theorem Ka.app {W W':ah} {B B':Nat} {x:FZ} {o:(Int×eT)×List An} {v:aK} {l:List FZ} (h:Ka W B x o) (ho:IE W B' v l) (gr:W.grownBy W' v.ownBlock):Ka W' B x o:=⟨h.1,h.2.1,Gn ho gr h.2.2 (by decide)⟩
theorem Ka.a {W:ah} {B:Nat} {x:FZ} {o:(Int×eT)×List An} (h:Ka W B x o):DlA W x o:=⟨h.1,h.2.1,Row.dH h.2.2⟩
theorem ad9 {wr w0:ah} {B:Nat} {v:aK} {lx:List qd} {L:List (Ou×List An)} (x:qd) (o:Ou×List An) (ho:jB wr B v lx) (hA:eH (OY wr B) lx L) (hx:OY wr B x o) (hn:lx.length<=1000) (hB:B<=wr.heap.size) (hb:Below B w0 wr) :
  ∃ v' w',(aj #[44,44] 44 #[v,Z (aC ⟨wr.heap.size,0,aD⟩) 1 1]).run K (wr.alloc (.cells (kG x).toArray 58))=.ok v' w'/\jB w' B v' (lx++[x])/\eH (OY w' B) (lx++[x]) (L++[o])/\Below B w0 w':=by
 have NB:=fI wr (.cells (kG x).toArray 58);have hlit:=iD Il wr [x] 1 rfl (by simp) (kG x).toArray rfl;have o1:jB (wr.alloc (.cells (kG x).toArray 58)) B v lx:=Bk.dG ho NB;obtain⟨v',w',r',o',g'⟩:=gG Il B o1 (Row.dH hlit) hn (by simp) (U hB NB.size) 44;have g:∀ y z,OY wr B y z->OY w' B y z:=fun y z q=>(q.on NB).app o1 g';exact⟨v',w',r',o',(hA.mono g).append (.cons (g _ _ hx) .nil),(hb.trans (NB.mono hB)).grown g' (U hB NB.size) fun j hj=>(o1.lt j hj).1⟩
theorem Rv {k:Int} {t x:eT} {l:List An} {ns:List Int} {q:Nat} {n:Int} (h:ns[q]?=aC n):Gx k t x l (ns.take (q+1))=Gx k t x l (ns.take q)++[(⟨n,k,t,x,[]⟩,l)]:=by
 unfold Gx;rw [o9 ns q n h,J]
 rfl
theorem Rx {x:eT} {l:List An} {ns:List Int} {q:Nat} {n:Int} (h:ns[q]?=aC n):JR x l (ns.take (q+1))=JR x l (ns.take q)++[((n,x),l)]:=by
 unfold JR;rw [o9 ns q n h,J]
 rfl
theorem WX {b:Br} {f:Int} {t:eT} {l:List An} (h:gD b.dQ t=aD):qO b f t l=([],[]):=by
 have h:(b.dQ.find? fun a=>decide (a.id=t))=aD:=h;unfold qO;rw [h]
theorem Mq {b:Br} {f:Int} {t:eT} {l:List An} {a:Ad} (h:gD b.dQ t=aC a) (hf:a.par≠f):qO b f t l=([],[]):=by
 have h:(b.dQ.find? fun a=>decide (a.id=t))=aC a:=h;unfold qO;rw [h];exact if_neg hf
theorem WY {b:Br} {f:Int} {t:eT} {l:List An} {a:Ad} (h:gD b.dQ t=aC a) (hf:a.par=f):qO b f t l=(toB b t l,q8 b l):=by
 have h:(b.dQ.find? fun a=>decide (a.id=t))=aC a:=h;unfold qO;rw [h];exact if_pos hf
theorem Zy {wr w0:ah} {B:Nat} {v r:aK} {lx:List FZ} {L:List ((Int×eT)×List An)} (x:FZ) (o:(Int×eT)×List An) (ho:IE wr B v lx) (hr:ah9 wr r [x]) (hA:eH (Ka wr B) lx L) (hx:Ka wr B x o) (hn:lx.length<=1000) (hB:B<=wr.heap.size) (hb:Below B w0 wr) :
  ∃ v' w',(aj #[45,45] 45 #[v,r]).run K wr=.ok v' w'/\IE w' B v' (lx++[x])/\eH (Ka w' B) (lx++[x]) (L++[o])/\Below B w0 w':=by
 obtain⟨v',w',r',o',g'⟩:=gG okG B ho hr hn (by simp) hB 45;have g:∀ y z,Ka wr B y z->Ka w' B y z:=fun y z q=>q.app ho g';exact⟨v',w',r',o',(hA.mono g).append (.cons (g _ _ hx) .nil),hb.grown g' hB fun j hj=>(ho.lt j hj).1⟩
theorem JX {W:ah} {lx:List qd} {k:Int} {t x:eT} {l:List An} {ns:List Int} (h:eH (OuA W) lx (Gx k t x l ns)):lx.length=ns.length:=by rw [h.len]; simp [Gx]
theorem WZ {W:ah} {lx:List FZ} {x:eT} {l:List An} {ns:List Int} (h:eH (DlA W) lx (JR x l ns)):lx.length=ns.length:=by rw [h.len]; simp [JR]
end Ca
namespace Rg
open Go.RowKit Rw Av
end Rg
end Go.Proofs.YtkcfgbddlpomgaaGreat
