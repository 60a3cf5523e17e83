/-
  Match of package rel. Conditions as told.
-/
import Derived.Test.YtkcfgbddlpomgaaGreatCQ039
import Derived.Test.YtkcfgbddlpomgaaGreatCQ040
import Derived.Test.YtkcfgbddlpomgaaGreatCQ041
set_option maxRecDepth 100000
set_option maxHeartbeats 64000000
open _root_.Bool renaming and_eq_true->V,not_eq_true'->aH,true->aP
open _root_.Go renaming World->Z,Value->aL,Calls->aN
open Go.Builtin renaming append_->ak
open Go.Ending renaming returned->X
open Go.Lib renaming hid->au
open Go.Proofs.Tryz renaming prog->O,ntmps35->aK,func35->aM
open Go.Value renaming slice->ah,bool->aO
open _root_.List renaming length_filter_le->D,mem_filter->J,map_append->K,filter_append->Y,mem_map->aj,any_eq_true->aA,filter_cons_of_pos->aB,filter_cons_of_neg->aC,filter_sublist->aG,length_map->aI,mem_range->aJ
open _root_.Nat renaming le_trans->U,zero_le->ay
open _root_.Option renaming some->aD,none->aF
namespace Go.Proofs.YtkcfgbddlpomgaaGreat
namespace Ca
open Go.RowKit Go.Sort Rw YtkcfgbddlpomgaaGreat.Nm Pr Bk Av Rl Sb Fl
theorem Mg (pv lv:aL) (p:List C5) (l:List An) (w:Z) (hp:fG w pv p) (hl:mF w lv l) (np:dM p) (nl:NL l) :
  aN O 18 #[pv,lv] w fun e w'=>e=X (aO (rz p l))/\Below w.heap.size w w':=by
 obtain⟨a,ha,rfl⟩:=np;unfold rz;rw [oD];exact NJ pv lv a l w hp hl ha nl
theorem Mh {wr w0:Z} {B:Nat} {v:aL} {lu:List Int} (x:Int) (o:mq wr B v lu) (hn:lu.length<=1000) (hB:B<=wr.heap.size) (hb:Below B w0 wr) :
  ∃ v' w',(ak #[25,25] 25 #[v,ah (aD ⟨wr.heap.size,0,aF⟩) 1 1]).run O (wr.alloc (.cells #[.int .i64 x] 3))=.ok v' w'/\mq w' B v' (lu++[x])/\Below B w0 w':=by
 have NB:=fT wr (.cells #[.int .i64 x] 3);have o1:mq (wr.alloc (.cells #[.int .i64 x] 3)) B v lu:=Bk.dh o NB;obtain⟨v',w',r',o',g'⟩:=ad4 B o1 (Pw wr x) hn (by simp) (U hB NB.size);exact⟨v',w',r',o',(hb.trans (NB.mono hB)).grown g' (U hB NB.size) fun j hj=>(o1.lt j hj).1⟩
theorem Dp (w:Z) (B:Nat) (v:Sl) (l:List Int) (h:mq w B (dK v) l) (hl:l.length<=900) (hB:B<=w.heap.size) :
  aN O 43 #[dK v] w fun e w'=>(∃ (v':Sl) (l':List Int),e=X (dK v')/\mq w' B (dK v') l'/\l'.Pairwise (·<·)/\∀ x,x∈l'↔x∈l)/\Below B w w':=by
 obtain⟨p1,p2,p3⟩:=v;have C:=au (Ci w B _ l h hl);have OT:=au (fun g hg=>(h.lt g hg).1);have HL:=au hl;have HB:=au hB;clear h hl hB;go_enter Tryz.func43,Tryz.ntmps43;go_wp2_with fail;refine C.out.mono ?_;rintro e2 w2 ⟨rfl,l2,ho2,hp2,hs2,hg2⟩;have B2:=au ((Below.refl B w).grown hg2 HB.out (fun j hj=>OT.out j hj));have C3:=au (Gl w2 B (p1,p2,p3) l2 ho2 hs2 (by rw [hp2.length_eq]; exact HL.out));have PM:=au hp2;have OT2:=au (fun g hg=>(ho2.lt g hg).1);clear ho2 hp2 hs2 hg2 C OT;go_wp2_with fail;refine C3.out.mono ?_;rintro e3 w3 ⟨⟨⟨t1,t2,t3⟩,rfl,l3,ho3,hs3,hm3⟩,hg3⟩;have Q:=au (show (∃ (v':Sl) (l':List Int),X (ah t1 t2 t3)=X (dK v')/\mq w3 B (dK v') l'/\l'.Pairwise (·<·)/\∀ x,x∈l'↔x∈l)/\Below B w w3 from ⟨⟨(t1,t2,t3),l3,rfl,ho3,hs3,fun x=>(hm3 x).trans PM.out.mem_iff⟩,B2.out.grown hg3 (U HB.out (B2.out.size)) (fun j hj=>OT2.out j hj)⟩);clear ho3 hs3 hm3 hg3 C3 B2 PM OT2;go_wp2;go_ret;exact Q.out
structure xO (b:Br):Prop where
 ok:jG b
 few:Qc b
 WH:yZ b
 pe:∀ e∈b.ent,dM e.p
 po:∀ o∈b.own,dM o.p
 cl:∀ o∈b.own,0<=o.id.1/\o.id.1<32
 np:∀ n∈b.near,n≠-1
theorem KI.ae8 {b:Br} (h:KI 12 b) (hs:KS b) (hn:b.near=(List.range b.near.length).map fun (j:Nat)=>(j:Int)+1):xO b:=⟨h.ok,h.few,h.WH,h.pe,h.po,fun o ho=>by have:=hs.2 o ho; unfold K4 at this; omega,fun n hm=>by
 rw [hn] at hm;obtain⟨j,_,rfl⟩:=aj.1 hm;omega⟩
def xP (k:Int) (t x:eF) (l:List An) (ns:List Int):List (Ou×List An):=ns.map fun n=>(⟨n,k,t,x,[]⟩,l)
def Af (x:eF) (l:List An) (cs:List Int):List ((Int×eF)×List An):=cs.map fun c=>((c,x),l)
theorem Ag {α β γ:Type} {R:β->γ->Prop} {f:α->β} {g:α->γ}:∀ (l:List α),(∀ x,R (f x) (g x))->dX R (l.map f) (l.map g)
 | [],_=>.nil
 | x::l,h=>.cons (h x) (Ag l h)
theorem aaR {W:Z} {k:Int} {t x:eF} {pv av:Sl} {l:List An} (hp:fG W (dK pv) []) (hl:mF W (dK av) l) (ns:List Int):dX (Ve W) (ns.map (puX k t x pv av)) (xP k t x l ns):=Ag ns fun _=>⟨rfl,rfl,rfl,rfl,hp,hl⟩
theorem aaS {W:Z} {x:eF} {av:Sl} {l:List An} (hl:mF W (dK av) l) (cs:List Int):dX (V7 W) (cs.map (dlX x av)) (Af x l cs):=Ag cs fun _=>⟨rfl,rfl,hl⟩
theorem Iw (W:Z):fG W (ah aF 0 0) []:=Or.inl ⟨rfl,rfl⟩
theorem TY {k:Int} {t x:eF} {l:List An} {ns:List Int} (h:l.length<=5):∀ o∈xP k t x l ns,o.1.p.length<=1000/\o.2.length<=1000:=fun o ho=>by
 obtain⟨n,_,rfl⟩:=aj.1 ho;exact⟨ay _,by show l.length<=1000; omega⟩
theorem T9 {x:eF} {l:List An} {cs:List Int} (h:l.length<=5):∀ o∈Af x l cs,o.2.length<=1000:=fun o ho=>by
 obtain⟨n,_,rfl⟩:=aj.1 ho;show l.length<=1000; omega
theorem OQ (b:Br) (f:Int) (t:eF) (l:List An):(jE b f t l).1.length<=b.near.length:=by
 unfold jE
 split
 ·split
  ·exact D _ _
  ·exact ay _
 ·exact ay _
theorem OY (b:Br) (f:Int) (t:eF) (l:List An):(jE b f t l).2.length<=32:=by
 unfold jE
 split
 ·split
  ·exact U (D _ _) (by simp [uo])
  ·exact ay _
 ·exact ay _
theorem Ua {b:Br} (h:xO b) (t:eF) (l:List An):(toB b t l).Pairwise (·<·):=h.ok.near.sublist aG
theorem WJ {b:Br} (h:xO b) {t:eF} {l:List An} {e:En} (he:e∈b.ent) (ht:e.tree=t) (hf:e.from_≠-1) (hm:rz e.p l=aP):e.from_∈toB b t l:=by
 have h5:=h.ok.Oa e he;unfold wP at h5;cases hfa:gu b.dL e.tree with
 | none=>rw [hfa] at h5; cases h5
 | some a =>
  rw [hfa] at h5;simp only [V] at h5;have h6:=h5.2.1;unfold jU at h6;have h7:e.from_∈b.near:=by simpa [hf] using h6
  refine J.2 ⟨h7,aA.2 ⟨e,he,?_⟩⟩;unfold uW;simp [ht,hm]
theorem OZ:uo.Pairwise (·<·):=by decide
theorem Ub {n:Int}:n∈uo↔0<=n/\n<32:=by
 unfold uo;rw [aj];constructor
 ·rintro⟨j,hj,rfl⟩; have:=aJ.1 hj; omega
 ·rintro⟨h1,h2⟩; exact⟨n.toNat,aJ.2 (by omega),by omega⟩
theorem O6 (b:Br) (l:List An):(uY b l).Pairwise (·<·):=OZ.sublist aG
theorem Uc (b:Br) (l:List An):(uY b l).length<=32:=U (D _ _) (by simp [uo])
theorem Ud {b:Br} (h:xO b) {l:List An} {n:Int}:n∈uY b l↔∃ o∈b.own,o.id.1=n/\rz o.p l=aP:=by
 unfold uY;rw [J,Ub,aA];constructor
 ·rintro⟨_,o,h1,h2⟩;unfold uX at h2;simp only [V,decide_eq_true_eq] at h2;exact⟨o,h1,h2⟩
 ·rintro⟨o,h1,h2,h3⟩;exact⟨by rw [<- h2]; exact h.cl o h1,o,h1,by unfold uX; simp [h2,h3]⟩
def nZ (m:List En) (l:List An):List Int:=(m.filter fun e=>!decide (e.from_=-1) && rz e.p l).map (·.from_)
def og (m:List Ow) (l:List An):List Int:=(m.filter fun o=>rz o.p l).map fun o=>o.id.1
theorem O7 {b:Br} (h:xO b) {t:eF} {l:List An} {n:Int}:n∈nZ (rA b.ent t) l↔n∈toB b t l:=by
 unfold nZ;rw [aj];constructor
 ·rintro⟨e,he,rfl⟩;obtain⟨h1,h2⟩:=J.1 he;simp only [V,aH,decide_eq_false_iff_not] at h2;obtain⟨h3,h4⟩:=(JL (show kC b.ent from h.ok.ent) t e).1 h1;exact WJ h h3 h4 h2.1 h2.2
 ·intro hn;obtain⟨h1,h2⟩:=J.1 hn;obtain⟨e,h3,h4⟩:=aA.1 h2;unfold uW at h4;simp only [V,decide_eq_true_eq] at h4;refine⟨e,J.2 ⟨(JL (show kC b.ent from h.ok.ent) t e).2 ⟨h3,h4.1⟩,?_⟩,h4.2.1⟩;simp only [V,aH,decide_eq_false_iff_not];exact⟨by rw [h4.2.1]; exact h.np n h1,h4.2.2⟩
theorem O8 {b:Br} (h:xO b) {l:List An} {n:Int}:n∈og b.own l↔n∈uY b l:=by
 rw [Ud h];unfold og;rw [aj];constructor
 ·rintro⟨o,ho,rfl⟩;obtain⟨h1,h2⟩:=J.1 ho;exact⟨o,h1,rfl,h2⟩
 ·rintro⟨o,h1,h2,h3⟩;exact⟨o,J.2 ⟨h1,h3⟩,h2⟩
theorem Dq (m:List En) (l:List An):(nZ m l).length<=m.length:=by
 unfold nZ;rw [aI];exact D _ _
theorem Dr (m:List Ow) (l:List An):(og m l).length<=m.length:=by
 unfold og;rw [aI];exact D _ _
theorem nK {α:Type} (m:List α) (k:Nat) (e:α) (he:m[k]?=aD e):m.take (k+1)=m.take k++[e]:=by
 rw [List.take_add_one,he]
 rfl
theorem O9 {m:List En} {l:List An} {k:Nat} {e:En} (he:m[k]?=aD e) (hf:e.from_≠-1) (hh:rz e.p l=aP):nZ (m.take (k+1)) l=nZ (m.take k) l++[e.from_]:=by
 unfold nZ;rw [nK m k e he,Y,K,aB (by simp [hf,hh])]
 rfl
theorem Iy {m:List En} {l:List An} {k:Nat} {e:En} (he:m[k]?=aD e) (hf:e.from_=-1\/rz e.p l=false):nZ (m.take (k+1)) l=nZ (m.take k) l:=by
 unfold nZ;rw [nK m k e he,Y,K,aC (by rcases hf with h | h <;> simp [h])];simp
theorem Pb {m:List Ow} {l:List An} {k:Nat} {e:Ow} (he:m[k]?=aD e) (hh:rz e.p l=aP):og (m.take (k+1)) l=og (m.take k) l++[e.id.1]:=by
 unfold og;rw [nK m k e he,Y,K,aB (by simp [hh])]
 rfl
theorem Ue {m:List Ow} {l:List An} {k:Nat} {e:Ow} (he:m[k]?=aD e) (hh:rz e.p l=false):og (m.take (k+1)) l=og (m.take k) l:=by
 unfold og;rw [nK m k e he,Y,K,aC (by simp [hh])];simp
theorem ac3 {b:Br} (h:xO b) {t:eF} {l:List An} {r:List Int} (hr:r.Pairwise (·<·)) (hm:∀ x,x∈r↔x∈nZ (rA b.ent t) l):r=toB b t l :=
 sQ hr (Ua h t l) fun x=>(hm x).trans (O7 h)
theorem ac4 {b:Br} (h:xO b) {l:List An} {r:List Int} (hr:r.Pairwise (·<·)) (hm:∀ x,x∈r↔x∈og b.own l):r=uY b l :=
 sQ hr (O6 b l) fun x=>(hm x).trans (O8 h)
theorem Ah (v:Sl) (l:List An) (w:Z) (hv:Row EA w (dK v) l) (hl:l.length<=900) :
  aN O 35 #[dK v] w fun e w'=>(∃ v':Sl,e=X (dK v')/\Own EA w' w.heap.size (dK v') l)/\Below w.heap.size w w':=by
 obtain⟨vo,vn,vc⟩:=v;rcases hv with⟨rfl,hv⟩|⟨a,cap,hv,h1,h2,h3⟩
 ·obtain⟨rfl,rfl,rfl⟩:vo=aF/\vn=0/\vc=0:=by simpa using hv
  clear hv hl;have q:∀ w',(binOp .eql 39 (ah aF 0 0) (ah aF 0 0)).run O w'=.ok (aO aP) w':=fun w'=>SI aF 0 0 w';go_enter aM,aK;go_wp2;go_ret;exact⟨⟨(aF,0,0),rfl,fF _ _⟩,Below.refl _ _⟩
 ·obtain⟨rfl,rfl,rfl⟩:vo=aD a/\vn=l.length/\vc=cap:=by simpa using hv
  have hx:Row EA w (ah (aD a) l.length vc) l:=Or.inr ⟨a,vc,rfl,h1,h2,h3⟩;have n0:=fT w (.cells #[] 97);obtain⟨q0,w0,r0,o0,g0⟩:=iA okA w.heap.size (dI w #[] 97) (Nat.le_refl _) (hx.on n0) (by omega) 39;obtain⟨v1,v3,hv1⟩:=(Row.dn o0).len;obtain⟨n,hn⟩:∃ n,n=l.length:=⟨_,rfl⟩;have Q:=au (show (∃ v':Sl,X q0=X (dK v')/\Own EA w0 w.heap.size (dK v') l)/\Below w.heap.size w w0 from ⟨⟨(v1,l.length,v3),by rw [hv1],by subst hv1; exact o0⟩,n0.trans (g0.mono n0.size)⟩);rw [<- hn] at r0 ⊢;clear hv h1 h2 h3 hx o0 g0 n0 hv1 hn hl;have q:∀ w',(binOp .eql 39 (ah (aD a) n vc) (ah aF 0 0)).run O w'=.ok (aO false) w':=fun w'=>SI (aD a) n vc w';have r0:(ak #[39,39] 39 #[ah (aD ⟨w.heap.size,0,aF⟩) 0 0,ah (aD a) n vc]).run O (w.alloc (.cells #[] 97))=.ok q0 w0:=r0;go_enter aM,aK;go_wp2_with (first | (at_builtin; refine wpList_append_run rfl _ _ 39 rfl rfl rfl r0 ?_) | fail);go_ret;exact Q.out
theorem J3 (w:Z):aN O 66 #[ah aF 0 0] w fun e w'=>e=X (ah aF 0 0)/\Below w.heap.size w w':=by
 have q:∀ w',(binOp .eql 41 (ah aF 0 0) (ah aF 0 0)).run O w'=.ok (aO aP) w':=fun w'=>Jh aF 0 0 w';go_enter Tryz.func66,Tryz.ntmps66;go_wp2;go_ret;exact⟨rfl,Below.refl _ _⟩
def Mi (W:Z) (B:Nat) (x:nH) (o:Ou×List An):Prop:=x.1=o.1.gQ/\x.2.1=o.1.kind/\(x.2.2.1,x.2.2.2.1)=o.1.tree/\(x.2.2.2.2.1,x.2.2.2.2.2.1)=o.1.id/\x.2.2.2.2.2.2.1=(aF,0,0)/\o.1.p=[]/\xJ W B (dK x.2.2.2.2.2.2.2) o.2
theorem Mi.on {W W':Z} {B:Nat} {x:nH} {o:Ou×List An} (h:Mi W B x o) (hb:Below W.heap.size W W'):Mi W' B x o:=⟨h.1,h.2.1,h.2.2.1,h.2.2.2.1,h.2.2.2.2.1,h.2.2.2.2.2.1,Bk.dh h.2.2.2.2.2.2 hb⟩
theorem Mi.app {W W':Z} {B B':Nat} {x:nH} {o:Ou×List An} {v:aL} {l:List nH} (h:Mi W B x o) (ho:iQ W B' v l) (gr:W.grownBy W' v.ownBlock):Mi W' B x o:=⟨h.1,h.2.1,h.2.2.1,h.2.2.2.1,h.2.2.2.2.1,h.2.2.2.2.2.1,Eo ho gr h.2.2.2.2.2.2 (by decide)⟩
theorem Mi.a {W:Z} {B:Nat} {x:nH} {o:Ou×List An} (h:Mi W B x o):Ve W x o:=⟨h.1,h.2.1,h.2.2.1,h.2.2.2.1,by rw [h.2.2.2.2.1,h.2.2.2.2.2.1]; exact Iw W,Row.dn h.2.2.2.2.2.2⟩
def IJ (W:Z) (B:Nat) (x:yj) (o:(Int×eF)×List An):Prop:=x.1=o.1.1/\(x.2.1,x.2.2.1)=o.1.2/\xJ W B (dK x.2.2.2) o.2
theorem IJ.on {W W':Z} {B:Nat} {x:yj} {o:(Int×eF)×List An} (h:IJ W B x o) (hb:Below W.heap.size W W'):IJ W' B x o:=⟨h.1,h.2.1,Bk.dh h.2.2 hb⟩
theorem IJ.app {W W':Z} {B B':Nat} {x:yj} {o:(Int×eF)×List An} {v:aL} {l:List yj} (h:IJ W B x o) (ho:zl W B' v l) (gr:W.grownBy W' v.ownBlock):IJ W' B x o:=⟨h.1,h.2.1,Eo ho gr h.2.2 (by decide)⟩
theorem IJ.a {W:Z} {B:Nat} {x:yj} {o:(Int×eF)×List An} (h:IJ W B x o):V7 W x o:=⟨h.1,h.2.1,Row.dn h.2.2⟩
theorem aaT {wr w0:Z} {B:Nat} {v:aL} {lx:List nH} {L:List (Ou×List An)} (x:nH) (o:Ou×List An) (ho:iQ wr B v lx) (hA:dX (Mi wr B) lx L) (hx:Mi wr B x o) (hn:lx.length<=1000) (hB:B<=wr.heap.size) (hb:Below B w0 wr) :
  ∃ v' w',(ak #[44,44] 44 #[v,ah (aD ⟨wr.heap.size,0,aF⟩) 1 1]).run O (wr.alloc (.cells (jM x).toArray 58))=.ok v' w'/\iQ w' B v' (lx++[x])/\dX (Mi w' B) (lx++[x]) (L++[o])/\Below B w0 w':=by
 have NB:=fT wr (.cells (jM x).toArray 58);have hlit:=gH DI wr [x] 1 rfl (by simp) (jM x).toArray rfl;have o1:iQ (wr.alloc (.cells (jM x).toArray 58)) B v lx:=Bk.dh ho NB;obtain⟨v',w',r',o',g'⟩:=fO DI B o1 (Row.dn hlit) hn (by simp) (U hB NB.size) 44;have g:∀ y z,Mi wr B y z->Mi w' B y z:=fun y z q=>(q.on NB).app o1 g';exact⟨v',w',r',o',(hA.mono g).append (.cons (g _ _ hx) .nil),(hb.trans (NB.mono hB)).grown g' (U hB NB.size) fun j hj=>(o1.lt j hj).1⟩
theorem Pf {k:Int} {t x:eF} {l:List An} {ns:List Int} {q:Nat} {n:Int} (h:ns[q]?=aD n):xP k t x l (ns.take (q+1))=xP k t x l (ns.take q)++[(⟨n,k,t,x,[]⟩,l)]:=by
 unfold xP;rw [nK ns q n h,K]
 rfl
theorem Pg {x:eF} {l:List An} {ns:List Int} {q:Nat} {n:Int} (h:ns[q]?=aD n):Af x l (ns.take (q+1))=Af x l (ns.take q)++[((n,x),l)]:=by
 unfold Af;rw [nK ns q n h,K]
 rfl
theorem Uf {b:Br} {f:Int} {t:eF} {l:List An} (h:gu b.dL t=aF):jE b f t l=([],[]):=by
 have h:(b.dL.find? fun a=>decide (a.id=t))=aF:=h;unfold jE;rw [h]
theorem J4 {b:Br} {f:Int} {t:eF} {l:List An} {a:Ad} (h:gu b.dL t=aD a) (hf:a.par≠f):jE b f t l=([],[]):=by
 have h:(b.dL.find? fun a=>decide (a.id=t))=aD a:=h;unfold jE;rw [h];exact if_neg hf
theorem Ug {b:Br} {f:Int} {t:eF} {l:List An} {a:Ad} (h:gu b.dL t=aD a) (hf:a.par=f):jE b f t l=(toB b t l,uY b l):=by
 have h:(b.dL.find? fun a=>decide (a.id=t))=aD a:=h;unfold jE;rw [h];exact if_pos hf
theorem WK {wr w0:Z} {B:Nat} {v r:aL} {lx:List yj} {L:List ((Int×eF)×List An)} (x:yj) (o:(Int×eF)×List An) (ho:zl wr B v lx) (hr:VZ wr r [x]) (hA:dX (IJ wr B) lx L) (hx:IJ wr B x o) (hn:lx.length<=1000) (hB:B<=wr.heap.size) (hb:Below B w0 wr) :
  ∃ v' w',(ak #[45,45] 45 #[v,r]).run O wr=.ok v' w'/\zl w' B v' (lx++[x])/\dX (IJ w' B) (lx++[x]) (L++[o])/\Below B w0 w':=by
 obtain⟨v',w',r',o',g'⟩:=fO okG B ho hr hn (by simp) hB 45;have g:∀ y z,IJ wr B y z->IJ w' B y z:=fun y z q=>q.app ho g';exact⟨v',w',r',o',(hA.mono g).append (.cons (g _ _ hx) .nil),hb.grown g' hB fun j hj=>(ho.lt j hj).1⟩
theorem Iz {W:Z} {lx:List nH} {k:Int} {t x:eF} {l:List An} {ns:List Int} (h:dX (Ve W) lx (xP k t x l ns)):lx.length=ns.length:=by rw [h.len]; simp [xP]
theorem Uh {W:Z} {lx:List yj} {x:eF} {l:List An} {ns:List Int} (h:dX (V7 W) lx (Af x l ns)):lx.length=ns.length:=by rw [h.len]; simp [Af]
end Ca
namespace Rg
open Go.RowKit Rw Av
end Rg
end Go.Proofs.YtkcfgbddlpomgaaGreat
