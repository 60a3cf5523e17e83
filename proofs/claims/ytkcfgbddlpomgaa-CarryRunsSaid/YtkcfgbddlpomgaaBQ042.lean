/-
  Publications of stag. Conditions as told.
-/
import Derived.Test.YtkcfgbddlpomgaaBQ038
import Derived.Test.YtkcfgbddlpomgaaBQ041
set_option maxRecDepth 100000
set_option maxHeartbeats 64000000
open _root_.Bool renaming and_eq_true->aI,not_eq_true'->aW,true->bC
open _root_.Go renaming World->aF,Value->aL,Calls->aZ,Addr->bA
open Go.Builtin renaming append_->aN
open Go.Ending renaming returned->aA
open Go.IntKind renaming i64->V
open Go.Lib renaming hid->O
open Go.Obj renaming cells->aK
open Go.Operand renaming tmp->aG
open Go.Proofs.Try renaming prog->aC,func26->aU,ntmps26->bf,func32->bq
open Go.RowKit.Below renaming refl->ay
open Go.Value renaming slice->J,int->U,pointer->Z,agg->bn,bool->bB
open _root_.List renaming getElem?_toArray->Y,getElem?_cons_zero->ah,getElem?_cons_succ->ak,mem_filter->aD,map_append->aH,filter_append->aJ,length_filter_le->aM,getElem?_eq_getElem->aP,any_eq_true->aQ,filter_cons_of_pos->aR,filter_cons_of_neg->aS,filter_sublist->aT,mem_map->aV,length_map->aX,mem_range->aY
open _root_.Nat renaming le_trans->aB,le_refl->bg
open _root_.Option renaming none->aj,some->au
open _root_.Or renaming inr->aO
namespace Go.Proofs.Ytkcfgbddlpomgaa
namespace Ca
open Go.RowKit Go.Sort Rw Ytkcfgbddlpomgaa.Nm Pr Bk Av Rl Sb Fl
structure mM (b:Br):Prop where
 ok:Eu b
 few:zB b
 Ey:mZ b
 pe:∀ e∈b.ent,eF e.p
 po:∀ o∈b.own,eF o.p
 cl:∀ o∈b.own,0<=o.id.1/\o.id.1<32
 np:∀ n∈b.near,n≠-1
def oV (k:Int) (t x:dI) (l:List An) (ns:List Int):List (Ou×List An):=ns.map fun n=>(⟨n,k,t,x,[]⟩,l)
def qA (x:dI) (l:List An) (cs:List Int):List ((Int×dI)×List An):=cs.map fun c=>((c,x),l)
theorem yF (W:aF):gL W (J aj 0 0) []:=Or.inl ⟨rfl,rfl⟩
end Ca
namespace Sb
open Go.RowKit Go.Sort Rw Ytkcfgbddlpomgaa.Nm Pr Bk Av
end Sb
namespace Ca
open Go.RowKit Go.Sort Rw Ytkcfgbddlpomgaa.Nm Pr Bk Av Rl Sb Fl
theorem tH (pv lv:aL) (p:List C5) (l:List An) (w:aF) (hp:gL w pv p) (hl:kX w lv l) (np:eF p) (nl:NL l) :
  aZ aC 49 #[pv,lv] w fun e w'=>e=aA (bB (jX p l))/\Below w.heap.size w w':=by
 obtain⟨a,ha,rfl⟩:=np;unfold jX;rw [oI];exact vE pv lv a l w hp hl ha nl
theorem tJ {wr w0:aF} {B:Nat} {v:aL} {lu:List Int} (x:Int) (o:gK wr B v lu) (hn:lu.length<=1000) (hB:B<=wr.heap.size) (hb:Below B w0 wr) :
  ∃ v' w',(aN #[24,24] 24 #[v,J (au ⟨wr.heap.size,0,aj⟩) 1 1]).run aC (wr.alloc (aK #[U V x] 3))=.ok v' w'/\gK w' B v' (lu++[x])/\Below B w0 w':=by
 have NB:=fK wr (aK #[U V x] 3);have o1:gK (wr.alloc (aK #[U V x] 3)) B v lu:=Bk.dx o NB;obtain⟨v',w',r',o',g'⟩:=Gc B o1 (wI wr x) hn (by simp) (aB hB NB.size);exact⟨v',w',r',o',(hb.trans (NB.mono hB)).grown g' (aB hB NB.size) fun j hj=>(o1.lt j hj).1⟩
theorem nX (w:aF) (B:Nat) (v:Sl) (l:List Int) (h:gK w B (dz v) l) (hl:l.length<=900) (hB:B<=w.heap.size) :
  aZ aC 50 #[dz v] w fun e w'=>(∃ (v':Sl) (l':List Int),e=aA (dz v')/\gK w' B (dz v') l'/\l'.Pairwise (·<·)/\∀ x,x∈l'↔x∈l)/\Below B w w':=by
 obtain⟨p1,p2,p3⟩:=v;have C:=O (nN w B _ l h hl);have OT:=O (fun g hg=>(h.lt g hg).1);have HL:=O hl;have HB:=O hB;clear h hl hB;go_enter Try.func50,Try.ntmps50;go_wp2_with fail;refine C.out.mono ?_;rintro e2 w2 ⟨rfl,l2,ho2,hp2,hs2,hg2⟩;have B2:=O ((ay B w).grown hg2 HB.out (fun j hj=>OT.out j hj));have C3:=O (p8 w2 B (p1,p2,p3) l2 ho2 hs2 (by rw [hp2.length_eq]; exact HL.out));have PM:=O hp2;have Ed:=O (fun g hg=>(ho2.lt g hg).1);clear ho2 hp2 hs2 hg2 C OT;go_wp2_with fail;refine C3.out.mono ?_;rintro e3 w3 ⟨⟨⟨t1,t2,t3⟩,rfl,l3,ho3,hs3,Ee⟩,hg3⟩;have Q:=O (show (∃ (v':Sl) (l':List Int),aA (J t1 t2 t3)=aA (dz v')/\gK w3 B (dz v') l'/\l'.Pairwise (·<·)/\∀ x,x∈l'↔x∈l)/\Below B w w3 from ⟨⟨(t1,t2,t3),l3,rfl,ho3,hs3,fun x=>(Ee x).trans PM.out.mem_iff⟩,B2.out.grown hg3 (aB HB.out (B2.out.size)) (fun j hj=>Ed.out j hj)⟩);clear ho3 hs3 Ee hg3 C3 B2 PM Ed;go_wp2;go_ret;exact Q.out
theorem yG {b:Br} (h:mM b) (t:dI) (l:List An):(toB b t l).Pairwise (·<·):=h.ok.near.sublist aT
theorem Aa {b:Br} (h:mM b) {t:dI} {l:List An} {e:En} (he:e∈b.ent) (ht:e.tree=t) (hf:e.from_≠-1) (hm:jX e.p l=bC):e.from_∈toB b t l:=by
 have h5:=h.ok.Jw e he;unfold Ch at h5;cases hfa:fD b.dU e.tree with
 | none=>rw [hfa] at h5; cases h5
 | some a =>
  rw [hfa] at h5;simp only [aI] at h5;have h6:=h5.2.1;unfold oL at h6;have h7:e.from_∈b.near:=by simpa [hf] using h6
  refine aD.2 ⟨h7,aQ.2 ⟨e,he,?_⟩⟩;unfold BU;simp [ht,hm]
theorem vM:xM.Pairwise (·<·):=by decide
theorem yH {n:Int}:n∈xM↔0<=n/\n<32:=by
 unfold xM;rw [aV];constructor
 ·rintro⟨j,hj,rfl⟩; have:=aY.1 hj; omega
 ·rintro⟨h1,h2⟩; exact⟨n.toNat,aY.2 (by omega),by omega⟩
theorem vN (b:Br) (l:List An):(lY b l).Pairwise (·<·):=vM.sublist aT
theorem yI (b:Br) (l:List An):(lY b l).length<=32:=aB (aM _ _) (by simp [xM])
theorem yJ {b:Br} (h:mM b) {l:List An} {n:Int}:n∈lY b l↔∃ o∈b.own,o.id.1=n/\jX o.p l=bC:=by
 unfold lY;rw [aD,yH,aQ];constructor
 ·rintro⟨_,o,h1,h2⟩;unfold Cb at h2;simp only [aI,decide_eq_true_eq] at h2;exact⟨o,h1,h2⟩
 ·rintro⟨o,h1,h2,h3⟩;exact⟨by rw [<- h2]; exact h.cl o h1,o,h1,by unfold Cb; simp [h2,h3]⟩
def gV (m:List En) (l:List An):List Int:=(m.filter fun e=>!decide (e.from_=-1) && jX e.p l).map (·.from_)
def gW (m:List Ow) (l:List An):List Int:=(m.filter fun o=>jX o.p l).map fun o=>o.id.1
theorem vO {b:Br} (h:mM b) {t:dI} {l:List An} {n:Int}:n∈gV (iV b.ent t) l↔n∈toB b t l:=by
 unfold gV;rw [aV];constructor
 ·rintro⟨e,he,rfl⟩;obtain⟨h1,h2⟩:=aD.1 he;simp only [aI,aW,decide_eq_false_iff_not] at h2;obtain⟨h3,h4⟩:=(rT (show fM b.ent from h.ok.ent) t e).1 h1;exact Aa h h3 h4 h2.1 h2.2
 ·intro hn;obtain⟨h1,h2⟩:=aD.1 hn;obtain⟨e,h3,h4⟩:=aQ.1 h2;unfold BU at h4;simp only [aI,decide_eq_true_eq] at h4;refine⟨e,aD.2 ⟨(rT (show fM b.ent from h.ok.ent) t e).2 ⟨h3,h4.1⟩,?_⟩,h4.2.1⟩;simp only [aI,aW,decide_eq_false_iff_not];exact⟨by rw [h4.2.1]; exact h.np n h1,h4.2.2⟩
theorem vP {b:Br} (h:mM b) {l:List An} {n:Int}:n∈gW b.own l↔n∈lY b l:=by
 rw [yJ h];unfold gW;rw [aV];constructor
 ·rintro⟨o,ho,rfl⟩;obtain⟨h1,h2⟩:=aD.1 ho;exact⟨o,h1,rfl,h2⟩
 ·rintro⟨o,h1,h2,h3⟩;exact⟨o,aD.2 ⟨h1,h3⟩,h2⟩
theorem nY (m:List En) (l:List An):(gV m l).length<=m.length:=by
 unfold gV;rw [aX];exact aM _ _
theorem nZ (m:List Ow) (l:List An):(gW m l).length<=m.length:=by
 unfold gW;rw [aX];exact aM _ _
theorem gT {α:Type} (m:List α) (k:Nat) (e:α) (he:m[k]?=au e):m.take (k+1)=m.take k++[e]:=by
 rw [List.take_add_one,he]
 rfl
theorem vQ {m:List En} {l:List An} {k:Nat} {e:En} (he:m[k]?=au e) (hf:e.from_≠-1) (hh:jX e.p l=bC):gV (m.take (k+1)) l=gV (m.take k) l++[e.from_]:=by
 unfold gV;rw [gT m k e he,aJ,aH,aR (by simp [hf,hh])]
 rfl
theorem qB {m:List En} {l:List An} {k:Nat} {e:En} (he:m[k]?=au e) (hf:e.from_=-1\/jX e.p l=false):gV (m.take (k+1)) l=gV (m.take k) l:=by
 unfold gV;rw [gT m k e he,aJ,aH,aS (by rcases hf with h | h <;> simp [h])];simp
theorem vR {m:List Ow} {l:List An} {k:Nat} {e:Ow} (he:m[k]?=au e) (hh:jX e.p l=bC):gW (m.take (k+1)) l=gW (m.take k) l++[e.id.1]:=by
 unfold gW;rw [gT m k e he,aJ,aH,aR (by simp [hh])]
 rfl
theorem yK {m:List Ow} {l:List An} {k:Nat} {e:Ow} (he:m[k]?=au e) (hh:jX e.p l=false):gW (m.take (k+1)) l=gW (m.take k) l:=by
 unfold gW;rw [gT m k e he,aJ,aH,aS (by simp [hh])];simp
theorem Ez {b:Br} (h:mM b) {t:dI} {l:List An} {r:List Int} (hr:r.Pairwise (·<·)) (hm:∀ x,x∈r↔x∈gV (iV b.ent t) l):r=toB b t l :=
 jr hr (yG h t l) fun x=>(hm x).trans (vO h)
theorem EB {b:Br} (h:mM b) {l:List An} {r:List Int} (hr:r.Pairwise (·<·)) (hm:∀ x,x∈r↔x∈gW b.own l):r=lY b l :=
 jr hr (vN b l) fun x=>(hm x).trans (vP h)
theorem Ab (b:Br) (nv av sv ev ov:Sl) (lv:Sl) (l:List An) (w:aF) (h:iF w b nv av sv ev ov) (hc:mM b) (hl:kX w (dz lv) l) (hn:NL l) :
  aZ aC 25 #[nE b.me nv av sv ev ov,dz lv] w fun e w'=>(∃ o:Sl,e=aA (dz o)/\gK w' w.heap.size (dz o) (lY b l))/\Below w.heap.size w w':=by
 obtain⟨no,nn,nc⟩:=nv;obtain⟨ao,an,ac⟩:=av;obtain⟨so,sn,sc⟩:=sv;obtain⟨eo,en,ec⟩:=ev;obtain⟨oo,z2,oc⟩:=ov;obtain⟨lo,ln,lc⟩:=lv;obtain⟨lb,he1,he2⟩:=h.own;have h0:=fK w (aK #[U V b.me,J no nn nc,J ao an ac,J so sn sc,J eo en ec,J oo z2 oc] 30);have X:=dB w #[U V b.me,J no nn nc,J ao an ac,J so sn sc,J eo en ec,J oo z2 oc] 30;have B1:=O h0;have x5:=X.cell 5;simp only [Y,ah,ak] at x5;have R1:=O (he1.on h0);have R2:=O (he2.mono fun _ _ q=>q.on h0);have LL:=O (hl.on h0);have G7:=O hn;have HM:=O (show b.own.length<=900 from hc.few.own);have OK:=O (show ∀ e∈b.own,eF e.p from hc.po);have TI:=O (fun (r:List Int) (h1:r.Pairwise (·<·)) (h2:∀ x,x∈r↔x∈gW b.own l)=>EB hc (l:=l) h1 h2);have hnl:lb.length=z2:=jf he1;have HN:=O hnl;have hz:z2<=900:=by have:=he2.len; have:=HM.out; omega
 generalize lY b l=res at *;generalize b.own=mb at *;clear X h hc hl hn h0 he1 he2 hnl;go_enter Try.func25,Try.ntmps25;go_upto_region 1 with fail;generalize w.alloc (aK #[U V b.me,J no nn nc,J ao an ac,J so sn sc,J eo en ec,J oo z2 oc] 30)=w1 at *;go_wp2
 go_loopw [5,11] (fun v i wr=>∃ k:Nat,k<=z2/\i=U V k/\Below w1.heap.size w1 wr/\gK wr w1.heap.size v (gW (mb.take k) l)) (fun _ i _=>z2-(intOf i).toNat)
 case atStart=>exact⟨0,Nat.zero_le _,rfl,ay _ _,eG _ _⟩
 case round =>
  obtain⟨k,hk,rfl,hbe,hown⟩:=hrel;have BE:=O hbe;have OE:=O hown;clear hbe hown x5;by_cases hlt:k<z2
  ·obtain⟨y,hy⟩:∃ y,lb[k]?=au y:=⟨_,aP (by rw [HN.out]; exact hlt)⟩;obtain⟨q,ix,px⟩:=Jf R1.out rfl HN.out hy;obtain⟨p0,p1,p2⟩:=px wr BE.out;obtain⟨e,he⟩:∃ e,mb[k]?=au e:=⟨_,aP (by rw [<- R2.out.len,HN.out]; exact hlt)⟩;obtain⟨y',hy',hin⟩:=R2.out.at k e he;rw [hy] at hy';obtain rfl:=Option.some.inj hy';obtain⟨y1,y2,⟨yo,yn,yc⟩⟩:=y;simp only at p0 p1 p2;have NB:=O (fK wr (aK #[U V y1,U V y2,J yo yn yc] 84));have BF:=O (BE.out.trans (NB.out.mono BE.out.size));have hx:=dB wr #[U V y1,U V y2,J yo yn yc] 84;have hw3:IntKind.i64.wrap ((k:Int)+1)=(k:Int)+1:=IntWalk.i64_in _ (by omega);have HF:=O (show y1=e.id.1 from congrArg Prod.fst hin.1);have HE:=O he;have OB:=O (Bk.dx OE.out NB.out);have MA:=O (tH (J yo yn yc) (J lo ln lc) e.p l _ (hin.2.on BF.out) (LL.out.on BF.out) (OK.out e (List.mem_of_getElem? he)) G7.out);have BX:=O hx;have v2:=hx.cell 2;simp only [Y,ah,ak] at v2;obtain⟨g,hg⟩:∃ g,jX e.p l=g:=⟨_,rfl⟩;rw [hg] at MA;have HG:=O hg;clear px hy he hin hx hg;go_wp2_with fail;refine MA.out.mono ?_;rintro e3 w3 ⟨rfl,hb⟩;have BG:=O (BF.out.trans (hb.mono BF.out.size));have OC:=O (Bk.dx OB.out hb);have u0:=(BX.out.on hb).cell 0;simp only [Y,ah] at u0;clear hb MA v2 BF OB NB p0 p1 p2 ix;cases g
   ·have E2:=O (yK (l:=l) HE.out HG.out);go_wp2
    go_roundw
    case rel=>exact⟨k+1,by omega,by go_num,BG.out,by rw [E2.out]; exact OC.out⟩
    case measure=>simp [intOf]; omega
   ·have E2:=O (vR (l:=l) HE.out HG.out);have G8:(gW (mb.take k) l).length<=900:=aB (nZ _ _) (aB (List.length_take_le _ _) (by omega));obtain⟨v',w',r',o',bl⟩:=tJ y1 OC.out (by omega) BG.out.size BG.out;have O2:=O o';have B2:=O bl;clear G8 o' bl BX;go_wp2_with (first | (at_builtin; refine wpList_append_run rfl _ _ 24 rfl rfl rfl r' ?_) | fail)
    go_roundw
    case rel=>exact⟨k+1,by omega,by go_num,B2.out,by rw [E2.out,<- HF.out]; exact O2.out⟩
    case measure=>simp [intOf]; omega
  ·obtain rfl:z2=k:=by omega
   have e:mb.take z2=mb:=List.take_of_length_le (by have:=HN.out; have:=R2.out.len; omega);rw [e] at OE;obtain⟨Ck,Cm,hv⟩:=(Row.dw OE.out).len;subst hv;have CR:=O (nX wr w1.heap.size (Ck,_,Cm) _ OE.out (aB (nZ _ _) HM.out) BE.out.size);clear e;generalize (gW mb l).length=JA at *;go_wp2_with fail;refine CR.out.mono ?_;rintro e4 w4 ⟨⟨⟨r1,r2,r3⟩,lr,rfl,ho,hs,hm⟩,hb⟩;have Q:=O (show (∃ o:Sl,aA (J r1 r2 r3)=aA (dz o)/\gK w4 w.heap.size (dz o) res)/\Below w.heap.size w w4 from ⟨⟨(r1,r2,r3),rfl,by rw [<- TI.out lr hs hm]; exact cK ho B1.out.size⟩,B1.out.trans ((BE.out.trans hb).mono B1.out.size)⟩);clear ho hs hm hb CR TI;go_wp2;go_ret;exact Q.out
theorem mO (v:Sl) (l:List An) (w:aF) (hv:Row EA w (dz v) l) (hl:l.length<=900) :
  aZ aC 26 #[dz v] w fun e w'=>(∃ v':Sl,e=aA (dz v')/\Own EA w' w.heap.size (dz v') l)/\Below w.heap.size w w':=by
 obtain⟨vo,vn,vc⟩:=v;rcases hv with⟨rfl,hv⟩|⟨a,cap,hv,h1,h2,h3⟩
 ·obtain⟨rfl,rfl,rfl⟩:vo=aj/\vn=0/\vc=0:=by simpa using hv
  clear hv hl;have q:∀ w',(binOp .eql 46 (J aj 0 0) (J aj 0 0)).run aC w'=.ok (bB bC) w':=fun w'=>xK aj 0 0 w';go_enter aU,bf;go_wp2;go_ret;exact⟨⟨(aj,0,0),rfl,eG _ _⟩,ay _ _⟩
 ·obtain⟨rfl,rfl,rfl⟩:vo=au a/\vn=l.length/\vc=cap:=by simpa using hv
  have hx:Row EA w (J (au a) l.length vc) l:=aO ⟨a,vc,rfl,h1,h2,h3⟩;have n0:=fK w (aK #[] 75);obtain⟨q0,w0,r0,o0,g0⟩:=gF Ji w.heap.size (dB w #[] 75) (bg _) (hx.on n0) (by omega) 46;obtain⟨v1,v3,hv1⟩:=(Row.dw o0).len;obtain⟨n,hn⟩:∃ n,n=l.length:=⟨_,rfl⟩;have Q:=O (show (∃ v':Sl,aA q0=aA (dz v')/\Own EA w0 w.heap.size (dz v') l)/\Below w.heap.size w w0 from ⟨⟨(v1,l.length,v3),by rw [hv1],by subst hv1; exact o0⟩,n0.trans (g0.mono n0.size)⟩);rw [<- hn] at r0 ⊢;clear hv h1 h2 h3 hx o0 g0 n0 hv1 hn hl;have q:∀ w',(binOp .eql 46 (J (au a) n vc) (J aj 0 0)).run aC w'=.ok (bB false) w':=fun w'=>xK (au a) n vc w';have r0:(aN #[46,46] 46 #[J (au ⟨w.heap.size,0,aj⟩) 0 0,J (au a) n vc]).run aC (w.alloc (aK #[] 75))=.ok q0 w0:=r0;go_enter aU,bf;go_wp2_with (first | (at_builtin; refine wpList_append_run rfl _ _ 46 rfl rfl rfl r0 ?_) | fail);go_ret;exact Q.out
theorem rU (w:aF):aZ aC 32 #[J aj 0 0] w fun e w'=>e=aA (J aj 0 0)/\Below w.heap.size w w':=by
 have q:∀ w',(binOp .eql 34 (J aj 0 0) (J aj 0 0)).run aC w'=.ok (bB bC) w':=fun w'=>q8 aj 0 0 w';go_enter bq,Try.ntmps32;go_wp2;go_ret;exact⟨rfl,ay _ _⟩
def tK (B:Nat) (b1:Nat) (_k _tc _ts _ic _is_:Int) (po:Option bA) (pn pc:Nat) (p:List An) (i:Nat) (v:aL) (x:aF):Prop :=
 match i with
 | 0=>v=Z (au ⟨b1,5,aj⟩)
 | 1=>v=J aj 0 0
 | 2=>v=J aj 0 0
 | 3=>v=Z (au ⟨b1,6,aj⟩)
 | 4=>v=J po pn pc
 | 5=>∃ s:Sl,v=dz s/\pR x B v p
 | 6=>v=Z (au ⟨b1,5,aj⟩)
 | _=>True
noncomputable def AY:Code:=((Try.f24.body.bind (dL 1)).getD .skip)
theorem yL (B:Nat) (b1:Nat) (k tc ts ic og:Int) (po:Option bA) (pn pc:Nat) (p:List An) (i:Nat) (v:aL) (x x':aF) (h:tK B b1 k tc ts ic og po pn pc p i v x) (hb:Below x.heap.size x x'):tK B b1 k tc ts ic og po pn pc p i v x':=by
 by_cases hi:i<7
 ·rcases (by omega:i=0\/i=1\/i=2\/i=3\/i=4\/i=5\/i=6) with rfl|rfl|rfl|rfl|rfl|rfl|rfl
  ·exact h
  ·exact h
  ·exact h
  ·exact h
  ·exact h
  ·obtain⟨s,h1,h2⟩:=h; exact⟨s,h1,Bk.dx h2 hb⟩
  ·exact h
 ·unfold tK
  split <;> first | omega | trivial
theorem G9 (Q:Exit->Act->aF->Prop) (W:aF) (b1:Nat) (k tc ts ic og:Int) (po:Option bA) (pn pc:Nat) (p:List An) (u0 u2 u3 u4 u5 u6 u7 u8 u9 u10 u11:aL)
  (h1:dh W b1 #[U V k,U V tc,U V ts,U V ic,U V og,J aj 0 0,J po pn pc] 48) (r5:kX W (J po pn pc) p) (l5:p.length<=900)
  (hQ:∀ (x:aF) (v3 v4 v5 v6 v7 v8 v9 v10:aL) (q1:Option bA) (q2 q3:Nat),dh x b1 #[U V k,U V tc,U V ts,U V ic,U V og,J aj 0 0,J q1 q2 q3] 48->pR x W.heap.size (J q1 q2 q3) p->(∀ B,B<=b1->Below B W x)->But b1 W x->Q .normal ⟨(u0::Z (au ⟨b1,0,aj⟩)::u2::v3::v4::v5::v6::v7::v8::v9::v10::u11::[]).toArray,[]⟩ x) :
  Code.wp aC AY Q ⟨(u0::Z (au ⟨b1,0,aj⟩)::u2::u3::u4::u5::u6::u7::u8::u9::u10::u11::[]).toArray,[]⟩ W:=by
 have HQ:=O hQ;have H1:=O h1;have R5:=O r5;have L5:=O l5;clear hQ h1 r5 l5;have iG:=yL W.heap.size b1 k tc ts ic og po pn pc p;unfold AY
 conv=>arg 2; whnf
 have nd:∀ j,(j<3\/10<=j)->∀ i,i<7->(fun i=>3+i) i≠j:=by
  intro j hj i hi h;simp only at h;omega
 refine Rg.eP 10 7 (fun i=>3+i) (fun _=>7) (tK W.heap.size b1 k tc ts ic og po pn pc p) (by kernel_rfl) (by kernel_rfl) rfl (by decide) (fun i j _ _ h=>by have h2:3+i=3+j:=h; omega) (fun i hi=>by show 3+i<12; omega) ?_ (fun _=>Rg.iw 14 (by kernel_rfl)) ?_ ?_
 ·intro i o hi ho a x D hnd hc hD hb seen K hK;clear HQ;rcases (by omega:i=0\/i=1\/i=2\/i=3\/i=4\/i=5\/i=6) with rfl|rfl|rfl|rfl|rfl|rfl|rfl
  ·cases ho;have e1:a.eval (aG 1)=Z (au ⟨b1,0,aj⟩):=seen.kp 1 _ (nd 1 (by omega)) rfl;exact Rg.cu rfl rfl (Rg.dH a.eval _ 48 (aG 1) 3 rfl (by rw [e1]; simp [go_sem])) (hK _ _ rfl (ay _ _) fun _ _ _ _ _ _ _ h=>h)
  ·cases ho;have e3:a.eval (aG 3)=Z (au ⟨b1,5,aj⟩):=seen.at_ ⟨0,.data⟩ (by simp) rfl (aO (by decide));have y5:=(H1.out.on hb).cell 5;simp only [Y,ah,ak] at y5;exact Rg.cu rfl rfl (Rg.dO a.eval _ 34 (aG 3) rfl (by rw [e3]; simp [go_sem,y5])) (hK _ _ rfl (ay _ _) fun _ _ _ _ _ _ _ h=>h)
  ·cases ho;have e4:a.eval (aG 4)=J aj 0 0:=seen.at_ ⟨1,.data⟩ (by simp) rfl (aO (by decide));exact Rg.eU rfl rfl (Rw.eO a.eval _ (aG 4) 34 32 rfl e4 rfl _ (dV bq rfl rfl _ _)) (rU x) fun e w1 h=>by
    obtain⟨rfl,h3⟩:=h;exact⟨_,rfl,hK _ _ rfl (h3.mono hb.size) fun j u hj _ _ _ hne h=>iG j u _ _ h h3⟩
  ·cases ho;have e1:a.eval (aG 1)=Z (au ⟨b1,0,aj⟩):=seen.kp 1 _ (nd 1 (by omega)) rfl;exact Rg.cu rfl rfl (Rg.dH a.eval _ 48 (aG 1) 4 rfl (by rw [e1]; simp [go_sem])) (hK _ _ rfl (ay _ _) fun _ _ _ _ _ _ _ h=>h)
  ·cases ho;have e6:a.eval (aG 6)=Z (au ⟨b1,6,aj⟩):=seen.at_ ⟨3,.data⟩ (by simp) rfl (aO (by decide));have y6:=(H1.out.on hb).cell 6;simp only [Y,ah,ak] at y6;exact Rg.cu rfl rfl (Rg.dO a.eval _ 46 (aG 6) rfl (by rw [e6]; simp [go_sem,y6])) (hK _ _ rfl (ay _ _) fun _ _ _ _ _ _ _ h=>h)
  ·cases ho;have e7:a.eval (aG 7)=J po pn pc:=seen.at_ ⟨4,.data⟩ (by simp) rfl (aO (by decide));exact Rg.eU rfl rfl (Rw.eO a.eval _ (aG 7) 46 26 rfl e7 rfl _ (dV aU rfl rfl _ _)) (mO (po,pn,pc) p x (R5.out.on hb) L5.out) fun e w1 h=>by
    obtain⟨⟨s,rfl,h1⟩,h3⟩:=h;exact⟨_,rfl,hK _ _ ⟨s,rfl,cK h1 hb.size⟩ (h3.mono hb.size) fun j u hj _ _ _ hne h=>iG j u _ _ h h3⟩
  ·cases ho;have e1:a.eval (aG 1)=Z (au ⟨b1,0,aj⟩):=seen.kp 1 _ (nd 1 (by omega)) rfl;exact Rg.cu rfl rfl (Rg.dH a.eval _ 48 (aG 1) 3 rfl (by rw [e1]; simp [go_sem])) (hK _ _ rfl (ay _ _) fun _ _ _ _ _ _ _ h=>h)
 ·intro kk o h1 h2 ho;rcases (by omega:kk=8\/kk=9) with rfl|rfl
  ·cases ho;exact⟨⟨7,.phase⟩,by simp,rfl,rfl⟩
  ·cases ho;exact⟨⟨8,.data⟩,by simp,rfl,rfl⟩
 ·intro a w' df sz kp ⟨vs,hv⟩ hb;have sz':a.tmps.size=12:=sz;have g1:a.tmps[1]?=au (Z (au ⟨b1,0,aj⟩)):=(kp 1 (nd 1 (by omega))).trans rfl;have g5:a.tmps[5]?=au (J aj 0 0):=by
   have h:vs 2=J aj 0 0:=(hv 2 (by omega)).2 (by decide);rw [<- h];exact (hv 2 (by omega)).1
  have g9:a.tmps[9]?=au (Z (au ⟨b1,5,aj⟩)):=by
   have h:vs 6=Z (au ⟨b1,5,aj⟩):=(hv 6 (by omega)).2 (by decide);rw [<- h];exact (hv 6 (by omega)).1
  obtain⟨⟨q1,q2,q3⟩,hs,ho⟩:=(hv 5 (by omega)).2 (by decide);have g8:a.tmps[8]?=au (J q1 q2 q3):=((hv 5 (by omega)).1).trans (congrArg au hs);rw [hs] at ho;have hB:=H1.out.on hb;have hlt:=H1.out.lt;show Rg.dW _ _ _ 3 7 a w';simp only [Rg.dW];have Ei:=hB.cell 5;have Gw:=hB.fr 5;simp only [Y,ah,ak] at Ei;refine Rg.eZ 34 (aG 9) (aG 5) rfl rfl rfl rfl (Rg.cO g9) (Rg.cO g5) (w':=(w').setCell ⟨b1,5,aj⟩ (J aj 0 0)) (by simp [go_sem,Ei,Gw]) ?_;have Ej:dh ((w').setCell ⟨b1,5,aj⟩ (J aj 0 0)) b1 #[U V k,U V tc,U V ts,U V ic,U V og,J aj 0 0,J po pn pc] 48:=by simpa using dG (k:=5) hB (J aj 0 0)
  refine Rg.cu rfl rfl (Rg.dH _ _ 48 (aG 1) 4 rfl (v:=Z (au ⟨b1,6,aj⟩)) (by rw [Rg.cO g1]; simp [go_sem])) ?_;have He:(a.put (au 10) (Z (au ⟨b1,6,aj⟩))).tmps[10]?=au (Z (au ⟨b1,6,aj⟩)):=by simp [Act.put,sz']
  show Go.wpOp _ _ _ 9 _ (a.put (au 10) (Z (au ⟨b1,6,aj⟩))) _;have IZ:=Ej.cell 6;have JB:=Ej.fr 6;simp only [Y,ah,ak] at IZ;refine Rg.eZ 46 (aG 10) (aG 8) rfl rfl rfl rfl (Rg.cO He) (Rg.cO ((Rg.get_put _ 10 _ 8 (by decide)).trans g8)) (w':=((w').setCell ⟨b1,5,aj⟩ (J aj 0 0)).setCell ⟨b1,6,aj⟩ (J q1 q2 q3)) (by simp [go_sem,IZ,JB]) ?_;have JC:dh (((w').setCell ⟨b1,5,aj⟩ (J aj 0 0)).setCell ⟨b1,6,aj⟩ (J q1 q2 q3)) b1 #[U V k,U V tc,U V ts,U V ic,U V og,J aj 0 0,J q1 q2 q3] 48:=by simpa using dG (k:=6) Ej (J q1 q2 q3)
  have pX:∀ j,(j<3\/11<=j)->((a.put (au 10) (Z (au ⟨b1,6,aj⟩)))).tmps[j]?=(u0::Z (au ⟨b1,0,aj⟩)::u2::u3::u4::u5::u6::u7::u8::u9::u10::u11::[])[j]?:=fun j hj=>(Rg.get_put _ 10 _ j (by omega)).trans ((kp j (nd j (by omega))).trans Y);obtain⟨mid,hmid,hfr⟩:=Rg.fH (a:=(a.put (au 10) (Z (au ⟨b1,6,aj⟩)))) 3 8 df (by simp [Rg.size_put,sz']) (by simp) pX;show Q .normal ((a.put (au 10) (Z (au ⟨b1,6,aj⟩)))) _;rw [hfr]
  match mid,hmid with
  | [v3,v4,v5,v6,v7,v8,v9,v10],_ =>
   exact HQ.out _ _ _ _ _ _ _ _ _ q1 q2 q3 JC (dF (dF ho b1 5 (J aj 0 0) hlt) b1 6 (J q1 q2 q3) hlt) (fun B hBl=>(((hb.mono (Nat.le_of_lt (Nat.lt_of_le_of_lt hBl hlt))).setCell (p:=⟨b1,5,aj⟩) hBl (J aj 0 0)).setCell (p:=⟨b1,6,aj⟩) hBl (J q1 q2 q3))) (((But.of_below hb).trans (dn _ b1 5 _)).trans (dn _ b1 6 _))
theorem Ac (k tc ts ic og:Int) (pv:Sl) (p:List An) (w:aF) (hp:kX w (dz pv) p) (hl:p.length<=900) :
  aZ aC 24 #[bn #[U V k,U V tc,U V ts,U V ic,U V og,J aj 0 0,dz pv]] w fun e w'=>(∃ s:Sl,e=aA (bn #[U V k,U V tc,U V ts,U V ic,U V og,J aj 0 0,dz s])/\pR w' w.heap.size (dz s) p)/\Below w.heap.size w w':=by
 obtain⟨po,pn,pc⟩:=pv;obtain⟨h0,h1,h2⟩:=eX w #[U V k,U V tc,U V ts,U V ic,U V og,J aj 0 0,J po pn pc] #[U V 0,U V 0,U V 0,U V 0,U V 0,J aj 0 0,J aj 0 0] 48 48;have GB:=O h0;have X1:=O h1;have X2:=O h2;have HP:=O (hp.on h0);clear h0 h1 h2 hp;show aZ aC 24 #[bn #[U V k,U V tc,U V ts,U V ic,U V og,J aj 0 0,J po pn pc]] w _;go_enter Try.func24,Try.ntmps24;go_upto_region 1 with fail;generalize (w.alloc (aK #[U V k,U V tc,U V ts,U V ic,U V og,J aj 0 0,J po pn pc] 48)).alloc (aK #[U V 0,U V 0,U V 0,U V 0,U V 0,J aj 0 0,J aj 0 0] 48)=W at *;refine G9 _ W w.heap.size k tc ts ic og po pn pc p _ _ _ _ _ _ _ _ _ _ _ X1.out HP.out hl ?_;intro x v3 v4 v5 v6 v7 v8 v9 v10 q1 q2 q3 hbx ho hbl hbt;have Y1:=O hbx;have Y2:=O (hbt.box X2.out (by omega));have OO:=O (cK ho GB.out.size);have G2:=O (GB.out.trans (hbl w.heap.size (bg _)));clear hbx ho hbl hbt GB X1 X2 HP;obtain⟨x0,x1,x2,x3,x4,x5,x6⟩:=Y1.out.qG;obtain⟨r0,r1,r2,r3,r4,r5,r6⟩:=Y2.out.qG;obtain⟨t0,t1,t2,t3,t4,t5,t6⟩:=Y2.out.FZ;have zz:=Y2.out.lt;have FB:=O (uS Y2.out (U V k) (U V tc) (U V ts) (U V ic) (U V og) (J aj 0 0) (J q1 q2 q3));have BL:=O (qc (b:=w.heap.size+1) G2.out (by omega) (U V k) (U V tc) (U V ts) (U V ic) (U V og) (J aj 0 0) (J q1 q2 q3));have OX:=O ((xL x (w.heap.size+1) (U V k) (U V tc) (U V ts) (U V ic) (U V og) (J aj 0 0) (J q1 q2 q3)).own OO.out Y2.out (by decide));clear Y1 Y2 OO G2;go_wp2_with fail;obtain⟨v0,v1,v2,v3,v4,v5,v6⟩:=FB.out.qG;refine bodyPost_ret (v:=bn #[U V k,U V tc,U V ts,U V ic,U V og,J aj 0 0,J q1 q2 q3]) (by simp [results,Try.results24,go_sem,v0,v1,v2,v3,v4,v5,v6]) rfl ?_;exact⟨⟨(q1,q2,q3),rfl,OX.out⟩,BL.out⟩
def tL (W:aF) (B:Nat) (x:nG) (o:Ou×List An):Prop:=x.1=o.1.Im/\x.2.1=o.1.kind/\(x.2.2.1,x.2.2.2.1)=o.1.tree/\(x.2.2.2.2.1,x.2.2.2.2.2.1)=o.1.id/\x.2.2.2.2.2.2.1=(aj,0,0)/\o.1.p=[]/\pR W B (dz x.2.2.2.2.2.2.2) o.2
theorem tL.on {W W':aF} {B:Nat} {x:nG} {o:Ou×List An} (h:tL W B x o) (hb:Below W.heap.size W W'):tL W' B x o:=⟨h.1,h.2.1,h.2.2.1,h.2.2.2.1,h.2.2.2.2.1,h.2.2.2.2.2.1,Bk.dx h.2.2.2.2.2.2 hb⟩
theorem tL.app {W W':aF} {B B':Nat} {x:nG} {o:Ou×List An} {v:aL} {l:List nG} (h:tL W B x o) (ho:uE W B' v l) (gr:W.grownBy W' v.ownBlock):tL W' B x o:=⟨h.1,h.2.1,h.2.2.1,h.2.2.2.1,h.2.2.2.2.1,h.2.2.2.2.2.1,tC ho gr h.2.2.2.2.2.2 (by decide)⟩
theorem tL.a {W:aF} {B:Nat} {x:nG} {o:Ou×List An} (h:tL W B x o):Cg W x o:=⟨h.1,h.2.1,h.2.2.1,h.2.2.2.1,by rw [h.2.2.2.2.1,h.2.2.2.2.2.1]; exact yF W,Row.dw h.2.2.2.2.2.2⟩
def qL (W:aF) (B:Nat) (x:oK) (o:(Int×dI)×List An):Prop:=x.1=o.1.1/\(x.2.1,x.2.2.1)=o.1.2/\pR W B (dz x.2.2.2) o.2
theorem qL.on {W W':aF} {B:Nat} {x:oK} {o:(Int×dI)×List An} (h:qL W B x o) (hb:Below W.heap.size W W'):qL W' B x o:=⟨h.1,h.2.1,Bk.dx h.2.2 hb⟩
theorem qL.app {W W':aF} {B B':Nat} {x:oK} {o:(Int×dI)×List An} {v:aL} {l:List oK} (h:qL W B x o) (ho:qh W B' v l) (gr:W.grownBy W' v.ownBlock):qL W' B x o:=⟨h.1,h.2.1,tC ho gr h.2.2 (by decide)⟩
theorem qL.a {W:aF} {B:Nat} {x:oK} {o:(Int×dI)×List An} (h:qL W B x o):G5 W x o:=⟨h.1,h.2.1,Row.dw h.2.2⟩
theorem Co {wr w0:aF} {B:Nat} {v:aL} {lx:List nG} {L:List (Ou×List An)} (x:nG) (o:Ou×List An) (ho:uE wr B v lx) (hA:dJ (tL wr B) lx L) (hx:tL wr B x o) (hn:lx.length<=1000) (hB:B<=wr.heap.size) (hb:Below B w0 wr) :
  ∃ v' w',(aN #[42,42] 42 #[v,J (au ⟨wr.heap.size,0,aj⟩) 1 1]).run aC (wr.alloc (aK (jG x).toArray 50))=.ok v' w'/\uE w' B v' (lx++[x])/\dJ (tL w' B) (lx++[x]) (L++[o])/\Below B w0 w':=by
 have NB:=fK wr (aK (jG x).toArray 50);have hlit:=jk Gh wr [x] 1 rfl (by simp) (jG x).toArray rfl;have o1:uE (wr.alloc (aK (jG x).toArray 50)) B v lx:=Bk.dx ho NB;obtain⟨v',w',r',o',g'⟩:=iq Gh B o1 (Row.dw hlit) hn (by simp) (aB hB NB.size) 42;have g:∀ y z,tL wr B y z->tL w' B y z:=fun y z q=>(q.on NB).app o1 g';exact⟨v',w',r',o',(hA.mono g).append (.cons (g _ _ hx) .nil),(hb.trans (NB.mono hB)).grown g' (aB hB NB.size) fun j hj=>(o1.lt j hj).1⟩
theorem vS {k:Int} {t x:dI} {l:List An} {ns:List Int} {q:Nat} {n:Int} (h:ns[q]?=au n):oV k t x l (ns.take (q+1))=oV k t x l (ns.take q)++[(⟨n,k,t,x,[]⟩,l)]:=by
 unfold oV;rw [gT ns q n h,aH]
 rfl
theorem vT {x:dI} {l:List An} {ns:List Int} {q:Nat} {n:Int} (h:ns[q]?=au n):qA x l (ns.take (q+1))=qA x l (ns.take q)++[((n,x),l)]:=by
 unfold qA;rw [gT ns q n h,aH]
 rfl
theorem yM {b:Br} {f:Int} {t:dI} {l:List An} (h:fD b.dU t=aj):iA b f t l=([],[]):=by
 have h:(b.dU.find? fun a=>decide (a.id=t))=aj:=h;unfold iA;rw [h]
theorem rV {b:Br} {f:Int} {t:dI} {l:List An} {a:Ad} (h:fD b.dU t=au a) (hf:a.par≠f):iA b f t l=([],[]):=by
 have h:(b.dU.find? fun a=>decide (a.id=t))=au a:=h;unfold iA;rw [h];exact if_neg hf
theorem yN {b:Br} {f:Int} {t:dI} {l:List An} {a:Ad} (h:fD b.dU t=au a) (hf:a.par=f):iA b f t l=(toB b t l,lY b l):=by
 have h:(b.dU.find? fun a=>decide (a.id=t))=au a:=h;unfold iA;rw [h];exact if_pos hf
theorem Ae {wr w0:aF} {B:Nat} {v r:aL} {lx:List oK} {L:List ((Int×dI)×List An)} (x:oK) (o:(Int×dI)×List An) (ho:qh wr B v lx) (hr:Gs wr r [x]) (hA:dJ (qL wr B) lx L) (hx:qL wr B x o) (hn:lx.length<=1000) (hB:B<=wr.heap.size) (hb:Below B w0 wr) :
  ∃ v' w',(aN #[43,43] 43 #[v,r]).run aC wr=.ok v' w'/\qh w' B v' (lx++[x])/\dJ (qL w' B) (lx++[x]) (L++[o])/\Below B w0 w':=by
 obtain⟨v',w',r',o',g'⟩:=iq Ip B ho hr hn (by simp) hB 43;have g:∀ y z,qL wr B y z->qL w' B y z:=fun y z q=>q.app ho g';exact⟨v',w',r',o',(hA.mono g).append (.cons (g _ _ hx) .nil),hb.grown g' hB fun j hj=>(ho.lt j hj).1⟩
theorem qC {W:aF} {lx:List nG} {k:Int} {t x:dI} {l:List An} {ns:List Int} (h:dJ (Cg W) lx (oV k t x l ns)):lx.length=ns.length:=by rw [h.len]; simp [oV]
theorem yO {W:aF} {lx:List oK} {x:dI} {l:List An} {ns:List Int} (h:dJ (G5 W) lx (qA x l ns)):lx.length=ns.length:=by rw [h.len]; simp [qA]
def oW (B:Nat) (_B0 b5:Nat) (_k0 _t1 _t2 x1 x2 n:Int) (po:Option bA) (pn pc:Nat) (p:List An) (v0:aL) (_ly:List oK) (_L:List ((Int×dI)×List An)) (i:Nat) (v:aL) (x:aF):Prop :=
 match i with
 | 0=>v=v0
 | 1=>v=U V n
 | 2=>v=Z (au ⟨b5,3,aj⟩)
 | 3=>v=bn #[U V x1,U V x2]
 | 4=>v=Z (au ⟨b5,6,aj⟩)
 | 5=>v=J po pn pc
 | 6=>∃ s:Sl,v=dz s/\pR x B (dz s) p
 | 7=>∃ s:Sl,v=bn #[U V n,U V x1,U V x2,dz s]/\pR x B (dz s) p
 | 8=>∃ s:Sl,qh x B v [(n,x1,x2,s)]/\pR x B (dz s) p
 | _=>True
noncomputable def yP:Code:=((Try.f7.body.bind (dL 14)).getD .skip)
theorem vU (B:Nat) (B0 b5:Nat) (k0 t1 t2 x1 x2 n:Int) (po:Option bA) (pn pc:Nat) (p:List An) (v0:aL) (ly:List oK) (L:List ((Int×dI)×List An)) (i:Nat) (v:aL) (x x':aF) (h:oW B B0 b5 k0 t1 t2 x1 x2 n po pn pc p v0 ly L i v x) (hb:Below x.heap.size x x'):oW B B0 b5 k0 t1 t2 x1 x2 n po pn pc p v0 ly L i v x':=by
 by_cases hi:i<9
 ·rcases (by omega:i=0\/i=1\/i=2\/i=3\/i=4\/i=5\/i=6\/i=7\/i=8) with rfl|rfl|rfl|rfl|rfl|rfl|rfl|rfl|rfl
  ·exact h
  ·exact h
  ·exact h
  ·exact h
  ·exact h
  ·exact h
  ·obtain⟨s,h1,h2⟩:=h; exact⟨s,h1,Bk.dx h2 hb⟩
  ·obtain⟨s,h1,h2⟩:=h; exact⟨s,h1,Bk.dx h2 hb⟩
  ·obtain⟨s,h1,h2⟩:=h; exact⟨s,Bk.dx h1 hb,Bk.dx h2 hb⟩
 ·unfold oW
  split <;> first | omega | trivial
theorem EH (Q:Exit->Act->aF->Prop) (W:aF) (B0 b5:Nat) (k0 t1 t2 x1 x2 n:Int) (po:Option bA) (pn pc:Nat) (p:List An) (v0:aL) (ly:List oK) (L:List ((Int×dI)×List An)) (u0 u1 u2 u3 u4 u6 u7 u8 u9 u10 u11 u12 u14 u16 u17 u18 u19 u20 u21 u22 u23 u24 u25 u26 u27 u28 u29 u30 u31 u32 u33 u34 u35 u36 u37 u38 u39 u40 u41 u42 u43 u44 u45 u46 u47 u48 u49 u50 u51 u52 u53 u54 u55 u56 u57 u58 u59 u60 u61 u62 u63 u64 u65 u66 u67 u68 u69 u70 u71:aL)
  (h5:dh W b5 #[U V k0,U V t1,U V t2,U V x1,U V x2,J aj 0 0,J po pn pc] 48) (r5:kX W (J po pn pc) p) (l5:p.length<=900) (ov:qh W B0 v0 ly) (al:dJ (qL W B0) ly L) (hb0:B0<=W.heap.size) (ln:ly.length<=900)
  (hQ:∀ (x:aF) (w13:aL) (v59 v60 v61 v62 v63 v64 v65 v66 v67 v68:aL) (q:Sl),qh x B0 w13 (ly++[(n,x1,x2,q)])->dJ (qL x B0) (ly++[(n,x1,x2,q)]) (L++[((n,(x1,x2)),p)])->Below B0 W x->Q .normal ⟨(u0::u1::u2::u3::u4::Z (au ⟨b5,0,aj⟩)::u6::u7::u8::u9::u10::u11::u12::w13::u14::U V n::u16::u17::u18::u19::u20::u21::u22::u23::u24::u25::u26::u27::u28::u29::u30::u31::u32::u33::u34::u35::u36::u37::u38::u39::u40::u41::u42::u43::u44::u45::u46::u47::u48::u49::u50::u51::u52::u53::u54::u55::u56::u57::u58::v59::v60::v61::v62::v63::v64::v65::v66::v67::v68::u69::u70::u71::[]).toArray,[]⟩ x) :
  Code.wp aC yP Q ⟨(u0::u1::u2::u3::u4::Z (au ⟨b5,0,aj⟩)::u6::u7::u8::u9::u10::u11::u12::v0::u14::U V n::u16::u17::u18::u19::u20::u21::u22::u23::u24::u25::u26::u27::u28::u29::u30::u31::u32::u33::u34::u35::u36::u37::u38::u39::u40::u41::u42::u43::u44::u45::u46::u47::u48::u49::u50::u51::u52::u53::u54::u55::u56::u57::u58::u59::u60::u61::u62::u63::u64::u65::u66::u67::u68::u69::u70::u71::[]).toArray,[]⟩ W:=by
 have HQ:=O hQ;have H5:=O h5;have R5:=O r5;have L5:=O l5;have OV:=O ov;have AL:=O al;have HB:=O hb0;have LN:=O ln;clear hQ h5 r5 l5 ov al hb0 ln;have iG:=vU W.heap.size B0 b5 k0 t1 t2 x1 x2 n po pn pc p v0 ly L;unfold yP
 conv=>arg 2; whnf
 have nd:∀ j,(∀ i,i<9->[59,60,61,62,63,64,65,66,67].getD i 0≠j)->∀ i,i<9->(fun i=>[59,60,61,62,63,64,65,66,67].getD i 0) i≠j:=fun j h=>h;refine Rg.eP 11 9 (fun i=>[59,60,61,62,63,64,65,66,67].getD i 0) (fun _=>9) (oW W.heap.size B0 b5 k0 t1 t2 x1 x2 n po pn pc p v0 ly L) (by kernel_rfl) (by kernel_rfl) rfl (by decide) (fun i j hi hj h=>(by decide:∀ i,i<9->∀ j,j<9->[59,60,61,62,63,64,65,66,67].getD i 0=[59,60,61,62,63,64,65,66,67].getD j 0->i=j) i hi j hj h) (fun i hi=>(by decide:∀ i,i<9->[59,60,61,62,63,64,65,66,67].getD i 0<72) i hi) ?_ (fun _=>Rg.iw 14 (by kernel_rfl)) ?_ ?_
 ·intro i o hi ho a x D hnd hc hD hb seen K hK;clear HQ;rcases (by omega:i=0\/i=1\/i=2\/i=3\/i=4\/i=5\/i=6\/i=7\/i=8) with rfl|rfl|rfl|rfl|rfl|rfl|rfl|rfl|rfl
  ·cases ho;have e13:a.eval (aG 13)=v0:=seen.kp 13 _ (nd 13 (by decide)) rfl;exact Rg.cu rfl rfl (Rg.gN a.eval _ (aG 13) rfl x) (hK _ _ e13 (ay _ _) fun _ _ _ _ _ _ _ h=>h)
  ·cases ho;have e15:a.eval (aG 15)=U V n:=seen.kp 15 _ (nd 15 (by decide)) rfl;exact Rg.cu rfl rfl (Rg.gN a.eval _ (aG 15) rfl x) (hK _ _ e15 (ay _ _) fun _ _ _ _ _ _ _ h=>h)
  ·cases ho;have e5:a.eval (aG 5)=Z (au ⟨b5,0,aj⟩):=seen.kp 5 _ (nd 5 (by decide)) rfl;exact Rg.cu rfl rfl (Rg.dH a.eval _ 48 (aG 5) 2 rfl (by rw [e5]; simp [go_sem])) (hK _ _ rfl (ay _ _) fun _ _ _ _ _ _ _ h=>h)
  ·cases ho;have e61:a.eval (aG 61)=Z (au ⟨b5,3,aj⟩):=seen.at_ ⟨2,.data⟩ (by simp) rfl (aO (by decide));have y3:=(H5.out.on hb).cell 3;have y4:=(H5.out.on hb).cell 4;simp only [Y,ah,ak] at y3 y4;exact Rg.cu rfl rfl (Rg.dO a.eval _ 23 (aG 61) rfl (by rw [e61]; simp [go_sem,y3,y4])) (hK _ _ rfl (ay _ _) fun _ _ _ _ _ _ _ h=>h)
  ·cases ho;have e5:a.eval (aG 5)=Z (au ⟨b5,0,aj⟩):=seen.kp 5 _ (nd 5 (by decide)) rfl;exact Rg.cu rfl rfl (Rg.dH a.eval _ 48 (aG 5) 4 rfl (by rw [e5]; simp [go_sem])) (hK _ _ rfl (ay _ _) fun _ _ _ _ _ _ _ h=>h)
  ·cases ho;have e63:a.eval (aG 63)=Z (au ⟨b5,6,aj⟩):=seen.at_ ⟨4,.data⟩ (by simp) rfl (aO (by decide));have y6:=(H5.out.on hb).cell 6;simp only [Y,ah,ak] at y6;exact Rg.cu rfl rfl (Rg.dO a.eval _ 46 (aG 63) rfl (by rw [e63]; simp [go_sem,y6])) (hK _ _ rfl (ay _ _) fun _ _ _ _ _ _ _ h=>h)
  ·cases ho;have e64:a.eval (aG 64)=J po pn pc:=seen.at_ ⟨5,.data⟩ (by simp) rfl (aO (by decide));exact Rg.eU rfl rfl (Rw.eO a.eval _ (aG 64) 46 26 rfl e64 rfl _ (dV aU rfl rfl _ _)) (mO (po,pn,pc) p x (R5.out.on hb) L5.out) fun e w1 h=>by
    obtain⟨⟨s,rfl,h1⟩,h3⟩:=h;exact⟨_,rfl,hK _ _ ⟨s,rfl,cK h1 hb.size⟩ (h3.mono hb.size) fun j u hj _ _ _ hne h=>iG j u _ _ h h3⟩
  ·cases ho;have e60:a.eval (aG 60)=U V n:=seen.at_ ⟨1,.data⟩ (by simp) rfl (aO (by decide));have e62:a.eval (aG 62)=bn #[U V x1,U V x2]:=seen.at_ ⟨3,.data⟩ (by simp) rfl (aO (by decide));have JD:=seen.at_ ⟨6,.data⟩ (by simp) rfl (aO (by decide));obtain⟨s,q0,q1⟩:=JD;have q0:a.eval (aG 65)=dz s:=q0;exact Rg.cu rfl rfl (Rg.nA a.eval _ 77 #[(0,aG 60),(1,aG 62),(2,aG 65)] rfl (by simp only [List.map_toArray,List.map_cons,List.map_nil,e60,e62,q0]; rfl) (v:=bn #[U V n,U V x1,U V x2,dz s]) (by simp [go_sem])) (hK _ _ ⟨s,rfl,q1⟩ (ay _ _) fun _ _ _ _ _ _ _ h=>h)
  ·cases ho;have JE:=seen.at_ ⟨7,.data⟩ (by simp) rfl (aO (by decide));obtain⟨s,q0,q1⟩:=JE;have q0:a.eval (aG 66)=bn #[U V n,U V x1,U V x2,dz s]:=q0;have hl:=jk Ip x [(n,x1,x2,s)] 1 rfl (by simp) (kJ (n,x1,x2,s)).toArray (by simp [flat,EG]);have nb:=fK x (aK (kJ (n,x1,x2,s)).toArray 77);exact Rg.cu rfl rfl (Rg.pE a.eval _ 43 1 #[(0,aG 66)] rfl (ps:=#[(0,BS (n,x1,x2,s))]) (by simp [q0]) (by simp [go_sem])) (hK (J (au ⟨x.heap.size,0,aj⟩) 1 1) (x.alloc (aK (kJ (n,x1,x2,s)).toArray 77)) ⟨s,cK hl hb.size,Bk.dx q1 nb⟩ (nb.mono hb.size) fun j u _ _ _ _ _ h=>iG j u _ _ h nb)
 ·intro kk o h1 h2 ho;rcases (by omega:kk=10) with rfl
  ·cases ho;exact⟨⟨9,.data⟩,by simp,rfl,rfl⟩
 ·intro a w' df sz kp ⟨vs,hv⟩ hb;have sz':a.tmps.size=72:=sz;have g59:a.tmps[59]?=au (v0):=by
   have h:vs 0=v0:=(hv 0 (by omega)).2 (by decide);rw [<- h];exact (hv 0 (by omega)).1
  have g67:a.tmps[67]?=au (vs 8):=(hv 8 (by omega)).1;have JF:=(hv 8 (by omega)).2 (by decide);obtain⟨⟨q1,q2,q3⟩,o67,ho⟩:=JF;obtain⟨v',x',r',o',a',bl⟩:=Ae (n,x1,x2,(q1,q2,q3)) ((n,(x1,x2)),p) (Bk.dx OV.out hb) (Row.dw o67) (AL.out.mono fun _ _ q=>q.on hb) ⟨rfl,rfl,cK ho HB.out⟩ (by have:=LN.out; omega) (aB HB.out hb.size) (hb.mono HB.out);show Rg.dW _ _ _ 2 9 a w';simp only [Rg.dW];refine Rg.cu rfl rfl (Rg.um _ _ (aG 59) (aG 67) 43 rfl (Rg.cO g59) (Rg.cO g67) r') ?_;show Go.wpOp _ _ _ 10 _ (a.put (au 68) v') _;refine Rg.cu rfl rfl (Rg.ny _ _ (aG 68) rfl _) ?_;rw [show (a.put (au 68) v').eval (aG 68)=v' from Rg.cO (by simp [Act.put,sz'])];show Q .normal ((a.put (au 68) v').put (au 13) v') x';have ka:∀ j,j≠68->j≠13->((a.put (au 68) v').put (au 13) v').tmps[j]?=a.tmps[j]?:=fun j h1 h2=>by rw [Rg.get_put _ _ _ _ (by omega),Rg.get_put _ _ _ _ (by omega)]
  have kt:((a.put (au 68) v').put (au 13) v').tmps[13]?=au (v'):=by simp [Act.put,sz']
  have pX:∀ j,(j<59\/69<=j)->((a.put (au 68) v').put (au 13) v').tmps[j]?=(u0::u1::u2::u3::u4::Z (au ⟨b5,0,aj⟩)::u6::u7::u8::u9::u10::u11::u12::v'::u14::U V n::u16::u17::u18::u19::u20::u21::u22::u23::u24::u25::u26::u27::u28::u29::u30::u31::u32::u33::u34::u35::u36::u37::u38::u39::u40::u41::u42::u43::u44::u45::u46::u47::u48::u49::u50::u51::u52::u53::u54::u55::u56::u57::u58::u59::u60::u61::u62::u63::u64::u65::u66::u67::u68::u69::u70::u71::[])[j]?:=fun j hj=>by
   by_cases hj2:j=13
   ·subst hj2;exact kt
   ·have hs:(u0::u1::u2::u3::u4::Z (au ⟨b5,0,aj⟩)::u6::u7::u8::u9::u10::u11::u12::v'::u14::U V n::u16::u17::u18::u19::u20::u21::u22::u23::u24::u25::u26::u27::u28::u29::u30::u31::u32::u33::u34::u35::u36::u37::u38::u39::u40::u41::u42::u43::u44::u45::u46::u47::u48::u49::u50::u51::u52::u53::u54::u55::u56::u57::u58::u59::u60::u61::u62::u63::u64::u65::u66::u67::u68::u69::u70::u71::[]:List aL)=(u0::u1::u2::u3::u4::Z (au ⟨b5,0,aj⟩)::u6::u7::u8::u9::u10::u11::u12::v0::u14::U V n::u16::u17::u18::u19::u20::u21::u22::u23::u24::u25::u26::u27::u28::u29::u30::u31::u32::u33::u34::u35::u36::u37::u38::u39::u40::u41::u42::u43::u44::u45::u46::u47::u48::u49::u50::u51::u52::u53::u54::u55::u56::u57::u58::u59::u60::u61::u62::u63::u64::u65::u66::u67::u68::u69::u70::u71::[]).set 13 (v'):=rfl;rw [hs,List.getElem?_set_ne (Ne.symm hj2)];exact (ka j (by omega) hj2).trans ((kp j (nd j fun i hi h=>by have:=(by decide:∀ i,i<9->59<=[59,60,61,62,63,64,65,66,67].getD i 0/\[59,60,61,62,63,64,65,66,67].getD i 0<69) i hi; omega)).trans Y)
  obtain⟨mid,hmid,hfr⟩:=Rg.fH (a:=(a.put (au 68) v').put (au 13) v') 59 10 (by simp [Act.put,df]) (by simp [Act.put,sz']) (by simp) pX;rw [hfr]
  match mid,hmid with
  | [v59,v60,v61,v62,v63,v64,v65,v66,v67,v68],_ =>
   exact HQ.out x' _ _ _ _ _ _ _ _ _ _ _ (q1,q2,q3) o' a' bl
end Ca
end Go.Proofs.Ytkcfgbddlpomgaa
