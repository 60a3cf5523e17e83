/-
  Publications of stag. Conditions as told.
-/
import Derived.Test.YtkcfgbddlpomgaaGreatDQ038
import Derived.Test.YtkcfgbddlpomgaaGreatDQ039
import Derived.Test.YtkcfgbddlpomgaaGreatDQ040
set_option maxRecDepth 100000
set_option maxHeartbeats 64000000
open _root_.Bool renaming and_eq_true->aJ,not_eq_true'->aX,true->bH
open _root_.Go renaming World->aG,Value->aN,Calls->bf,Addr->bF
open Go.Builtin renaming append_->aP
open Go.Ending renaming returned->aC
open Go.IntKind renaming i64->V
open Go.Lib renaming hid->O
open Go.Obj renaming cells->aM
open Go.Operand renaming tmp->aH
open Go.Proofs.Tryz renaming prog->aA,func35->aV,ntmps35->bg,func66->bD
open Go.RowKit.Below renaming refl->ay
open Go.Value renaming slice->J,int->U,pointer->Z,agg->bE,bool->bG
open _root_.List renaming getElem?_toArray->Y,getElem?_cons_zero->ah,getElem?_cons_succ->ak,length_filter_le->aD,mem_filter->aF,map_append->aI,filter_append->aK,mem_map->aL,getElem?_eq_getElem->aR,any_eq_true->aS,filter_cons_of_pos->aT,filter_cons_of_neg->aU,filter_sublist->aW,length_map->aY,mem_range->aZ
open _root_.Nat renaming le_trans->aB,zero_le->aO,le_refl->bn
open _root_.Option renaming none->aj,some->au
open _root_.Or renaming inr->aQ
namespace Go.Proofs.YtkcfgbddlpomgaaGreat
namespace Ca
open Go.RowKit Go.Sort Rw YtkcfgbddlpomgaaGreat.Nm Pr Bk Av Rl Sb Fl
structure vK (b:Br):Prop where
 ok:jC b
 few:Np b
 Bf:xQ b
 pe:∀ e∈b.ent,dW e.p
 po:∀ o∈b.own,dW o.p
 cl:∀ o∈b.own,0<=o.id.1/\o.id.1<32
 np:∀ n∈b.near,n≠-1
theorem KI.agF {b:Br} (h:KI 12 b) (hs:KS b) (hn:b.near=(List.range b.near.length).map fun (j:Nat)=>(j:Int)+1):vK b:=⟨h.ok,h.few,h.Bf,h.pe,h.po,fun o ho=>by have:=hs.2 o ho; unfold K4 at this; omega,fun n hm=>by
 rw [hn] at hm;obtain⟨j,_,rfl⟩:=aL.1 hm;omega⟩
def Ah (k:Int) (t x:eO) (l:List An) (ns:List Int):List (Ou×List An):=ns.map fun n=>(⟨n,k,t,x,[]⟩,l)
def Ai (x:eO) (l:List An) (cs:List Int):List ((Int×eO)×List An):=cs.map fun c=>((c,x),l)
theorem Uq (W:aG):fK W (J aj 0 0) []:=Or.inl ⟨rfl,rfl⟩
theorem Ur {k:Int} {t x:eO} {l:List An} {ns:List Int} (h:l.length<=5):∀ o∈Ah k t x l ns,o.1.p.length<=1000/\o.2.length<=1000:=fun o ho=>by
 obtain⟨n,_,rfl⟩:=aL.1 ho;exact⟨aO _,by show l.length<=1000; omega⟩
theorem IQ {x:eO} {l:List An} {cs:List Int} (h:l.length<=5):∀ o∈Ai x l cs,o.2.length<=1000:=fun o ho=>by
 obtain⟨n,_,rfl⟩:=aL.1 ho;show l.length<=1000; omega
theorem Pv (b:Br) (f:Int) (t:eO) (l:List An):(iH b f t l).1.length<=b.near.length:=by
 unfold iH
 split
 ·split
  ·exact aD _ _
  ·exact aO _
 ·exact aO _
theorem Pw (b:Br) (f:Int) (t:eO) (l:List An):(iH b f t l).2.length<=32:=by
 unfold iH
 split
 ·split
  ·exact aB (aD _ _) (by simp [NP])
  ·exact aO _
 ·exact aO _
theorem MF (pv lv:aN) (p:List C5) (l:List An) (w:aG) (hp:fK w pv p) (hl:sZ w lv l) (np:dW p) (nl:NL l) :
  bf aA 18 #[pv,lv] w fun e w'=>e=aC (bG (uR p l))/\Below w.heap.size w w':=by
 obtain⟨a,ha,rfl⟩:=np;unfold uR;rw [qE];exact OJ pv lv a l w hp hl ha nl
theorem MG {wr w0:aG} {B:Nat} {v:aN} {lu:List Int} (x:Int) (o:lU wr B v lu) (hn:lu.length<=1000) (hB:B<=wr.heap.size) (hb:Below B w0 wr) :
  ∃ v' w',(aP #[25,25] 25 #[v,J (au ⟨wr.heap.size,0,aj⟩) 1 1]).run aA (wr.alloc (aM #[U V x] 3))=.ok v' w'/\lU w' B v' (lu++[x])/\Below B w0 w':=by
 have NB:=fE wr (aM #[U V x] 3);have o1:lU (wr.alloc (aM #[U V x] 3)) B v lu:=Bk.dB o NB;obtain⟨v',w',r',o',g'⟩:=afv B o1 (Qe wr x) hn (by simp) (aB hB NB.size);exact⟨v',w',r',o',(hb.trans (NB.mono hB)).grown g' (aB hB NB.size) fun j hj=>(o1.lt j hj).1⟩
theorem DC (w:aG) (B:Nat) (v:Sl) (l:List Int) (h:lU w B (dR v) l) (hl:l.length<=900) (hB:B<=w.heap.size) :
  bf aA 43 #[dR v] w fun e w'=>(∃ (v':Sl) (l':List Int),e=aC (dR v')/\lU w' B (dR v') l'/\l'.Pairwise (·<·)/\∀ x,x∈l'↔x∈l)/\Below B w w':=by
 obtain⟨p1,p2,p3⟩:=v;have C:=O (CY w B _ l h hl);have OT:=O (fun g hg=>(h.lt g hg).1);have HL:=O hl;have HB:=O hB;clear h hl hB;go_enter Tryz.func43,Tryz.ntmps43;go_wp2_with fail;refine C.out.mono ?_;rintro e2 w2 ⟨rfl,l2,ho2,hp2,hs2,hg2⟩;have B2:=O ((ay B w).grown hg2 HB.out (fun j hj=>OT.out j hj));have C3:=O (GD w2 B (p1,p2,p3) l2 ho2 hs2 (by rw [hp2.length_eq]; exact HL.out));have PM:=O hp2;have OT2:=O (fun g hg=>(ho2.lt g hg).1);clear ho2 hp2 hs2 hg2 C OT;go_wp2_with fail;refine C3.out.mono ?_;rintro e3 w3 ⟨⟨⟨t1,t2,t3⟩,rfl,l3,ho3,hs3,hm3⟩,hg3⟩;have Q:=O (show (∃ (v':Sl) (l':List Int),aC (J t1 t2 t3)=aC (dR v')/\lU w3 B (dR v') l'/\l'.Pairwise (·<·)/\∀ x,x∈l'↔x∈l)/\Below B w w3 from ⟨⟨(t1,t2,t3),l3,rfl,ho3,hs3,fun x=>(hm3 x).trans PM.out.mem_iff⟩,B2.out.grown hg3 (aB HB.out (B2.out.size)) (fun j hj=>OT2.out j hj)⟩);clear ho3 hs3 hm3 hg3 C3 B2 PM OT2;go_wp2;go_ret;exact Q.out
theorem Us {b:Br} (h:vK b) (t:eO) (l:List An):(toB b t l).Pairwise (·<·):=h.ok.near.sublist aW
theorem XA {b:Br} (h:vK b) {t:eO} {l:List An} {e:En} (he:e∈b.ent) (ht:e.tree=t) (hf:e.from_≠-1) (hm:uR e.p l=bH):e.from_∈toB b t l:=by
 have h5:=h.ok.LK e he;unfold wS at h5;cases hfa:fV b.dO e.tree with
 | none=>rw [hfa] at h5; cases h5
 | some a =>
  rw [hfa] at h5;simp only [aJ] at h5;have h6:=h5.2.1;unfold jR at h6;have h7:e.from_∈b.near:=by simpa [hf] using h6
  refine aF.2 ⟨h7,aS.2 ⟨e,he,?_⟩⟩;unfold WE;simp [ht,hm]
theorem Px:NP.Pairwise (·<·):=by decide
theorem Ut {n:Int}:n∈NP↔0<=n/\n<32:=by
 unfold NP;rw [aL];constructor
 ·rintro⟨j,hj,rfl⟩; have:=aZ.1 hj; omega
 ·rintro⟨h1,h2⟩; exact⟨n.toNat,aZ.2 (by omega),by omega⟩
theorem Py (b:Br) (l:List An):(xO b l).Pairwise (·<·):=Px.sublist aW
theorem Uu (b:Br) (l:List An):(xO b l).length<=32:=aB (aD _ _) (by simp [NP])
theorem Uv {b:Br} (h:vK b) {l:List An} {n:Int}:n∈xO b l↔∃ o∈b.own,o.id.1=n/\uR o.p l=bH:=by
 unfold xO;rw [aF,Ut,aS];constructor
 ·rintro⟨_,o,h1,h2⟩;unfold aa3 at h2;simp only [aJ,decide_eq_true_eq] at h2;exact⟨o,h1,h2⟩
 ·rintro⟨o,h1,h2,h3⟩;exact⟨by rw [<- h2]; exact h.cl o h1,o,h1,by unfold aa3; simp [h2,h3]⟩
def nZ (m:List En) (l:List An):List Int:=(m.filter fun e=>!decide (e.from_=-1) && uR e.p l).map (·.from_)
def og (m:List Ow) (l:List An):List Int:=(m.filter fun o=>uR o.p l).map fun o=>o.id.1
theorem Pz {b:Br} (h:vK b) {t:eO} {l:List An} {n:Int}:n∈nZ (qY b.ent t) l↔n∈toB b t l:=by
 unfold nZ;rw [aL];constructor
 ·rintro⟨e,he,rfl⟩;obtain⟨h1,h2⟩:=aF.1 he;simp only [aJ,aX,decide_eq_false_iff_not] at h2;obtain⟨h3,h4⟩:=(J4 (show kG b.ent from h.ok.ent) t e).1 h1;exact XA h h3 h4 h2.1 h2.2
 ·intro hn;obtain⟨h1,h2⟩:=aF.1 hn;obtain⟨e,h3,h4⟩:=aS.1 h2;unfold WE at h4;simp only [aJ,decide_eq_true_eq] at h4;refine⟨e,aF.2 ⟨(J4 (show kG b.ent from h.ok.ent) t e).2 ⟨h3,h4.1⟩,?_⟩,h4.2.1⟩;simp only [aJ,aX,decide_eq_false_iff_not];exact⟨by rw [h4.2.1]; exact h.np n h1,h4.2.2⟩
theorem PD {b:Br} (h:vK b) {l:List An} {n:Int}:n∈og b.own l↔n∈xO b l:=by
 rw [Uv h];unfold og;rw [aL];constructor
 ·rintro⟨o,ho,rfl⟩;obtain⟨h1,h2⟩:=aF.1 ho;exact⟨o,h1,rfl,h2⟩
 ·rintro⟨o,h1,h2,h3⟩;exact⟨o,aF.2 ⟨h1,h3⟩,h2⟩
theorem DF (m:List En) (l:List An):(nZ m l).length<=m.length:=by
 unfold nZ;rw [aY];exact aD _ _
theorem DI (m:List Ow) (l:List An):(og m l).length<=m.length:=by
 unfold og;rw [aY];exact aD _ _
theorem nL {α:Type} (m:List α) (k:Nat) (e:α) (he:m[k]?=au e):m.take (k+1)=m.take k++[e]:=by
 rw [List.take_add_one,he]
 rfl
theorem PG {m:List En} {l:List An} {k:Nat} {e:En} (he:m[k]?=au e) (hf:e.from_≠-1) (hh:uR e.p l=bH):nZ (m.take (k+1)) l=nZ (m.take k) l++[e.from_]:=by
 unfold nZ;rw [nL m k e he,aK,aI,aT (by simp [hf,hh])]
 rfl
theorem IU {m:List En} {l:List An} {k:Nat} {e:En} (he:m[k]?=au e) (hf:e.from_=-1\/uR e.p l=false):nZ (m.take (k+1)) l=nZ (m.take k) l:=by
 unfold nZ;rw [nL m k e he,aK,aI,aU (by rcases hf with h | h <;> simp [h])];simp
theorem PI {m:List Ow} {l:List An} {k:Nat} {e:Ow} (he:m[k]?=au e) (hh:uR e.p l=bH):og (m.take (k+1)) l=og (m.take k) l++[e.id.1]:=by
 unfold og;rw [nL m k e he,aK,aI,aT (by simp [hh])]
 rfl
theorem Uw {m:List Ow} {l:List An} {k:Nat} {e:Ow} (he:m[k]?=au e) (hh:uR e.p l=false):og (m.take (k+1)) l=og (m.take k) l:=by
 unfold og;rw [nL m k e he,aK,aI,aU (by simp [hh])];simp
theorem aei {b:Br} (h:vK b) {t:eO} {l:List An} {r:List Int} (hr:r.Pairwise (·<·)) (hm:∀ x,x∈r↔x∈nZ (qY b.ent t) l):r=toB b t l :=
 sQ hr (Us h t l) fun x=>(hm x).trans (Pz h)
theorem aej {b:Br} (h:vK b) {l:List An} {r:List Int} (hr:r.Pairwise (·<·)) (hm:∀ x,x∈r↔x∈og b.own l):r=xO b l :=
 sQ hr (Py b l) fun x=>(hm x).trans (PD h)
theorem XD (b:Br) (nv av sv ev ov:Sl) (lv:Sl) (l:List An) (w:aG) (h:gZ w b nv av sv ev ov) (hc:vK b) (hl:sZ w (dR lv) l) (hn:NL l) :
  bf aA 19 #[ny b.me nv av sv ev ov,dR lv] w fun e w'=>(∃ o:Sl,e=aC (dR o)/\lU w' w.heap.size (dR o) (xO b l))/\Below w.heap.size w w':=by
 obtain⟨no,nn,nc⟩:=nv;obtain⟨ao,an,ac⟩:=av;obtain⟨so,sn,sc⟩:=sv;obtain⟨eo,en,ec⟩:=ev;obtain⟨oo,z2,oc⟩:=ov;obtain⟨lo,ln,lc⟩:=lv;obtain⟨lb,he1,he2⟩:=h.own;have h0:=fE w (aM #[U V b.me,J no nn nc,J ao an ac,J so sn sc,J eo en ec,J oo z2 oc] 33);have X:=dL w #[U V b.me,J no nn nc,J ao an ac,J so sn sc,J eo en ec,J oo z2 oc] 33;have B1:=O h0;have x5:=X.cell 5;simp only [Y,ah,ak] at x5;have R1:=O (he1.on h0);have R2:=O (he2.mono fun _ _ q=>q.on h0);have LL:=O (hl.on h0);have NLL:=O hn;have HM:=O (show b.own.length<=900 from hc.few.own);have OK:=O (show ∀ e∈b.own,dW e.p from hc.po);have TI:=O (fun (r:List Int) (h1:r.Pairwise (·<·)) (h2:∀ x,x∈r↔x∈og b.own l)=>aej hc (l:=l) h1 h2);have hnl:lb.length=z2:=rY he1;have HN:=O hnl;have hz:z2<=900:=by have:=he2.len; have:=HM.out; omega
 generalize xO b l=res at *;generalize b.own=mb at *;clear X h hc hl hn h0 he1 he2 hnl;go_enter Tryz.func19,Tryz.ntmps19;go_upto_region 1 with fail;generalize w.alloc (aM #[U V b.me,J no nn nc,J ao an ac,J so sn sc,J eo en ec,J oo z2 oc] 33)=w1 at *;go_wp2
 go_loopw [5,11] (fun v i wr=>∃ k:Nat,k<=z2/\i=U V k/\Below w1.heap.size w1 wr/\lU wr w1.heap.size v (og (mb.take k) l)) (fun _ i _=>z2-(intOf i).toNat)
 case atStart=>exact⟨0,aO _,rfl,ay _ _,fZ _ _⟩
 case round =>
  obtain⟨k,hk,rfl,hbe,hown⟩:=hrel;have BE:=O hbe;have OE:=O hown;clear hbe hown x5;by_cases hlt:k<z2
  ·obtain⟨y,hy⟩:∃ y,lb[k]?=au y:=⟨_,aR (by rw [HN.out]; exact hlt)⟩;obtain⟨q,ix,px⟩:=elW R1.out rfl HN.out hy;obtain⟨p0,p1,p2⟩:=px wr BE.out;obtain⟨e,he⟩:∃ e,mb[k]?=au e:=⟨_,aR (by rw [<- R2.out.len,HN.out]; exact hlt)⟩;obtain⟨y',hy',hin⟩:=R2.out.at k e he;rw [hy] at hy';obtain rfl:=Option.some.inj hy';obtain⟨y1,y2,⟨yo,yn,yc⟩⟩:=y;simp only at p0 p1 p2;have NB:=O (fE wr (aM #[U V y1,U V y2,J yo yn yc] 61));have BF:=O (BE.out.trans (NB.out.mono BE.out.size));have hx:=dL wr #[U V y1,U V y2,J yo yn yc] 61;have hw3:IntKind.i64.wrap ((k:Int)+1)=(k:Int)+1:=IntWalk.i64_in _ (by omega);have HF:=O (show y1=e.id.1 from congrArg Prod.fst hin.1);have HE:=O he;have OB:=O (Bk.dB OE.out NB.out);have MA:=O (MF (J yo yn yc) (J lo ln lc) e.p l _ (hin.2.on BF.out) (LL.out.on BF.out) (OK.out e (List.mem_of_getElem? he)) NLL.out);have BX:=O hx;have v2:=hx.cell 2;simp only [Y,ah,ak] at v2;obtain⟨g,hg⟩:∃ g,uR e.p l=g:=⟨_,rfl⟩;rw [hg] at MA;have HG:=O hg;clear px hy he hin hx hg;go_wp2_with fail;refine MA.out.mono ?_;rintro e3 w3 ⟨rfl,hb⟩;have BG:=O (BF.out.trans (hb.mono BF.out.size));have OC:=O (Bk.dB OB.out hb);have u0:=(BX.out.on hb).cell 0;simp only [Y,ah] at u0;clear hb MA v2 BF OB NB p0 p1 p2 ix;cases g
   ·have E2:=O (Uw (l:=l) HE.out HG.out);go_wp2
    go_roundw
    case rel=>exact⟨k+1,by omega,by go_num,BG.out,by rw [E2.out]; exact OC.out⟩
    case measure=>simp [intOf]; omega
   ·have E2:=O (PI (l:=l) HE.out HG.out);have hl9:(og (mb.take k) l).length<=900:=aB (DI _ _) (aB (List.length_take_le _ _) (by omega));obtain⟨v',w',r',o',bl⟩:=MG y1 OC.out (by omega) BG.out.size BG.out;have O2:=O o';have B2:=O bl;clear hl9 o' bl BX;go_wp2_with (first | (at_builtin; refine wpList_append_run rfl _ _ 25 rfl rfl rfl r' ?_) | fail)
    go_roundw
    case rel=>exact⟨k+1,by omega,by go_num,B2.out,by rw [E2.out,<- HF.out]; exact O2.out⟩
    case measure=>simp [intOf]; omega
  ·obtain rfl:z2=k:=by omega
   have e:mb.take z2=mb:=List.take_of_length_le (by have:=HN.out; have:=R2.out.len; omega);rw [e] at OE;obtain⟨Aw,Ay,hv⟩:=(Row.dx OE.out).len;subst hv;have CR:=O (DC wr w1.heap.size (Aw,_,Ay) _ OE.out (aB (DI _ _) HM.out) BE.out.size);clear e;generalize (og mb l).length=nn9 at *;go_wp2_with fail;refine CR.out.mono ?_;rintro e4 w4 ⟨⟨⟨r1,r2,r3⟩,lr,rfl,ho,hs,hm⟩,hb⟩;have Q:=O (show (∃ o:Sl,aC (J r1 r2 r3)=aC (dR o)/\lU w4 w.heap.size (dR o) res)/\Below w.heap.size w w4 from ⟨⟨(r1,r2,r3),rfl,by rw [<- TI.out lr hs hm]; exact dG ho B1.out.size⟩,B1.out.trans ((BE.out.trans hb).mono B1.out.size)⟩);clear ho hs hm hb CR TI;go_wp2;go_ret;exact Q.out
theorem Aj (v:Sl) (l:List An) (w:aG) (hv:Row EA w (dR v) l) (hl:l.length<=900) :
  bf aA 35 #[dR v] w fun e w'=>(∃ v':Sl,e=aC (dR v')/\Own EA w' w.heap.size (dR v') l)/\Below w.heap.size w w':=by
 obtain⟨vo,vn,vc⟩:=v;rcases hv with⟨rfl,hv⟩|⟨a,cap,hv,h1,h2,h3⟩
 ·obtain⟨rfl,rfl,rfl⟩:vo=aj/\vn=0/\vc=0:=by simpa using hv
  clear hv hl;have q:∀ w',(binOp .eql 39 (J aj 0 0) (J aj 0 0)).run aA w'=.ok (bG bH) w':=fun w'=>Un aj 0 0 w';go_enter aV,bg;go_wp2;go_ret;exact⟨⟨(aj,0,0),rfl,fZ _ _⟩,ay _ _⟩
 ·obtain⟨rfl,rfl,rfl⟩:vo=au a/\vn=l.length/\vc=cap:=by simpa using hv
  have hx:Row EA w (J (au a) l.length vc) l:=aQ ⟨a,vc,rfl,h1,h2,h3⟩;have n0:=fE w (aM #[] 97);obtain⟨q0,w0,r0,o0,g0⟩:=gy okA w.heap.size (dL w #[] 97) (bn _) (hx.on n0) (by omega) 39;obtain⟨v1,v3,hv1⟩:=(Row.dx o0).len;obtain⟨n,hn⟩:∃ n,n=l.length:=⟨_,rfl⟩;have Q:=O (show (∃ v':Sl,aC q0=aC (dR v')/\Own EA w0 w.heap.size (dR v') l)/\Below w.heap.size w w0 from ⟨⟨(v1,l.length,v3),by rw [hv1],by subst hv1; exact o0⟩,n0.trans (g0.mono n0.size)⟩);rw [<- hn] at r0 ⊢;clear hv h1 h2 h3 hx o0 g0 n0 hv1 hn hl;have q:∀ w',(binOp .eql 39 (J (au a) n vc) (J aj 0 0)).run aA w'=.ok (bG false) w':=fun w'=>Un (au a) n vc w';have r0:(aP #[39,39] 39 #[J (au ⟨w.heap.size,0,aj⟩) 0 0,J (au a) n vc]).run aA (w.alloc (aM #[] 97))=.ok q0 w0:=r0;go_enter aV,bg;go_wp2_with (first | (at_builtin; refine wpList_append_run rfl _ _ 39 rfl rfl rfl r0 ?_) | fail);go_ret;exact Q.out
theorem Kh (w:aG):bf aA 66 #[J aj 0 0] w fun e w'=>e=aC (J aj 0 0)/\Below w.heap.size w w':=by
 have q:∀ w',(binOp .eql 41 (J aj 0 0) (J aj 0 0)).run aA w'=.ok (bG bH) w':=fun w'=>Jz aj 0 0 w';go_enter bD,Tryz.ntmps66;go_wp2;go_ret;exact⟨rfl,ay _ _⟩
def MH (B:Nat) (b1:Nat) (_k _tc _ts _ic _is_:Int) (po:Option bF) (pn pc:Nat) (p:List An) (i:Nat) (v:aN) (x:aG):Prop :=
 match i with
 | 0=>v=Z (au ⟨b1,5,aj⟩)
 | 1=>v=J aj 0 0
 | 2=>v=J aj 0 0
 | 3=>v=Z (au ⟨b1,6,aj⟩)
 | 4=>v=J po pn pc
 | 5=>∃ s:Sl,v=dR s/\Ei x B v p
 | 6=>v=Z (au ⟨b1,5,aj⟩)
 | _=>True
noncomputable def Zx:Code:=((Tryz.f34.body.bind (eG 1)).getD .skip)
theorem Ux (B:Nat) (b1:Nat) (k tc ts ic DJ:Int) (po:Option bF) (pn pc:Nat) (p:List An) (i:Nat) (v:aN) (x x':aG) (h:MH B b1 k tc ts ic DJ po pn pc p i v x) (hb:Below x.heap.size x x'):MH B b1 k tc ts ic DJ po pn pc p i v x':=by
 by_cases hi:i<7
 ·rcases (by omega:i=0\/i=1\/i=2\/i=3\/i=4\/i=5\/i=6) with rfl|rfl|rfl|rfl|rfl|rfl|rfl
  ·exact h
  ·exact h
  ·exact h
  ·exact h
  ·exact h
  ·obtain⟨s,h1,h2⟩:=h; exact⟨s,h1,Bk.dB h2 hb⟩
  ·exact h
 ·unfold MH
  split <;> first | omega | trivial
theorem agI (Q:Exit->Act->aG->Prop) (W:aG) (b1:Nat) (k tc ts ic DJ:Int) (po:Option bF) (pn pc:Nat) (p:List An) (u0 u2 u3 u4 u5 u6 u7 u8 u9 u10 u11:aN)
  (h1:dJ W b1 #[U V k,U V tc,U V ts,U V ic,U V DJ,J aj 0 0,J po pn pc] 43) (r5:sZ W (J po pn pc) p) (l5:p.length<=900)
  (hQ:∀ (x:aG) (v3 v4 v5 v6 v7 v8 v9 v10:aN) (q1:Option bF) (q2 q3:Nat),dJ x b1 #[U V k,U V tc,U V ts,U V ic,U V DJ,J aj 0 0,J q1 q2 q3] 43->Ei x W.heap.size (J q1 q2 q3) p->(∀ B,B<=b1->Below B W x)->But b1 W x->Q .normal ⟨(u0::Z (au ⟨b1,0,aj⟩)::u2::v3::v4::v5::v6::v7::v8::v9::v10::u11::[]).toArray,[]⟩ x) :
  Code.wp aA Zx Q ⟨(u0::Z (au ⟨b1,0,aj⟩)::u2::u3::u4::u5::u6::u7::u8::u9::u10::u11::[]).toArray,[]⟩ W:=by
 have HQ:=O hQ;have H1:=O h1;have R5:=O r5;have L5:=O l5;clear hQ h1 r5 l5;have iN:=Ux W.heap.size b1 k tc ts ic DJ po pn pc p;unfold Zx
 conv=>arg 2; whnf
 have nd:∀ j,(j<3\/10<=j)->∀ i,i<7->(fun i=>3+i) i≠j:=by
  intro j hj i hi h;simp only at h;omega
 refine Rg.fJ 10 7 (fun i=>3+i) (fun _=>7) (MH W.heap.size b1 k tc ts ic DJ po pn pc p) (by kernel_rfl) (by kernel_rfl) rfl (by decide) (fun i j _ _ h=>by have h2:3+i=3+j:=h; omega) (fun i hi=>by show 3+i<12; omega) ?_ (fun _=>Rg.jc 14 (by kernel_rfl)) ?_ ?_
 ·intro i o hi ho a x D hnd hc hD hb seen K hK;clear HQ;rcases (by omega:i=0\/i=1\/i=2\/i=3\/i=4\/i=5\/i=6) with rfl|rfl|rfl|rfl|rfl|rfl|rfl
  ·cases ho;have e1:a.eval (aH 1)=Z (au ⟨b1,0,aj⟩):=seen.kp 1 _ (nd 1 (by omega)) rfl;exact Rg.dw rfl rfl (Rg.dP a.eval _ 43 (aH 1) 3 rfl (by rw [e1]; simp [go_sem])) (hK _ _ rfl (ay _ _) fun _ _ _ _ _ _ _ h=>h)
  ·cases ho;have e3:a.eval (aH 3)=Z (au ⟨b1,5,aj⟩):=seen.at_ ⟨0,.data⟩ (by simp) rfl (aQ (by decide));have y5:=(H1.out.on hb).cell 5;simp only [Y,ah,ak] at y5;exact Rg.dw rfl rfl (Rg.dY a.eval _ 41 (aH 3) rfl (by rw [e3]; simp [go_sem,y5])) (hK _ _ rfl (ay _ _) fun _ _ _ _ _ _ _ h=>h)
  ·cases ho;have e4:a.eval (aH 4)=J aj 0 0:=seen.at_ ⟨1,.data⟩ (by simp) rfl (aQ (by decide));exact Rg.gL rfl rfl (Rw.iK a.eval _ (aH 4) 41 66 rfl e4 rfl _ (gu bD rfl rfl _ _)) (Kh x) fun e w1 h=>by
    obtain⟨rfl,h3⟩:=h;exact⟨_,rfl,hK _ _ rfl (h3.mono hb.size) fun j u hj _ _ _ hne h=>iN j u _ _ h h3⟩
  ·cases ho;have e1:a.eval (aH 1)=Z (au ⟨b1,0,aj⟩):=seen.kp 1 _ (nd 1 (by omega)) rfl;exact Rg.dw rfl rfl (Rg.dP a.eval _ 43 (aH 1) 4 rfl (by rw [e1]; simp [go_sem])) (hK _ _ rfl (ay _ _) fun _ _ _ _ _ _ _ h=>h)
  ·cases ho;have e6:a.eval (aH 6)=Z (au ⟨b1,6,aj⟩):=seen.at_ ⟨3,.data⟩ (by simp) rfl (aQ (by decide));have y6:=(H1.out.on hb).cell 6;simp only [Y,ah,ak] at y6;exact Rg.dw rfl rfl (Rg.dY a.eval _ 39 (aH 6) rfl (by rw [e6]; simp [go_sem,y6])) (hK _ _ rfl (ay _ _) fun _ _ _ _ _ _ _ h=>h)
  ·cases ho;have e7:a.eval (aH 7)=J po pn pc:=seen.at_ ⟨4,.data⟩ (by simp) rfl (aQ (by decide));exact Rg.gL rfl rfl (Rw.iK a.eval _ (aH 7) 39 35 rfl e7 rfl _ (gu aV rfl rfl _ _)) (Aj (po,pn,pc) p x (R5.out.on hb) L5.out) fun e w1 h=>by
    obtain⟨⟨s,rfl,h1⟩,h3⟩:=h;exact⟨_,rfl,hK _ _ ⟨s,rfl,dG h1 hb.size⟩ (h3.mono hb.size) fun j u hj _ _ _ hne h=>iN j u _ _ h h3⟩
  ·cases ho;have e1:a.eval (aH 1)=Z (au ⟨b1,0,aj⟩):=seen.kp 1 _ (nd 1 (by omega)) rfl;exact Rg.dw rfl rfl (Rg.dP a.eval _ 43 (aH 1) 3 rfl (by rw [e1]; simp [go_sem])) (hK _ _ rfl (ay _ _) fun _ _ _ _ _ _ _ h=>h)
 ·intro kk o h1 h2 ho;rcases (by omega:kk=8\/kk=9) with rfl|rfl
  ·cases ho;exact⟨⟨7,.phase⟩,by simp,rfl,rfl⟩
  ·cases ho;exact⟨⟨8,.data⟩,by simp,rfl,rfl⟩
 ·intro a w' df sz kp ⟨vs,hv⟩ hb;have sz':a.tmps.size=12:=sz;have g1:a.tmps[1]?=au (Z (au ⟨b1,0,aj⟩)):=(kp 1 (nd 1 (by omega))).trans rfl;have g5:a.tmps[5]?=au (J aj 0 0):=by
   have h:vs 2=J aj 0 0:=(hv 2 (by omega)).2 (by decide);rw [<- h];exact (hv 2 (by omega)).1
  have g9:a.tmps[9]?=au (Z (au ⟨b1,5,aj⟩)):=by
   have h:vs 6=Z (au ⟨b1,5,aj⟩):=(hv 6 (by omega)).2 (by decide);rw [<- h];exact (hv 6 (by omega)).1
  obtain⟨⟨q1,q2,q3⟩,hs,ho⟩:=(hv 5 (by omega)).2 (by decide);have g8:a.tmps[8]?=au (J q1 q2 q3):=((hv 5 (by omega)).1).trans (congrArg au hs);rw [hs] at ho;have hB:=H1.out.on hb;have hlt:=H1.out.lt;show Rg.fC _ _ _ 3 7 a w';simp only [Rg.fC];have c5x:=hB.cell 5;have f5x:=hB.fr 5;simp only [Y,ah,ak] at c5x;refine Rg.fM 41 (aH 9) (aH 5) rfl rfl rfl rfl (Rg.dI g9) (Rg.dI g5) (w':=(w').setCell ⟨b1,5,aj⟩ (J aj 0 0)) (by simp [go_sem,c5x,f5x]) ?_;have hB5:dJ ((w').setCell ⟨b1,5,aj⟩ (J aj 0 0)) b1 #[U V k,U V tc,U V ts,U V ic,U V DJ,J aj 0 0,J po pn pc] 43:=by simpa using dN (k:=5) hB (J aj 0 0)
  refine Rg.dw rfl rfl (Rg.dP _ _ 43 (aH 1) 4 rfl (v:=Z (au ⟨b1,6,aj⟩)) (by rw [Rg.dI g1]; simp [go_sem])) ?_;have agJ:(a.put (au 10) (Z (au ⟨b1,6,aj⟩))).tmps[10]?=au (Z (au ⟨b1,6,aj⟩)):=by simp [Act.put,sz']
  show Go.wpOp _ _ _ 9 _ (a.put (au 10) (Z (au ⟨b1,6,aj⟩))) _;have c6x:=hB5.cell 6;have f6x:=hB5.fr 6;simp only [Y,ah,ak] at c6x;refine Rg.fM 39 (aH 10) (aH 8) rfl rfl rfl rfl (Rg.dI agJ) (Rg.dI ((Rg.get_put _ 10 _ 8 (by decide)).trans g8)) (w':=((w').setCell ⟨b1,5,aj⟩ (J aj 0 0)).setCell ⟨b1,6,aj⟩ (J q1 q2 q3)) (by simp [go_sem,c6x,f6x]) ?_;have hB6:dJ (((w').setCell ⟨b1,5,aj⟩ (J aj 0 0)).setCell ⟨b1,6,aj⟩ (J q1 q2 q3)) b1 #[U V k,U V tc,U V ts,U V ic,U V DJ,J aj 0 0,J q1 q2 q3] 43:=by simpa using dN (k:=6) hB5 (J q1 q2 q3)
  have qU:∀ j,(j<3\/11<=j)->((a.put (au 10) (Z (au ⟨b1,6,aj⟩)))).tmps[j]?=(u0::Z (au ⟨b1,0,aj⟩)::u2::u3::u4::u5::u6::u7::u8::u9::u10::u11::[])[j]?:=fun j hj=>(Rg.get_put _ 10 _ j (by omega)).trans ((kp j (nd j (by omega))).trans Y);obtain⟨mid,hmid,hfr⟩:=Rg.gq (a:=(a.put (au 10) (Z (au ⟨b1,6,aj⟩)))) 3 8 df (by simp [Rg.size_put,sz']) (by simp) qU;show Q .normal ((a.put (au 10) (Z (au ⟨b1,6,aj⟩)))) _;rw [hfr]
  match mid,hmid with
  | [v3,v4,v5,v6,v7,v8,v9,v10],_ =>
   exact HQ.out _ _ _ _ _ _ _ _ _ q1 q2 q3 hB6 (dM (dM ho b1 5 (J aj 0 0) hlt) b1 6 (J q1 q2 q3) hlt) (fun B hBl=>(((hb.mono (Nat.le_of_lt (Nat.lt_of_le_of_lt hBl hlt))).setCell (p:=⟨b1,5,aj⟩) hBl (J aj 0 0)).setCell (p:=⟨b1,6,aj⟩) hBl (J q1 q2 q3))) (((But.of_below hb).trans (dQ _ b1 5 _)).trans (dQ _ b1 6 _))
theorem XF (k tc ts ic DJ:Int) (pv:Sl) (p:List An) (w:aG) (hp:sZ w (dR pv) p) (hl:p.length<=900) :
  bf aA 34 #[bE #[U V k,U V tc,U V ts,U V ic,U V DJ,J aj 0 0,dR pv]] w fun e w'=>(∃ s:Sl,e=aC (bE #[U V k,U V tc,U V ts,U V ic,U V DJ,J aj 0 0,dR s])/\Ei w' w.heap.size (dR s) p)/\Below w.heap.size w w':=by
 obtain⟨po,pn,pc⟩:=pv;obtain⟨h0,h1,h2⟩:=gK w #[U V k,U V tc,U V ts,U V ic,U V DJ,J aj 0 0,J po pn pc] #[U V 0,U V 0,U V 0,U V 0,U V 0,J aj 0 0,J aj 0 0] 43 43;have GB:=O h0;have X1:=O h1;have X2:=O h2;have HP:=O (hp.on h0);clear h0 h1 h2 hp;show bf aA 34 #[bE #[U V k,U V tc,U V ts,U V ic,U V DJ,J aj 0 0,J po pn pc]] w _;go_enter Tryz.func34,Tryz.ntmps34;go_upto_region 1 with fail;generalize (w.alloc (aM #[U V k,U V tc,U V ts,U V ic,U V DJ,J aj 0 0,J po pn pc] 43)).alloc (aM #[U V 0,U V 0,U V 0,U V 0,U V 0,J aj 0 0,J aj 0 0] 43)=W at *;refine agI _ W w.heap.size k tc ts ic DJ po pn pc p _ _ _ _ _ _ _ _ _ _ _ X1.out HP.out hl ?_;intro x v3 v4 v5 v6 v7 v8 v9 v10 q1 q2 q3 hbx ho hbl hbt;have Y1:=O hbx;have Y2:=O (hbt.box X2.out (by omega));have OO:=O (dG ho GB.out.size);have G2:=O (GB.out.trans (hbl w.heap.size (bn _)));clear hbx ho hbl hbt GB X1 X2 HP;obtain⟨x0,x1,x2,x3,x4,x5,x6⟩:=Y1.out.mU;obtain⟨r0,r1,r2,r3,r4,r5,r6⟩:=Y2.out.mU;obtain⟨t0,t1,t2,t3,t4,t5,t6⟩:=Y2.out.fs7;have zz:=Y2.out.lt;have FB:=O (Ck Y2.out (U V k) (U V tc) (U V ts) (U V ic) (U V DJ) (J aj 0 0) (J q1 q2 q3));have BL:=O (IL (b:=w.heap.size+1) G2.out (by omega) (U V k) (U V tc) (U V ts) (U V ic) (U V DJ) (J aj 0 0) (J q1 q2 q3));have OX:=O ((Uo x (w.heap.size+1) (U V k) (U V tc) (U V ts) (U V ic) (U V DJ) (J aj 0 0) (J q1 q2 q3)).own OO.out Y2.out (by decide));clear Y1 Y2 OO G2;go_wp2_with fail;obtain⟨v0,v1,v2,v3,v4,v5,v6⟩:=FB.out.mU;refine bodyPost_ret (v:=bE #[U V k,U V tc,U V ts,U V ic,U V DJ,J aj 0 0,J q1 q2 q3]) (by simp [results,Tryz.results34,go_sem,v0,v1,v2,v3,v4,v5,v6]) rfl ?_;exact⟨⟨(q1,q2,q3),rfl,OX.out⟩,BL.out⟩
def MI (W:aG) (B:Nat) (x:nC) (o:Ou×List An):Prop:=x.1=o.1.gV/\x.2.1=o.1.kind/\(x.2.2.1,x.2.2.2.1)=o.1.tree/\(x.2.2.2.2.1,x.2.2.2.2.2.1)=o.1.id/\x.2.2.2.2.2.2.1=(aj,0,0)/\o.1.p=[]/\Ei W B (dR x.2.2.2.2.2.2.2) o.2
theorem MI.on {W W':aG} {B:Nat} {x:nC} {o:Ou×List An} (h:MI W B x o) (hb:Below W.heap.size W W'):MI W' B x o:=⟨h.1,h.2.1,h.2.2.1,h.2.2.2.1,h.2.2.2.2.1,h.2.2.2.2.2.1,Bk.dB h.2.2.2.2.2.2 hb⟩
theorem MI.app {W W':aG} {B B':Nat} {x:nC} {o:Ou×List An} {v:aN} {l:List nC} (h:MI W B x o) (ho:jd W B' v l) (gr:W.grownBy W' v.ownBlock):MI W' B x o:=⟨h.1,h.2.1,h.2.2.1,h.2.2.2.1,h.2.2.2.2.1,h.2.2.2.2.2.1,E9 ho gr h.2.2.2.2.2.2 (by decide)⟩
theorem MI.a {W:aG} {B:Nat} {x:nC} {o:Ou×List An} (h:MI W B x o):Qb W x o:=⟨h.1,h.2.1,h.2.2.1,h.2.2.2.1,by rw [h.2.2.2.2.1,h.2.2.2.2.2.1]; exact Uq W,Row.dx h.2.2.2.2.2.2⟩
def Ja (W:aG) (B:Nat) (x:xM) (o:(Int×eO)×List An):Prop:=x.1=o.1.1/\(x.2.1,x.2.2.1)=o.1.2/\Ei W B (dR x.2.2.2) o.2
theorem Ja.on {W W':aG} {B:Nat} {x:xM} {o:(Int×eO)×List An} (h:Ja W B x o) (hb:Below W.heap.size W W'):Ja W' B x o:=⟨h.1,h.2.1,Bk.dB h.2.2 hb⟩
theorem Ja.app {W W':aG} {B B':Nat} {x:xM} {o:(Int×eO)×List An} {v:aN} {l:List xM} (h:Ja W B x o) (ho:Gn W B' v l) (gr:W.grownBy W' v.ownBlock):Ja W' B x o:=⟨h.1,h.2.1,E9 ho gr h.2.2 (by decide)⟩
theorem Ja.a {W:aG} {B:Nat} {x:xM} {o:(Int×eO)×List An} (h:Ja W B x o):SF W x o:=⟨h.1,h.2.1,Row.dx h.2.2⟩
theorem abK {wr w0:aG} {B:Nat} {v:aN} {lx:List nC} {L:List (Ou×List An)} (x:nC) (o:Ou×List An) (ho:jd wr B v lx) (hA:eB (MI wr B) lx L) (hx:MI wr B x o) (hn:lx.length<=1000) (hB:B<=wr.heap.size) (hb:Below B w0 wr) :
  ∃ v' w',(aP #[44,44] 44 #[v,J (au ⟨wr.heap.size,0,aj⟩) 1 1]).run aA (wr.alloc (aM (jQ x).toArray 58))=.ok v' w'/\jd w' B v' (lx++[x])/\eB (MI w' B) (lx++[x]) (L++[o])/\Below B w0 w':=by
 have NB:=fE wr (aM (jQ x).toArray 58);have hlit:=gT Fx wr [x] 1 rfl (by simp) (jQ x).toArray rfl;have o1:jd (wr.alloc (aM (jQ x).toArray 58)) B v lx:=Bk.dB ho NB;obtain⟨v',w',r',o',g'⟩:=fT Fx B o1 (Row.dx hlit) hn (by simp) (aB hB NB.size) 44;have g:∀ y z,MI wr B y z->MI w' B y z:=fun y z q=>(q.on NB).app o1 g';exact⟨v',w',r',o',(hA.mono g).append (.cons (g _ _ hx) .nil),(hb.trans (NB.mono hB)).grown g' (aB hB NB.size) fun j hj=>(o1.lt j hj).1⟩
theorem PO {k:Int} {t x:eO} {l:List An} {ns:List Int} {q:Nat} {n:Int} (h:ns[q]?=au n):Ah k t x l (ns.take (q+1))=Ah k t x l (ns.take q)++[(⟨n,k,t,x,[]⟩,l)]:=by
 unfold Ah;rw [nL ns q n h,aI]
 rfl
theorem PS {x:eO} {l:List An} {ns:List Int} {q:Nat} {n:Int} (h:ns[q]?=au n):Ai x l (ns.take (q+1))=Ai x l (ns.take q)++[((n,x),l)]:=by
 unfold Ai;rw [nL ns q n h,aI]
 rfl
theorem Uy {b:Br} {f:Int} {t:eO} {l:List An} (h:fV b.dO t=aj):iH b f t l=([],[]):=by
 have h:(b.dO.find? fun a=>decide (a.id=t))=aj:=h;unfold iH;rw [h]
theorem Ki {b:Br} {f:Int} {t:eO} {l:List An} {a:Ad} (h:fV b.dO t=au a) (hf:a.par≠f):iH b f t l=([],[]):=by
 have h:(b.dO.find? fun a=>decide (a.id=t))=au a:=h;unfold iH;rw [h];exact if_neg hf
theorem Uz {b:Br} {f:Int} {t:eO} {l:List An} {a:Ad} (h:fV b.dO t=au a) (hf:a.par=f):iH b f t l=(toB b t l,xO b l):=by
 have h:(b.dO.find? fun a=>decide (a.id=t))=au a:=h;unfold iH;rw [h];exact if_pos hf
theorem XG {wr w0:aG} {B:Nat} {v r:aN} {lx:List xM} {L:List ((Int×eO)×List An)} (x:xM) (o:(Int×eO)×List An) (ho:Gn wr B v lx) (hr:NM wr r [x]) (hA:eB (Ja wr B) lx L) (hx:Ja wr B x o) (hn:lx.length<=1000) (hB:B<=wr.heap.size) (hb:Below B w0 wr) :
  ∃ v' w',(aP #[45,45] 45 #[v,r]).run aA wr=.ok v' w'/\Gn w' B v' (lx++[x])/\eB (Ja w' B) (lx++[x]) (L++[o])/\Below B w0 w':=by
 obtain⟨v',w',r',o',g'⟩:=fT okG B ho hr hn (by simp) hB 45;have g:∀ y z,Ja wr B y z->Ja w' B y z:=fun y z q=>q.app ho g';exact⟨v',w',r',o',(hA.mono g).append (.cons (g _ _ hx) .nil),hb.grown g' hB fun j hj=>(ho.lt j hj).1⟩
theorem vL {W:aG} {lx:List nC} {k:Int} {t x:eO} {l:List An} {ns:List Int} (h:eB (Qb W) lx (Ah k t x l ns)):lx.length=ns.length:=by rw [h.len]; simp [Ah]
theorem IW {W:aG} {lx:List xM} {x:eO} {l:List An} {ns:List Int} (h:eB (SF W) lx (Ai x l ns)):lx.length=ns.length:=by rw [h.len]; simp [Ai]
def Fp (B:Nat) (_B0 b5:Nat) (_k0 _t1 _t2 x1 x2 n:Int) (po:Option bF) (pn pc:Nat) (p:List An) (v0:aN) (_ly:List xM) (_L:List ((Int×eO)×List An)) (i:Nat) (v:aN) (x:aG):Prop :=
 match i with
 | 0=>v=v0
 | 1=>v=U V n
 | 2=>v=Z (au ⟨b5,3,aj⟩)
 | 3=>v=bE #[U V x1,U V x2]
 | 4=>v=Z (au ⟨b5,6,aj⟩)
 | 5=>v=J po pn pc
 | 6=>∃ s:Sl,v=dR s/\Ei x B (dR s) p
 | 7=>∃ s:Sl,v=bE #[U V n,U V x1,U V x2,dR s]/\Ei x B (dR s) p
 | 8=>∃ s:Sl,Gn x B v [(n,x1,x2,s)]/\Ei x B (dR s) p
 | _=>True
noncomputable def UC:Code:=((Tryz.f11.body.bind (eG 14)).getD .skip)
theorem PU (B:Nat) (B0 b5:Nat) (k0 t1 t2 x1 x2 n:Int) (po:Option bF) (pn pc:Nat) (p:List An) (v0:aN) (ly:List xM) (L:List ((Int×eO)×List An)) (i:Nat) (v:aN) (x x':aG) (h:Fp B B0 b5 k0 t1 t2 x1 x2 n po pn pc p v0 ly L i v x) (hb:Below x.heap.size x x'):Fp B B0 b5 k0 t1 t2 x1 x2 n po pn pc p v0 ly L i v x':=by
 by_cases hi:i<9
 ·rcases (by omega:i=0\/i=1\/i=2\/i=3\/i=4\/i=5\/i=6\/i=7\/i=8) with rfl|rfl|rfl|rfl|rfl|rfl|rfl|rfl|rfl
  ·exact h
  ·exact h
  ·exact h
  ·exact h
  ·exact h
  ·exact h
  ·obtain⟨s,h1,h2⟩:=h; exact⟨s,h1,Bk.dB h2 hb⟩
  ·obtain⟨s,h1,h2⟩:=h; exact⟨s,h1,Bk.dB h2 hb⟩
  ·obtain⟨s,h1,h2⟩:=h; exact⟨s,Bk.dB h1 hb,Bk.dB h2 hb⟩
 ·unfold Fp
  split <;> first | omega | trivial
theorem aek (Q:Exit->Act->aG->Prop) (W:aG) (B0 b5:Nat) (k0 t1 t2 x1 x2 n:Int) (po:Option bF) (pn pc:Nat) (p:List An) (v0:aN) (ly:List xM) (L:List ((Int×eO)×List An)) (u0 u1 u2 u3 u4 u6 u7 u8 u9 u10 u11 u12 u14 u16 u17 u18 u19 u20 u21 u22 u23 u24 u25 u26 u27 u28 u29 u30 u31 u32 u33 u34 u35 u36 u37 u38 u39 u40 u41 u42 u43 u44 u45 u46 u47 u48 u49 u50 u51 u52 u53 u54 u55 u56 u57 u58 u59 u60 u61 u62 u63 u64 u65 u66 u67 u68 u69 u70 u71:aN)
  (h5:dJ W b5 #[U V k0,U V t1,U V t2,U V x1,U V x2,J aj 0 0,J po pn pc] 43) (r5:sZ W (J po pn pc) p) (l5:p.length<=900) (ov:Gn W B0 v0 ly) (al:eB (Ja W B0) ly L) (hb0:B0<=W.heap.size) (ln:ly.length<=900)
  (hQ:∀ (x:aG) (w13:aN) (v59 v60 v61 v62 v63 v64 v65 v66 v67 v68:aN) (q:Sl),Gn x B0 w13 (ly++[(n,x1,x2,q)])->eB (Ja x B0) (ly++[(n,x1,x2,q)]) (L++[((n,(x1,x2)),p)])->Below B0 W x->Q .normal ⟨(u0::u1::u2::u3::u4::Z (au ⟨b5,0,aj⟩)::u6::u7::u8::u9::u10::u11::u12::w13::u14::U V n::u16::u17::u18::u19::u20::u21::u22::u23::u24::u25::u26::u27::u28::u29::u30::u31::u32::u33::u34::u35::u36::u37::u38::u39::u40::u41::u42::u43::u44::u45::u46::u47::u48::u49::u50::u51::u52::u53::u54::u55::u56::u57::u58::v59::v60::v61::v62::v63::v64::v65::v66::v67::v68::u69::u70::u71::[]).toArray,[]⟩ x) :
  Code.wp aA UC Q ⟨(u0::u1::u2::u3::u4::Z (au ⟨b5,0,aj⟩)::u6::u7::u8::u9::u10::u11::u12::v0::u14::U V n::u16::u17::u18::u19::u20::u21::u22::u23::u24::u25::u26::u27::u28::u29::u30::u31::u32::u33::u34::u35::u36::u37::u38::u39::u40::u41::u42::u43::u44::u45::u46::u47::u48::u49::u50::u51::u52::u53::u54::u55::u56::u57::u58::u59::u60::u61::u62::u63::u64::u65::u66::u67::u68::u69::u70::u71::[]).toArray,[]⟩ W:=by
 have HQ:=O hQ;have H5:=O h5;have R5:=O r5;have L5:=O l5;have OV:=O ov;have AL:=O al;have HB:=O hb0;have LN:=O ln;clear hQ h5 r5 l5 ov al hb0 ln;have iN:=PU W.heap.size B0 b5 k0 t1 t2 x1 x2 n po pn pc p v0 ly L;unfold UC
 conv=>arg 2; whnf
 have nd:∀ j,(∀ i,i<9->[59,60,61,62,63,64,65,66,67].getD i 0≠j)->∀ i,i<9->(fun i=>[59,60,61,62,63,64,65,66,67].getD i 0) i≠j:=fun j h=>h;refine Rg.fJ 11 9 (fun i=>[59,60,61,62,63,64,65,66,67].getD i 0) (fun _=>9) (Fp W.heap.size B0 b5 k0 t1 t2 x1 x2 n po pn pc p v0 ly L) (by kernel_rfl) (by kernel_rfl) rfl (by decide) (fun i j hi hj h=>(by decide:∀ i,i<9->∀ j,j<9->[59,60,61,62,63,64,65,66,67].getD i 0=[59,60,61,62,63,64,65,66,67].getD j 0->i=j) i hi j hj h) (fun i hi=>(by decide:∀ i,i<9->[59,60,61,62,63,64,65,66,67].getD i 0<72) i hi) ?_ (fun _=>Rg.jc 14 (by kernel_rfl)) ?_ ?_
 ·intro i o hi ho a x D hnd hc hD hb seen K hK;clear HQ;rcases (by omega:i=0\/i=1\/i=2\/i=3\/i=4\/i=5\/i=6\/i=7\/i=8) with rfl|rfl|rfl|rfl|rfl|rfl|rfl|rfl|rfl
  ·cases ho;have e13:a.eval (aH 13)=v0:=seen.kp 13 _ (nd 13 (by decide)) rfl;exact Rg.dw rfl rfl (Rg.fU a.eval _ (aH 13) rfl x) (hK _ _ e13 (ay _ _) fun _ _ _ _ _ _ _ h=>h)
  ·cases ho;have e15:a.eval (aH 15)=U V n:=seen.kp 15 _ (nd 15 (by decide)) rfl;exact Rg.dw rfl rfl (Rg.fU a.eval _ (aH 15) rfl x) (hK _ _ e15 (ay _ _) fun _ _ _ _ _ _ _ h=>h)
  ·cases ho;have e5:a.eval (aH 5)=Z (au ⟨b5,0,aj⟩):=seen.kp 5 _ (nd 5 (by decide)) rfl;exact Rg.dw rfl rfl (Rg.dP a.eval _ 43 (aH 5) 2 rfl (by rw [e5]; simp [go_sem])) (hK _ _ rfl (ay _ _) fun _ _ _ _ _ _ _ h=>h)
  ·cases ho;have e61:a.eval (aH 61)=Z (au ⟨b5,3,aj⟩):=seen.at_ ⟨2,.data⟩ (by simp) rfl (aQ (by decide));have y3:=(H5.out.on hb).cell 3;have y4:=(H5.out.on hb).cell 4;simp only [Y,ah,ak] at y3 y4;exact Rg.dw rfl rfl (Rg.dY a.eval _ 38 (aH 61) rfl (by rw [e61]; simp [go_sem,y3,y4])) (hK _ _ rfl (ay _ _) fun _ _ _ _ _ _ _ h=>h)
  ·cases ho;have e5:a.eval (aH 5)=Z (au ⟨b5,0,aj⟩):=seen.kp 5 _ (nd 5 (by decide)) rfl;exact Rg.dw rfl rfl (Rg.dP a.eval _ 43 (aH 5) 4 rfl (by rw [e5]; simp [go_sem])) (hK _ _ rfl (ay _ _) fun _ _ _ _ _ _ _ h=>h)
  ·cases ho;have e63:a.eval (aH 63)=Z (au ⟨b5,6,aj⟩):=seen.at_ ⟨4,.data⟩ (by simp) rfl (aQ (by decide));have y6:=(H5.out.on hb).cell 6;simp only [Y,ah,ak] at y6;exact Rg.dw rfl rfl (Rg.dY a.eval _ 39 (aH 63) rfl (by rw [e63]; simp [go_sem,y6])) (hK _ _ rfl (ay _ _) fun _ _ _ _ _ _ _ h=>h)
  ·cases ho;have e64:a.eval (aH 64)=J po pn pc:=seen.at_ ⟨5,.data⟩ (by simp) rfl (aQ (by decide));exact Rg.gL rfl rfl (Rw.iK a.eval _ (aH 64) 39 35 rfl e64 rfl _ (gu aV rfl rfl _ _)) (Aj (po,pn,pc) p x (R5.out.on hb) L5.out) fun e w1 h=>by
    obtain⟨⟨s,rfl,h1⟩,h3⟩:=h;exact⟨_,rfl,hK _ _ ⟨s,rfl,dG h1 hb.size⟩ (h3.mono hb.size) fun j u hj _ _ _ hne h=>iN j u _ _ h h3⟩
  ·cases ho;have e60:a.eval (aH 60)=U V n:=seen.at_ ⟨1,.data⟩ (by simp) rfl (aQ (by decide));have e62:a.eval (aH 62)=bE #[U V x1,U V x2]:=seen.at_ ⟨3,.data⟩ (by simp) rfl (aQ (by decide));have E65:=seen.at_ ⟨6,.data⟩ (by simp) rfl (aQ (by decide));obtain⟨s,q0,q1⟩:=E65;have q0:a.eval (aH 65)=dR s:=q0;exact Rg.dw rfl rfl (Rg.jO a.eval _ 65 #[(0,aH 60),(1,aH 62),(2,aH 65)] rfl (by simp only [List.map_toArray,List.map_cons,List.map_nil,e60,e62,q0]; rfl) (v:=bE #[U V n,U V x1,U V x2,dR s]) (by simp [go_sem])) (hK _ _ ⟨s,rfl,q1⟩ (ay _ _) fun _ _ _ _ _ _ _ h=>h)
  ·cases ho;have E66:=seen.at_ ⟨7,.data⟩ (by simp) rfl (aQ (by decide));obtain⟨s,q0,q1⟩:=E66;have q0:a.eval (aH 66)=bE #[U V n,U V x1,U V x2,dR s]:=q0;have hl:=gT okG x [(n,x1,x2,s)] 1 rfl (by simp) (wG (n,x1,x2,s)).toArray (by simp [flat,EG]);have nb:=fE x (aM (wG (n,x1,x2,s)).toArray 65);exact Rg.dw rfl rfl (Rg.iJ a.eval _ 45 1 #[(0,aH 66)] rfl (ps:=#[(0,aa2 (n,x1,x2,s))]) (by simp [q0]) (by simp [go_sem])) (hK (J (au ⟨x.heap.size,0,aj⟩) 1 1) (x.alloc (aM (wG (n,x1,x2,s)).toArray 65)) ⟨s,dG hl hb.size,Bk.dB q1 nb⟩ (nb.mono hb.size) fun j u _ _ _ _ _ h=>iN j u _ _ h nb)
 ·intro kk o h1 h2 ho;rcases (by omega:kk=10) with rfl
  ·cases ho;exact⟨⟨9,.data⟩,by simp,rfl,rfl⟩
 ·intro a w' df sz kp ⟨vs,hv⟩ hb;have sz':a.tmps.size=72:=sz;have g59:a.tmps[59]?=au (v0):=by
   have h:vs 0=v0:=(hv 0 (by omega)).2 (by decide);rw [<- h];exact (hv 0 (by omega)).1
  have g67:a.tmps[67]?=au (vs 8):=(hv 8 (by omega)).1;have G67:=(hv 8 (by omega)).2 (by decide);obtain⟨⟨q1,q2,q3⟩,o67,ho⟩:=G67;obtain⟨v',x',r',o',a',bl⟩:=XG (n,x1,x2,(q1,q2,q3)) ((n,(x1,x2)),p) (Bk.dB OV.out hb) (Row.dx o67) (AL.out.mono fun _ _ q=>q.on hb) ⟨rfl,rfl,dG ho HB.out⟩ (by have:=LN.out; omega) (aB HB.out hb.size) (hb.mono HB.out);show Rg.fC _ _ _ 2 9 a w';simp only [Rg.fC];refine Rg.dw rfl rfl (Rg.fO _ _ (aH 59) (aH 67) 45 rfl (Rg.dI g59) (Rg.dI g67) r') ?_;show Go.wpOp _ _ _ 10 _ (a.put (au 68) v') _;refine Rg.dw rfl rfl (Rg.kU _ _ (aH 68) rfl _) ?_;rw [show (a.put (au 68) v').eval (aH 68)=v' from Rg.dI (by simp [Act.put,sz'])];show Q .normal ((a.put (au 68) v').put (au 13) v') x';have ka:∀ j,j≠68->j≠13->((a.put (au 68) v').put (au 13) v').tmps[j]?=a.tmps[j]?:=fun j h1 h2=>by rw [Rg.get_put _ _ _ _ (by omega),Rg.get_put _ _ _ _ (by omega)]
  have kt:((a.put (au 68) v').put (au 13) v').tmps[13]?=au (v'):=by simp [Act.put,sz']
  have qU:∀ j,(j<59\/69<=j)->((a.put (au 68) v').put (au 13) v').tmps[j]?=(u0::u1::u2::u3::u4::Z (au ⟨b5,0,aj⟩)::u6::u7::u8::u9::u10::u11::u12::v'::u14::U V n::u16::u17::u18::u19::u20::u21::u22::u23::u24::u25::u26::u27::u28::u29::u30::u31::u32::u33::u34::u35::u36::u37::u38::u39::u40::u41::u42::u43::u44::u45::u46::u47::u48::u49::u50::u51::u52::u53::u54::u55::u56::u57::u58::u59::u60::u61::u62::u63::u64::u65::u66::u67::u68::u69::u70::u71::[])[j]?:=fun j hj=>by
   by_cases hj2:j=13
   ·subst hj2;exact kt
   ·have hs:(u0::u1::u2::u3::u4::Z (au ⟨b5,0,aj⟩)::u6::u7::u8::u9::u10::u11::u12::v'::u14::U V n::u16::u17::u18::u19::u20::u21::u22::u23::u24::u25::u26::u27::u28::u29::u30::u31::u32::u33::u34::u35::u36::u37::u38::u39::u40::u41::u42::u43::u44::u45::u46::u47::u48::u49::u50::u51::u52::u53::u54::u55::u56::u57::u58::u59::u60::u61::u62::u63::u64::u65::u66::u67::u68::u69::u70::u71::[]:List aN)=(u0::u1::u2::u3::u4::Z (au ⟨b5,0,aj⟩)::u6::u7::u8::u9::u10::u11::u12::v0::u14::U V n::u16::u17::u18::u19::u20::u21::u22::u23::u24::u25::u26::u27::u28::u29::u30::u31::u32::u33::u34::u35::u36::u37::u38::u39::u40::u41::u42::u43::u44::u45::u46::u47::u48::u49::u50::u51::u52::u53::u54::u55::u56::u57::u58::u59::u60::u61::u62::u63::u64::u65::u66::u67::u68::u69::u70::u71::[]).set 13 (v'):=rfl;rw [hs,List.getElem?_set_ne (Ne.symm hj2)];exact (ka j (by omega) hj2).trans ((kp j (nd j fun i hi h=>by have:=(by decide:∀ i,i<9->59<=[59,60,61,62,63,64,65,66,67].getD i 0/\[59,60,61,62,63,64,65,66,67].getD i 0<69) i hi; omega)).trans Y)
  obtain⟨mid,hmid,hfr⟩:=Rg.gq (a:=(a.put (au 68) v').put (au 13) v') 59 10 (by simp [Act.put,df]) (by simp [Act.put,sz']) (by simp) qU;rw [hfr]
  match mid,hmid with
  | [v59,v60,v61,v62,v63,v64,v65,v66,v67,v68],_ =>
   exact HQ.out x' _ _ _ _ _ _ _ _ _ _ _ (q1,q2,q3) o' a' bl
end Ca
namespace Rg
open Go.RowKit Rw Av
end Rg
end Go.Proofs.YtkcfgbddlpomgaaGreat
