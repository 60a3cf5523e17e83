/-
  place and branch of . Conditions as told.
-/
import Derived.Test.YtghlpefopidlaaaGreatCQ030
import Derived.Test.YtghlpefopidlaaaGreatCQ031
set_option maxRecDepth 100000
set_option maxHeartbeats 64000000
open _root_.Bool renaming true->aH,false->aR
open _root_.Go renaming World->aN,Calls->bg,Value->bq
open Go.Ending renaming returned->aQ
open Go.IntKind renaming i64->ah
open Go.Lib renaming hid->D
open Go.Obj renaming cells->au
open Go.Proofs.Tryz renaming prog->aA
open Go.Value renaming slice->U,int->V,pointer->aI,bool->aU
open _root_.List renaming getElem?_eq_getElem->J,getElem?_eq_some_iff->Q,mem_of_getElem?->ak,append_assoc->aB,length_take->aD,takeWhile_sublist->aF,take_append_drop->aG,getElem?_append_right->aJ,length_drop->aK,getElem?_append_left->aL,takeWhile_cons->aM,getElem?_cons_zero->aO,getElem?_toArray->aP,getElem?_drop->aT,getElem?_set_self->aV,getElem?_map->aX,length_cons->aZ
open _root_.Nat renaming add_sub_cancel_left->aC,le_trans->aS,lt_of_lt_of_le->aW,lt_or_ge->aY,zero_le->bf
open _root_.Option renaming some->O,none->aj
open Option.some renaming inj->ay
namespace Go.Proofs.YtghlpefopidlaaaGreat
namespace Sb
open Go.RowKit Go.Sort Rw YtghlpefopidlaaaGreat.Nm Pr Bk Av
theorem iE {α:Type} {E:Ek α} {W:aN} {so:Option Addr} {sn sc:Nat} {l:List α} (h:Row E W (U so sn sc) l):l.length=sn:=by
 obtain⟨ao,ac,hv⟩:=h.len;simp at hv;exact hv.2.1.symm
theorem ji {W:aN} {l:List iw} {m:List En} (h:dV (kJ W) l m) {i:Nat} {y:iw} (hy:l[i]?=O y):∃ e,m[i]?=O e/\wL y=dJ e/\kJ W y e:=by
 have hlt:=(Q.1 hy).1;obtain⟨e,he⟩:∃ e,m[i]?=O e:=⟨_,J (by rw [<- h.len]; exact hlt)⟩;obtain⟨y',hy',hx⟩:=h.at i e he;rw [hy] at hy';obtain rfl:=ay hy';exact⟨e,he,Prod.ext hx.1 hx.2.1,hx⟩
theorem Cg {m:List En} (hr:gU m) {i j:Nat} {x y:En} (hij:i<j) (hx:m[i]?=O x) (hy:m[j]?=O y):qd x y<0:=by
 obtain⟨h1,rfl⟩:=Q.1 hx;obtain⟨h2,rfl⟩:=Q.1 hy;exact List.pairwise_iff_getElem.1 hr i j h1 h2 hij
theorem kr (l:List (dQ×dQ)) (x:dQ×dQ):dO l x<=l.length:=(aF _).length_le
theorem oq {m:List En} (hr:gU m) (x:dQ×dQ) {i:Nat} {e:En} (hi:dO (m.map dJ) x<=i) (he:m[i]?=O e):gF (dJ e) x=aR:=by
 have hlt:=(Q.1 he).1;obtain⟨z,hz⟩:∃ z,m[dO (m.map dJ) x]?=O z:=⟨_,J (by omega)⟩;have h0:=oZ (m.map dJ) x (dJ z) (by rw [aX,hz]; rfl);rcases aY (dO (m.map dJ) x) i with h|h
 ·have h1:=Cg hr h hz he;cases hq:gF (dJ e) x with
  | false=>rfl
  | true =>
   rw [<- kC] at h1;have h2:qd z ⟨x.1,x.2,[],0,aR⟩<0:=vH z e ⟨x.1,x.2,[],0,aR⟩ ((kC z e).1 h1) ((kC e ⟨x.1,x.2,[],0,aR⟩).1 hq);rw [<- kC] at h2;rw [show gF (dJ z) x=aH from h2] at h0;cases h0
 ·have e1:i=dO (m.map dJ) x:=by omega
  rw [e1,hz] at he;rw [<- ay he];exact h0
theorem tX (v:Sl) (l:List iw) (m:List En) (t s:dQ) (w:aN) (hv:lC w (dH v) l) (hA:dV (kJ w) l m) (hr:gU m) (hl:l.length<=1000) :
  bg aA 89 #[dH v,oJ t,oJ s] w fun e w'=>e=aQ (.tuple #[V ah (dO (m.map dJ) (t,s)),aU (iI m t s)])/\Below w.heap.size w w':=by
 obtain⟨so,n,sc⟩:=v;have hn:l.length=n:=iE hv;obtain⟨c,d⟩:=t;obtain⟨g,h⟩:=s;obtain⟨k,hk⟩:∃ k,dO (m.map dJ) ((c,d),(g,h))=k:=⟨_,rfl⟩;obtain⟨th,hth⟩:∃ k,iI m (c,d) (g,h)=k:=⟨_,rfl⟩;have hkn:k<=n:=by rw [<- hk,<- hn,hA.len]; simpa using kr (m.map dJ) ((c,d),(g,h))
 rw [hk,hth];obtain⟨h0,X,Y,Z⟩:=iA w #[U so n sc] #[V ah c,V ah d] #[V ah g,V ah h] 27 23 23;have BB:=D h0;have HV:=D (hv.on h0);have HA:=D (hA.mono fun _ _ q=>q.on h0);have X1:=D X;have Y1:=D Y;have Z1:=D Z;have x0:=X.cell 0;simp only [aP,aO] at x0;have HF:=D (show ∀ i,i<n->∀ W,Below (((w.alloc (au #[U so n sc] 27)).alloc (au #[V ah c,V ah d] 23)).alloc (au #[V ah g,V ah h] 23)).heap.size (((w.alloc (au #[U so n sc] 27)).alloc (au #[V ah c,V ah d] 23)).alloc (au #[V ah g,V ah h] 23)) W ->
   bg aA 136 (#[V ah i]++#[aI (O ⟨w.heap.size,0,aj⟩),aI (O ⟨w.heap.size+1,0,aj⟩),aI (O ⟨w.heap.size+1+1,0,aj⟩)]) W fun e w'=>e=aQ (aU ((fun i=>match l[i]? with | some y=>!gF (wL y) ((c,d),(g,h)) | none=>aH) i))/\Below W.heap.size W w' from fun i hi W hb=>by
  obtain⟨y,hy⟩:∃ y,l[i]?=O y:=⟨_,J (by omega)⟩;refine Iw i _ _ _ so n sc l (c,d) (g,h) y _ W (HV.out.on hb) hn hy ?_ (X1.out.on hb) (Y1.out.on hb) (Z1.out.on hb);simp only [hy])
 have Ju:=D (show ∀ i,i<k->(fun i=>match l[i]? with | some y=>!gF (wL y) ((c,d),(g,h)) | none=>aH) i=aR from fun i hi=>by
  obtain⟨y,hy⟩:∃ y,l[i]?=O y:=⟨_,J (by omega)⟩;obtain⟨e,he,hke,_⟩:=ji HA.out hy;have h1:=kD (m.map dJ) ((c,d),(g,h)) i (dJ e) (by rw [hk]; exact hi) (by rw [aX,he]; rfl);simp only [hy,hke,h1]
  rfl)
 have Jv:=D (show ∀ i,k<=i->i<n->(fun i=>match l[i]? with | some y=>!gF (wL y) ((c,d),(g,h)) | none=>aH) i=aH from fun i hi hi2=>by
  obtain⟨y,hy⟩:∃ y,l[i]?=O y:=⟨_,J (by omega)⟩;obtain⟨e,he,hke,_⟩:=ji HA.out hy;have h1:=Sb.oq hr ((c,d),(g,h)) (by rw [hk]; exact hi) he;simp only [hy,hke,h1]
  rfl)
 have HK:=D hk;have HT:=D hth;have HN:=D hn;have ln:n<=1000:=by omega
 clear hv hA h0 X Y Z hk hth hl hn hr;go_enter Tryz.func89,Tryz.ntmps89;go_wp2_with fail;generalize ((w.alloc (au #[U so n sc] 27)).alloc (au #[V ah c,V ah d] 23)).alloc (au #[V ah g,V ah h] 23)=W at *;refine (nk 136 #[aI (O ⟨w.heap.size,0,aj⟩),aI (O ⟨w.heap.size+1,0,aj⟩),aI (O ⟨w.heap.size+1+1,0,aj⟩)] Ir n k _ W (by omega) HF.out hkn Ju.out Jv.out).mono ?_;rintro e1 w1 ⟨rfl,hb⟩;have BN:=D (fun dq osq=>(BB.out.trans (hb.mono BB.out.size)).trans ((below_regrown w1 dq osq).mono (BB.out.trans (hb.mono BB.out.size)).size));have a0:=cell_regrown (show w1.cell? ⟨w.heap.size,0,aj⟩=O (U so n sc) from (X1.out.on hb).cell 0);have b0:=cell_regrown (show w1.cell? ⟨w.heap.size+1,0,aj⟩=O (V ah c) from (Y1.out.on hb).cell 0);have b1:=cell_regrown (show w1.cell? ⟨w.heap.size+1,1,aj⟩=O (V ah d) from (Y1.out.on hb).cell 1);have c0:=cell_regrown (show w1.cell? ⟨w.heap.size+1+1,0,aj⟩=O (V ah g) from (Z1.out.on hb).cell 0);have c1:=cell_regrown (show w1.cell? ⟨w.heap.size+1+1,1,aj⟩=O (V ah h) from (Z1.out.on hb).cell 1);clear x0 HF Ju Jv;by_cases hkl:k<n
 ·obtain⟨y,hy⟩:∃ y,l[k]?=O y:=⟨_,J (by rw [HN.out]; exact hkl)⟩;obtain⟨p,ix,p0,p1,p2,p3,p4,p5,p6⟩:=q8 HV.out rfl HN.out hy hb;have TH:=D (show th=decide (wL y=((c,d),(g,h))) from by
   obtain⟨e,he,hke,_⟩:=ji HA.out hy;rw [<- HT.out,iI,HK.out,he,hke])
  have g4:decide ((k:Int)<(n:Int))=aH:=by simp; omega
  obtain⟨y1,y2,y3,y4,⟨yo,yn,yc⟩,y6,y7⟩:=y;simp only at p0 p1 p2 p3;clear p4 p5 p6 hb hy;obtain⟨r1,hr1⟩:∃ r,(y1 == c && y2 == d)=r:=⟨_,rfl⟩;obtain⟨r2,hr2⟩:∃ r,(y3 == g && y4 == h)=r:=⟨_,rfl⟩;have e1:=uR y1 y2 c d r1 hr1;have e2:=uR y3 y4 g h r2 hr2;have R:=D (show th=(r1 && r2) from by
   rw [TH.out,<- hr1,<- hr2,Bool.eq_iff_iff];simp only [decide_eq_true_eq,Bool.and_eq_true,beq_iff_eq,Prod.mk.injEq])
  clear hr1 hr2 TH HT;cases r1 <;> cases r2
  all_goals
   go_wp2;refine wp_region_quiet_below (by kernel_rfl) (by kernel_rfl) ?_
   repeat (go_big_quiet_step (fail))
   refine wpQuiet_nil ?_;intro _ hw';obtain⟨⟨dq,osq⟩,hw''⟩:=hw';subst hw'';go_wp2
   go_ret2
   exact⟨by rw [R.out]; rfl,BN.out _ _⟩
 ·have TH:=D (show th=aR from by
   rw [<- HT.out,iI,HK.out,List.getElem?_eq_none (by rw [<- HA.out.len,HN.out]; omega)])
  have g4:decide ((k:Int)<(n:Int))=aR:=by simp; omega
  clear hb HT;go_wp2;refine wp_region_quiet_below (by kernel_rfl) (by kernel_rfl) ?_
  repeat (go_big_quiet_step (fail))
  refine wpQuiet_nil ?_;intro _ hw';obtain⟨⟨dq,osq⟩,hw''⟩:=hw';subst hw'';go_wp2
  go_ret2
  exact⟨by rw [TH.out]; rfl,BN.out _ _⟩
def cutV (v:Sl) (f k:Nat):Sl:=match v with
 | (O a,_,c)=>(O (if c=f then a else a.add (f * 7)),k,c-f)
 | (aj,_,_)=>(aj,0,0)
theorem EX {α:Type} (p:α->Bool):∀ (l:List α) (j:Nat) (y:α),j<(l.takeWhile p).length->l[j]?=O y->p y=aH
 | [],_,_,_,h=>by simp at h
 | a::l,j,y,hj,h=>by
  by_cases ha:p a=aH
  ·rw [aM,if_pos ha,aZ] at hj;cases j with
   | zero=>rw [<- ay (show O a=O y from h)]; exact ha
   | succ j=>exact EX p l j y (by omega) (by simpa using h)
  ·rw [aM,if_neg ha] at hj;simp at hj
theorem EY {α:Type} (p:α->Bool):∀ (l:List α) (y:α),l[(l.takeWhile p).length]?=O y->p y=aR
 | [],_,h=>by simp at h
 | a::l,y,h=>by
  by_cases ha:p a=aH
  ·rw [aM,if_pos ha,aZ] at h;exact EY p l y (by simpa using h)
  ·rw [aM,if_neg ha] at h;rw [<- ay (show O a=O y from h)];simpa using ha
theorem Ch (a:Addr) (f e len cap:Nat) (h:f<=e) (h6:e<=cap) (w:aN):(Instr.sliceAt 27 (U (O a) len cap) (O (V ah f)) (O (V ah e)) aj).run aA w=.ok (dH (cutV (O a,len,cap) f (e-f))) w:=by
 have h1:(f:Int)<=(e:Int):=by omega
 have h3:(e:Int)<=cap:=by omega
 obtain⟨i,i1,i2,i3,i4⟩:=jI.info;have GY:Tryz.prog.info? 67=O i:=i1;have hu':Tryz.prog.underlying 27=O (.slice 67):=jI.hu;have vT:i.size=7:=i3;by_cases he:cap=f
 ·subst he;obtain rfl:e=cap:=by omega
  simp [go_sem,hu',sizeOf,typeInfo,GY,vT,cutV]
 ·simp [go_sem,hu',sizeOf,typeInfo,GY,vT,cutV,he,h,h6]
theorem vK {W:aN} {v:Sl} {l:List iw} (h:lC W (dH v) l) (f k:Nat) (hk:f+k<=l.length) :
  (∀ w,(Instr.sliceAt 27 (dH v) (O (V ah f)) (O (V ah ((f+k:Nat):Int))) aj).run aA w=.ok (dH (cutV v f k)) w)/\lC W (dH (cutV v f k)) ((l.drop f).take k):=by
 obtain⟨so,sn,sc⟩:=v;rcases h with⟨rfl,hv⟩|⟨a,cap,hv,h2,h3,h4⟩
 ·obtain⟨rfl,rfl,rfl⟩:so=aj/\sn=0/\sc=0:=by simpa using hv
  obtain⟨rfl,rfl⟩:f=0/\k=0:=by simp at hk; omega
  refine⟨fun w=>?_,Or.inl ⟨rfl,rfl⟩⟩;obtain⟨i,i1,i2,i3,i4⟩:=jI.info;have GY:Tryz.prog.info? 67=O i:=i1;have hu':Tryz.prog.underlying 27=O (.slice 67):=jI.hu;simp [go_sem,hu',sizeOf,typeInfo,GY,cutV]
 ·obtain⟨rfl,rfl,rfl⟩:so=O a/\sn=l.length/\sc=cap:=by simpa using hv
  refine⟨fun w=>by have h:=Ch a f (f+k) l.length sc (Nat.le_add_right _ _) (aS hk h2) w; rwa [aC] at h,?_⟩;refine Or.inr ⟨(if sc=f then a else a.add (f * 7)),sc-f,?_,?_,by omega,fun j u hj=>?_⟩
  ·have e:((l.drop f).take k).length=k:=by rw [aD,aK]; omega
   rw [e]
   rfl
  ·rw [aD,aK]; omega
  ·have hlt:=(Q.1 hj).1;have hlen:(flat EN ((l.drop f).take k)).length=k * 7:=by
    rw [dh jI,aD,aK];show _ * 7=_;rw [show min k (l.length-f)=k by omega]
   rw [hlen] at hlt;rw [if_neg (by omega),add_add];refine h4 _ u ?_;have e1:flat EN l=flat EN (l.take f)++(flat EN ((l.drop f).take k)++flat EN ((l.drop f).drop k)):=by
    rw [<- eG,aG,<- eG,aG]
   have e2:(flat EN (l.take f)).length=f * 7:=by
    rw [dh jI,aD];show _ * 7=_;rw [show min f l.length=f by omega]
   rw [e1,aJ (by rw [e2]; omega),e2,show f * 7+j-f * 7=j by omega,aL (by rw [hlen]; exact hlt)];exact hj
theorem pz (m:List En) (t:dQ):fF m t+(jL m t).length<=m.length:=by
 have h1:(jL m t).length<=(m.drop (fF m t)).length:=(aF _).length_le;have h2:fF m t<=m.length:=(aF _).length_le;rw [aK] at h1;omega
theorem rz (v:Sl) (l:List iw) (m:List En) (t:dQ) (w:aN) (hv:lC w (dH v) l) (hA:dV (kJ w) l m) (hr:gU m) (hl:l.length<=1000) :
  bg aA 84 #[dH v,oJ t] w fun e w'=>e=aQ (dH (cutV v (fF m t) (jL m t).length))/\Below w.heap.size w w':=by
 have KV:=pz m t;have Tv:l.length=m.length:=hA.len;obtain⟨f,hf⟩:∃ f,fF m t=f:=⟨_,rfl⟩;obtain⟨k,hk⟩:∃ k,(jL m t).length=k:=⟨_,rfl⟩;rw [hf,hk] at KV ⊢;have RC:=D ((vK hv f k (by omega)).1);obtain⟨so,n,sc⟩:=v;generalize cutV (so,n,sc) f k=z at RC ⊢;obtain⟨z1,z2,z3⟩:=z;have hn:l.length=n:=iE hv;obtain⟨c,d⟩:=t;obtain⟨h0,X,Y⟩:=gP w #[U so n sc] #[V ah c,V ah d] 27 23;have BB:=D h0;have HV:=D (hv.on h0);have HA:=D (hA.mono fun _ _ q=>q.on h0);have X1:=D X;have Y1:=D Y;have x0:=X.cell 0;simp only [aP,aO] at x0;have FL:∀ (i:Nat) (e:En),i<f->m[i]?=O e->dB e.tree (c,d)=aH:=fun i e hi he=>EX (fun e:En=>dB e.tree (c,d)) m i e (by unfold fF at hf; omega) he;have FH:∀ (i:Nat) (e:En),f<=i->m[i]?=O e->dB e.tree (c,d)=aR:=fun i e hi he=>by
  refine yR (c,d) hr e ?_;rw [<- qY];unfold fF at hf;rw [hf];exact ak (show (m.drop f)[i-f]?=O e by rw [aT,show f+(i-f)=i by omega]; exact he)
 have BL:=D (show ∀ (i:Nat) (e:En),i<k->m[f+i]?=O e->e.tree=(c,d) from fun i e hi he=>by
  have:=EX (fun e:En=>decide (e.tree=(c,d))) (m.drop f) i e (by unfold jL at hk; rw [hf] at hk; omega) (by rw [aT]; exact he);exact of_decide_eq_true this)
 have BH:=D (show ∀ (e:En),m[f+k]?=O e->e.tree≠(c,d) from fun e he=>by
  have:=EY (fun e:En=>decide (e.tree=(c,d))) (m.drop f) e (by unfold jL at hk; rw [hf] at hk; rw [hk,aT]; exact he);exact of_decide_eq_false this)
 have HF:=D (show ∀ i,i<n->∀ W,Below ((w.alloc (au #[U so n sc] 27)).alloc (au #[V ah c,V ah d] 23)).heap.size ((w.alloc (au #[U so n sc] 27)).alloc (au #[V ah c,V ah d] 23)) W ->
   bg aA 132 (#[V ah i]++#[aI (O ⟨w.heap.size,0,aj⟩),aI (O ⟨w.heap.size+1,0,aj⟩)]) W fun e w'=>e=aQ (aU ((fun i=>match l[i]? with | some y=>!dB (y.1,y.2.1) (c,d) | none=>aH) i))/\Below W.heap.size W w' from fun i hi W hb=>by
  obtain⟨y,hy⟩:∃ y,l[i]?=O y:=⟨_,J (by omega)⟩;refine Iy i _ _ so n sc l (c,d) y _ W (HV.out.on hb) hn hy ?_ (X1.out.on hb) (Y1.out.on hb);simp only [hy])
 have Ju:=D (show ∀ i,i<f->(fun i=>match l[i]? with | some y=>!dB (y.1,y.2.1) (c,d) | none=>aH) i=aR from fun i hi=>by
  obtain⟨y,hy⟩:∃ y,l[i]?=O y:=⟨_,J (by omega)⟩;obtain⟨e,he,hke,hx⟩:=ji HA.out hy;have h1:=FL i e hi he;rw [<- hx.1] at h1;simp only [hy,h1]
  rfl)
 have Jv:=D (show ∀ i,f<=i->i<n->(fun i=>match l[i]? with | some y=>!dB (y.1,y.2.1) (c,d) | none=>aH) i=aH from fun i hi hi2=>by
  obtain⟨y,hy⟩:∃ y,l[i]?=O y:=⟨_,J (by omega)⟩;obtain⟨e,he,hke,hx⟩:=ji HA.out hy;have h1:=FH i e hi he;rw [<- hx.1] at h1;simp only [hy,h1]
  rfl)
 have HN:=D hn;have ln:n<=1000:=by omega
 have Tw:f+k<=n:=by omega
 clear hv hA h0 X Y hk hf hl hn hr KV Tv FL FH;go_enter Tryz.func84,Tryz.ntmps84;go_wp2_with fail;generalize (w.alloc (au #[U so n sc] 27)).alloc (au #[V ah c,V ah d] 23)=W at *;refine (nk 132 #[aI (O ⟨w.heap.size,0,aj⟩),aI (O ⟨w.heap.size+1,0,aj⟩)] Iu n f _ W (by omega) HF.out (by omega) Ju.out Jv.out).mono ?_;rintro e1 w1 ⟨rfl,hb⟩;have B1:=D hb;clear x0 HF Ju Jv hb;go_wp2
 go_loopw [6] (fun i wr=>∃ j:Nat,j<=k/\i=V ah ((f+j:Nat):Int)/\Below W.heap.size W wr) (fun i _=>f+k-(intOf i).toNat)
 case atStart=>exact⟨0,bf _,by simp,B1.out⟩
 case round =>
  obtain⟨j,hj,rfl,hbe⟩:=hrel;have BE:=D hbe;have a0:=cell_regrown (show wr.cell? ⟨w.heap.size,0,aj⟩=O (U so n sc) from (X1.out.on hbe).cell 0);have b0:=cell_regrown (show wr.cell? ⟨w.heap.size+1,0,aj⟩=O (V ah c) from (Y1.out.on hbe).cell 0);have b1:=cell_regrown (show wr.cell? ⟨w.heap.size+1,1,aj⟩=O (V ah d) from (Y1.out.on hbe).cell 1);have BN:=D (fun dq osq=>BE.out.trans ((below_regrown wr dq osq).mono BE.out.size));clear hbe;by_cases hjk:j<k
  ·obtain⟨y,hy⟩:∃ y,l[f+j]?=O y:=⟨_,J (by rw [HN.out]; omega)⟩;obtain⟨p,ix,p0,p1,p2,p3,p4,p5,p6⟩:=q8 HV.out rfl HN.out hy BE.out;obtain⟨e,he,_,hx⟩:=ji HA.out hy;have ht:(y.1,y.2.1)=(c,d):=hx.1.trans (BL.out j e hjk he);have hjn:f+j<n:=by omega
   have g4:decide (((f+j:Nat):Int)<(n:Int))=aH:=by simp; omega
   have hw3:IntKind.i64.wrap (((f+j:Nat):Int)+1)=((f+(j+1):Nat):Int):=by rw [IntWalk.i64_in _ (by omega)]; omega
   obtain⟨y1,y2,y3,y4,⟨yo,yn,yc⟩,y6,y7⟩:=y;obtain⟨rfl,rfl⟩:y1=c/\y2=d:=by simpa using ht
   simp only at p0 p1;have e1:=uR y1 y2 y1 y2 aH (by simp);clear p2 p3 p4 p5 p6 hy he hx ht;generalize hq:f+j=q at *;have HQ:=D hq;clear hq;go_wp2;refine wp_region_quiet_below (by kernel_rfl) (by kernel_rfl) ?_
   repeat (go_big_quiet_step (fail))
   refine wpQuiet_nil ?_;intro _ hw';obtain⟨⟨dq,osq⟩,hw''⟩:=hw';subst hw'';go_wp2
   go_roundw
   case rel=>exact⟨j+1,by omega,by rfl,BN.out _ _⟩
   case measure =>
    have hq:=HQ.out;simp [intOf];omega
  ·obtain rfl:j=k:=by omega
   have Mf:=RC.out;by_cases hjn:f+j<n
   ·obtain⟨y,hy⟩:∃ y,l[f+j]?=O y:=⟨_,J (by rw [HN.out]; omega)⟩;obtain⟨p,ix,p0,p1,p2,p3,p4,p5,p6⟩:=q8 HV.out rfl HN.out hy BE.out;obtain⟨e,he,_,hx⟩:=ji HA.out hy;have ht:(y.1,y.2.1)≠(c,d):=fun q=>BH.out e he (hx.1.symm.trans q);have g4:decide (((f+j:Nat):Int)<(n:Int))=aH:=by simp; omega
    obtain⟨y1,y2,y3,y4,⟨yo,yn,yc⟩,y6,y7⟩:=y;simp only at p0 p1;have e1:=uR y1 y2 c d aR (Bool.eq_false_iff.2 fun h=>ht (by simp at h; rw [h.1,h.2]));clear p2 p3 p4 p5 p6 hy he hx ht;generalize f+j=q at *;go_wp2;refine wp_region_quiet_below (by kernel_rfl) (by kernel_rfl) ?_
    repeat (go_big_quiet_step (fail))
    refine wpQuiet_nil ?_;intro _ hw';obtain⟨⟨dq,osq⟩,hw''⟩:=hw';subst hw'';have a0:=a0 dq osq;go_wp2;go_ret;exact⟨rfl,BB.out.trans ((BN.out _ _).mono BB.out.size)⟩
   ·have g4:decide (((f+j:Nat):Int)<(n:Int))=aR:=by simp; omega
    generalize f+j=q at *;go_wp2;refine wp_region_quiet_below (by kernel_rfl) (by kernel_rfl) ?_
    repeat (go_big_quiet_step (fail))
    refine wpQuiet_nil ?_;intro _ hw';obtain⟨⟨dq,osq⟩,hw''⟩:=hw';subst hw'';have a0:=a0 dq osq;go_wp2;go_ret;exact⟨rfl,BB.out.trans ((BN.out _ _).mono BB.out.size)⟩
end Sb
namespace Sb
open Go.RowKit Go.Sort Rw YtghlpefopidlaaaGreat.Nm Pr Bk Av Rl
theorem EZ (tY bv:bq) (p q:List C5) (w:aN) (ha:fI w tY p) (hb:fI w bv q) (hp:eD p) (hq:eD q) :
  bg aA 27 #[tY,bv] w fun e w'=>e=aQ (aU (lW p q))/\Below w.heap.size w w':=by
 obtain⟨a,na,rfl⟩:=hp;obtain⟨b,nb,rfl⟩:=hq;unfold lW;rw [qp,qp];exact yT tY bv a b w ha hb na nb
theorem KW {α:Type} (f:α->Bool) {l:List α} (h:∀ (j:Nat) (y:α),j<l.length->l[j]?=O y->f y=aR):l.any f=aR:=by
 rw [List.any_eq_false];intro e he;obtain⟨j,hj,Tx⟩:=List.getElem_of_mem he;simpa using h j e hj (by rw [J hj,Tx])
theorem KX {α:Type} (f:α->Bool) {l:List α} {k:Nat} {y:α} (h:l[k]?=O y) (hf:f y=aH):l.any f=aH:=by
 rw [List.any_eq_true];exact⟨y,ak h,hf⟩
abbrev cE (p:List C5) (e:En):Bool:=e.up && lW e.p p
theorem pV (v:Sl) (pv:bq) (l:List iw) (m:List En) (p':List C5) (w:aN) (hs:lC w (dH v) l) (hu:dV (kJ w) l m) (hp:fI w pv p') (hok:∀ e∈m,eD e.p) (hop:eD p') :
  bg aA 131 #[dH v,pv] w fun e w'=>e=aQ (aU (sw m p'))/\Below w.heap.size w w':=by
 have HU:=D hu;have HP:=D hp;have OK:=D hok;have OP:=D hop;obtain⟨pa,pc,rfl⟩:=hp.len;generalize p'.length=pn at *;obtain⟨so,n,sc⟩:=v;have hn:=iE hs;have HS:=D hs;have lm:=hs.most;unfold maxLen at lm;rw [hn] at lm;have HN:=D hn;clear hu hp hok hop hs hn;go_enter Tryz.func131,Tryz.ntmps131;go_wp2
 go_loopw [9] (fun i wr=>∃ k:Nat,k<=n/\i=V ah k/\Below w.heap.size w wr/\∀ (j:Nat) (y:En),j<k->m[j]?=O y->cE p' y=aR) (fun i _=>n-(intOf i).toNat)
 case atStart=>exact⟨0,bf _,rfl,Below.refl _ _,fun j y h=>by omega⟩
 case round =>
  obtain⟨k,hk,rfl,hbe,hall⟩:=hrel;have BE:=D hbe;have AL:=D hall;clear hbe hall;by_cases hlt:k<n
  ·obtain⟨y,hy⟩:∃ y,l[k]?=O y:=⟨_,J (by rw [HN.out]; exact hlt)⟩;obtain⟨q,ix,px⟩:=Pg HS.out rfl HN.out hy;obtain⟨p0,p1,p2,p3,p4,p5,p6⟩:=px wr BE.out;obtain⟨e,he,_,hin⟩:=ji HU.out hy;obtain⟨y1,y2,y3,y4,⟨yo,yn,yc⟩,y6,y7⟩:=y;simp only at p0 p1 p2 p3 p4 p5 p6;have NB:=D (iM wr (au #[V ah y1,V ah y2,V ah y3,V ah y4,U yo yn yc,V ah y6,aU y7] 67));have hw3:IntKind.i64.wrap ((k:Int)+1)=(k:Int)+1:=IntWalk.i64_in _ (by omega);obtain⟨t,ht⟩:∃ r,lW e.p p'=r:=⟨_,rfl⟩;have HV:=D (show cE p' e=(y7 && t) by unfold cE; rw [<- hin.2.2.2.1,ht]);have HE:=D he;have BF:=D (BE.out.trans (NB.out.mono BE.out.size));have CV:=D (EZ (U yo yn yc) (U pa pn pc) e.p p' _ (hin.2.2.2.2.on BF.out) (HP.out.on BF.out) (OK.out _ (ak he)) OP.out);rw [ht] at CV;clear px hy ht he hin;cases y7
   ·clear CV;go_wp2
    go_roundw
    case rel=>exact⟨k+1,by omega,by go_num,BF.out,fun j y' hj h1=>by
     rcases aY j k with h3|h3
     ·exact AL.out j y' h3 h1
     ·obtain rfl:j=k:=by omega
      have e1:=HE.out;rw [h1] at e1;rw [ay e1];exact HV.out.trans (by simp)⟩
    case measure=>simp [intOf]; omega
   ·go_wp2_with fail;refine CV.out.mono ?_;rintro e3 w3 ⟨rfl,hb⟩;have BG:=D (BF.out.trans (hb.mono BF.out.size));clear CV hb p0 p1 p2 p3 p4 p5 p6 ix;cases t
    ·go_wp2
     go_roundw
     case rel=>exact⟨k+1,by omega,by go_num,BG.out,fun j y' hj h1=>by
      rcases aY j k with h3|h3
      ·exact AL.out j y' h3 h1
      ·obtain rfl:j=k:=by omega
       have e1:=HE.out;rw [h1] at e1;rw [ay e1];exact HV.out.trans (by simp)⟩
     case measure=>simp [intOf]; omega
    ·have hd:sw m p'=aH:=KX (cE p') HE.out (HV.out.trans (by simp));go_wp2;go_ret;exact⟨by rw [hd]; rfl,BG.out⟩
  ·obtain rfl:k=n:=by omega
   have hd:sw m p'=aR:=KW (cE p') fun j y hj h=>AL.out j y (by rw [<- HN.out,HU.out.len]; exact hj) h;go_wp2;go_ret;exact⟨by rw [hd]; rfl,BE.out⟩
theorem KY {W:aN} {v:Sl} {l:List iw} {m:List En} (hv:lC W (dH v) l) (hA:dV (kJ W) l m) (t:dQ):lC W (dH (cutV v (fF m t) (jL m t).length)) ((l.drop (fF m t)).take (jL m t).length)/\dV (kJ W) ((l.drop (fF m t)).take (jL m t).length) (jL m t):=by
 refine⟨(vK hv _ _ (by rw [hA.len]; exact pz m t)).2,?_⟩;have h:=(hA.drop (fF m t)).take (jL m t).length;have e:(m.drop (fF m t)).take (jL m t).length=jL m t:=by
  unfold jL
  conv=>lhs; arg 2; rw [<- List.takeWhile_append_dropWhile (p:=fun e:En=>decide (e.tree=t)) (l:=m.drop (fF m t))]
  rw [List.take_left]
 rw [e] at h;exact h
theorem KZ (m:List En) (t:dQ):∀ e∈jL m t,e∈m:=fun _ he=>List.mem_of_mem_drop ((aF _).subset he)
theorem E5 (me:Int) (nv av sv ov:bq) (ev:Sl) (l:List iw) (m:List En) (t:dQ) (pv:bq) (p':List C5) (w:aN) (hs:lC w (dH ev) l) (hu:dV (kJ w) l m) (hr:gU m) (hl:l.length<=1000) (hp:fI w pv p') (hok:∀ e∈m,eD e.p) (hop:eD p') :
  bg aA 156 #[.agg #[V ah me,nv,av,sv,dH ev,ov],oJ t,pv] w fun e w'=>e=aQ (aU (gK m t p'))/\Below w.heap.size w w':=by
 obtain⟨pa,pc,rfl⟩:=hp.len;obtain⟨so,n,sc⟩:=ev;obtain⟨c,d⟩:=t;obtain⟨h0,X,Y⟩:=gP w #[V ah me,nv,av,sv,U so n sc,ov] #[V ah c,V ah d] 30 23;have B:=D h0;have x4:=X.cell 4;obtain⟨y0,y1⟩:=Y.cs2;simp only [aP,aO,List.getElem?_cons_succ] at x4;have BR:=D (rz (so,n,sc) l m (c,d) _ (hs.on h0) (hu.mono fun _ _ q=>q.on h0) hr hl);obtain⟨q1,q2⟩:=KY (hs.on h0) (hu.mono fun _ _ q=>q.on h0) (c,d);have Q1:=D q1;have Q2:=D q2;have HP:=D (hp.on h0);have OK:=D (fun e he=>hok e (KZ m (c,d) e he));have CB:=D (KT hr (c,d) p');generalize p'.length=pn at *;generalize gK m (c,d) p'=r at *;generalize cutV (so,n,sc) (fF m (c,d)) (jL m (c,d)).length=z at *;obtain⟨z1,z2,z3⟩:=z;clear h0 X Y hs hu hr hl hp hok q1 q2;go_enter Tryz.func156,Tryz.ntmps156;go_wp2_with fail;generalize (w.alloc (au #[V ah me,nv,av,sv,U so n sc,ov] 30)).alloc (au #[V ah c,V ah d] 23)=W at *;refine BR.out.mono ?_;rintro e1 w1 ⟨rfl,hb⟩;have HB:=D hb;have CV:=D (pV (z1,z2,z3) (U pa pn pc) _ (jL m (c,d)) p' w1 (Q1.out.on hb) (Q2.out.mono fun _ _ q=>q.on hb) (HP.out.on hb) OK.out hop);clear x4 y0 y1 hb BR;go_wp2_with fail;refine CV.out.mono ?_;rintro e2 w2 ⟨rfl,hb2⟩;go_wp2;go_ret;exact⟨by rw [<- CB.out]; rfl,B.out.trans ((HB.out.trans (hb2.mono HB.out.size)).mono B.out.size)⟩
def xA (m:List En) (t s:dQ):Option En:=match m[dO (m.map dJ) (t,s)]? with
 | none=>aj
 | some e=>if dJ e=(t,s) then O e else aj
theorem tZ {m:List En} {t s:dQ} (h:iI m t s=aH):∃ e,m[dO (m.map dJ) (t,s)]?=O e/\dJ e=(t,s)/\xA m t s=O e:=by
 unfold iI at h;cases hm:m[dO (m.map dJ) (t,s)]? with
 | none=>rw [hm] at h; cases h
 | some e =>
  rw [hm] at h;have hk:=of_decide_eq_true h;exact⟨e,rfl,hk,by unfold xA; rw [hm]; simp only; rw [if_pos hk]⟩
theorem xB {m:List En} {t s:dQ} (h:iI m t s=aR):xA m t s=aj:=by
 unfold iI at h;unfold xA;cases hm:m[dO (m.map dJ) (t,s)]? with
 | none=>rfl
 | some e =>
  rw [hm] at h;simp only;rw [if_neg (of_decide_eq_false h)]
theorem uf {w w':aN} {row:Option Nat} (h:w.grownBy w' row):Off row w w':=⟨h.block,h.size⟩
theorem K4 {wr w0:aN} {B:Nat} {v:bq} {lu:List iw} {mu:List En} (x:iw) (e:En) (o:iO wr B v lu) (hA:dV (kL w0 B wr) lu mu) (hx:kL w0 B wr x e) (hn:lu.length<=1000) (hB:B<=wr.heap.size) :
  ∃ v' w',(Builtin.append_ #[27,27] 27 #[v,U (O ⟨wr.heap.size,0,aj⟩) 1 1]).run aA (wr.alloc (au (gu x).toArray 67))=.ok v' w'/\iO w' B v' (lu++[x])/\dV (kL w0 B w') (lu++[x]) (mu++[e]) /\
   (∀ B' W,B'<=B->Below B' W wr->Below B' W w')/\Off v.ownBlock (wr.alloc (au (gu x).toArray 67)) w':=by
 have NB:=iM wr (au (gu x).toArray 67);have hlit:=nK jI wr [x] 1 rfl (by simp) (gu x).toArray rfl;have o2:iO _ B v lu:=Bk.dw o NB;have hB2:B<=(wr.alloc (au (gu x).toArray 67)).heap.size:=aS hB NB.size;obtain⟨v',w',r',o',gr⟩:=jq jI B o2 (Row.dx hlit) hn (by simp) hB2 27;refine⟨v',w',by simpa [EN] using r',o',?_,fun B' W hB' hb=>?_,uf gr⟩
 ·have hf:=uf gr;have hg:=fH o2;have g:∀ y z,kL w0 B wr y z->kL w0 B w' y z:=fun y z q=>(q.grow NB).off hf hg (by decide);exact (hA.mono g).append (.cons (g _ _ hx) .nil)
 ·exact (hb.trans (NB.mono (by have:=hb.size; omega))).grown gr (aS hB' hB2) fun j hj=>aS hB' (o2.lt j hj).1
theorem rA {w0 wr:aN} {B:Nat} {x:iw} {e:En} (h:kL w0 B wr x e) (hl:Below w0.heap.size w0 wr):kJ wr x e:=⟨h.1,h.2.1,h.2.2.1,h.2.2.2.1,h.2.2.2.2.row hl⟩
theorem gJ {p:List C5} (h:eD p):p.length<=900:=by
 obtain⟨a,na,rfl⟩:=h;rw [List.length_map];have:=na.five;omega
theorem IB {α:Type} {E:Ek α} {ob:Option Nat} {W x:aN} {B g n cap:Nat} {l:List α} (h:Off ob W x) (ho:Own E W B (U (O ⟨g,0,aj⟩) n cap) l) (hne:O g≠ob):Own E x B (U (O ⟨g,0,aj⟩) n cap) l:=by
 refine⟨ho.1,?_⟩;rcases ho.2 with h2|⟨g',cap',cur,h1,h2,h3,h4⟩
 ·exact Or.inl h2
 ·obtain⟨rfl,_⟩:g=g'/\True:=by simp at h1; exact⟨h1.1,trivial⟩
  exact Or.inr ⟨g,cap',cur,h1,h2,by rw [h.1 g (lt_of_heap h3) hne]; exact h3,h4⟩
theorem Ci (g f k K C:Nat) (h:k<K) (w:aN):(Instr.indexAt 27 (U (O ⟨g,f * 7,aj⟩) K C) (V ah k)).run aA w=.ok (aI (O ⟨g,(f+k) * 7,aj⟩)) w:=by
 have h1:(Instr.indexAt 27 (U (O ⟨g,f * 7,aj⟩) K C) (V ah k)).run aA w=.ok (aI (O ((⟨g,f * 7,aj⟩:Addr).add (k * 7)))) w:=oK jI ⟨g,f * 7,aj⟩ k K C h w;rw [h1];have e:(⟨g,f * 7,aj⟩:Addr).add (k * 7)=⟨g,(f+k) * 7,aj⟩:=by
  rw [Nat.add_mul];by_cases hk:k * 7=0
  ·rw [hk,add_zero,Nat.add_zero]
  ·rw [add_pos _ _ hk]
 rw [e]
theorem IC {α:Type} {E:Ek α} {W:aN} {B g n cap:Nat} {l:List α} (h:Own E W B (U (O ⟨g,0,aj⟩) n cap) l):B<=g:=by
 rcases dY h with⟨h1,_⟩|⟨g',cap',cur,h1,h2,_⟩
 ·cases h1
 ·obtain⟨rfl,_⟩:g=g'/\True:=by simp at h1; exact⟨h1.1,trivial⟩
  exact h2
theorem But.off {g:Nat} {ob:Option Nat} {w W x:aN} (h:But g w W) (ho:Off ob W x) (hb:∀ b,ob=O b->w.heap.size<=b):But g w x :=
 ⟨fun j hj hne=>(ho.1 j (aW hj h.2) fun e=>by have:=hb j e.symm; omega).trans (h.1 j hj hne),aS h.2 ho.2⟩
theorem vL {α:Type} {E:Ek α} {W:aN} {B:Nat} {v:bq} {l:List α} (h:Own E W B v l):∀ b,v.ownBlock=O b->B<=b:=by
 intro b hb;rcases dY h with⟨rfl,_⟩|⟨g',cap',cur,rfl,h2,_⟩
 ·cases hb
 ·obtain rfl:g'=b:=by simpa [Value.ownBlock] using hb
  exact h2
theorem vM {W:aN} {B g n cap f K:Nat} {l:List iw} (ho:iO W B (U (O ⟨g,0,aj⟩) n cap) l) (hK:f+K<=n) (h0:0<K):lC W (U (O ⟨g,f * 7,aj⟩) K (cap-f)) ((l.drop f).take K):=by
 have hl:l.length=n:=dZ ho;have hnc:n<=cap:=by
  rcases dY ho with⟨h1,_⟩|⟨g',cap',cur,h1,_,_,h4,_⟩
  ·cases h1
  ·obtain⟨_,_,rfl⟩:g=g'/\n=l.length/\cap=cap':=by simpa using h1
   rw [hl] at h4;exact h4
 have h:=(vK (v:=(O ⟨g,0,aj⟩,n,cap)) (Row.dx ho) f K (by omega)).2;unfold cutV at h;simp only at h;rw [if_neg (by omega),jM] at h;exact h
structure Ra (w0 w wr:aN) (B g n cap:Nat) (a c:List En) (s:List En×List En) (v:bq):Prop where
 row:∃ l,iO wr B (U (O ⟨g,0,aj⟩) n cap) l/\dV (kL w0 B wr) l (a++s.1++c)
 up:∃ lu,iO wr w.heap.size v lu/\dV (kL w0 w.heap.size wr) lu s.2
 but:But g w wr
 low:∀ B' W,B'<=g->Below B' W w->Below B' W wr
theorem Cj (w0:aN) (B g n cap f K:Nat) (ra:Option Addr) (rc:Nat) (l:List iw) (m:List En) (w:aN) (hw0:Below w0.heap.size w0 w) (hB0:w0.heap.size<=B) (ho:iO w B (U (O ⟨g,0,aj⟩) n cap) l) (hA:dV (kL w0 B w) l m) (Tz:f+K<=n) (hn:n<=900)
  (hra:0<K->ra=O ⟨g,f * 7,aj⟩/\rc=cap-f) (hok:∀ e∈m,eD e.p) :
  bg aA 159 #[U ra K rc] w fun e w'=>∃ v':Sl,e=aQ (dH v')/\Ra w0 w w' B g n cap (m.take f) (m.drop (f+K)) (eO ((m.drop f).take K) K) (dH v'):=by
 obtain⟨a,ha⟩:∃ a,m.take f=a:=⟨_,rfl⟩;obtain⟨r,hr⟩:∃ r,(m.drop f).take K=r:=⟨_,rfl⟩;obtain⟨c,hc⟩:∃ c,m.drop (f+K)=c:=⟨_,rfl⟩;have hmn:m.length=n:=by rw [<- hA.len]; exact dZ ho
 have hm:m=a++r++c:=by
  rw [<- ha,<- hr,<- hc,aB,show m.drop (f+K)=(m.drop f).drop K by rw [List.drop_drop],aG,aG]
 have hal:a.length=f:=by rw [<- ha,aD]; omega
 have hrl:r.length=K:=by rw [<- hr,aD,aK]; omega
 have hrr:∀ k,(eO r k).1.length=K:=fun k=>by rw [ng,hrl]
 have hokr:∀ k,∀ e∈(eO r k).1,eD e.p:=fun k=>by
  induction k with
  | zero=>intro e he; exact hok e (by rw [hm]; exact List.mem_append_left _ (List.mem_append_right _ he))
  | succ k ih =>
   rw [jh];unfold iK
   split
   ·exact ih
   ·rename_i e0 he0
    split
    ·exact ih
    ·intro e he;rcases List.mem_or_eq_of_mem_set he with h1|h1
     ·exact ih e h1
     ·rw [h1]; exact ih e0 (ak he0)
 rw [ha,hr,hc];have hgw:g<w.heap.size:=by
  obtain⟨cur,hg⟩:=fP ho;exact hg.lt
 have hBg:B<=g:=IC ho;have R0:Ra w0 w w B g n cap a c (eO r 0) (U aj 0 0):=⟨⟨l,ho,by rw [show a++(eO r 0).1++c=m from hm.symm]; exact hA⟩,⟨[],gN _ _,.nil⟩,But.of_below (Below.refl _ _),fun _ _ _ h=>h⟩;have W0:=D hw0;have TB:=D hokr;have RR:=D hrr;have RA:=D hra;have RL:=D hrl;have K5:=D hal;have R0:=D R0;have HB:=D (show w0.heap.size<=g from by omega);clear hw0 ho hA hra hok hm ha hr hc hmn hokr hrr l m hrl hal;go_enter Tryz.func159,Tryz.ntmps159;go_wp2
 go_loopw [3,7] (fun v i wr=>∃ k:Nat,k<=K/\i=V ah k/\Ra w0 w wr B g n cap a c (eO r k) v) (fun _ i _=>K-(intOf i).toNat)
 case atStart=>exact⟨0,bf _,rfl,R0.out⟩
 case round =>
  obtain⟨k,hk,rfl,Nb⟩:=hrel;have RX:=D Nb;have hwr:Below w0.heap.size w0 wr:=Nb.low _ _ HB.out W0.out;have WR:=D hwr;clear Nb hwr R0;by_cases hlt:k<K
  ·obtain⟨Qw,Qx⟩:=RA.out (by omega);subst Qw;subst Qx;obtain⟨L,hL,Mg⟩:=RX.out.row;have hRk:=RR.out k;obtain⟨s,hs⟩:∃ s,eO r k=s:=⟨_,rfl⟩;have RS:=D (jh r k);have Nc:=D (TB.out k);rw [hs] at Mg hRk RX RS Nc;obtain⟨r',us⟩:=s;simp only at Mg hRk Nc;obtain⟨e,he⟩:∃ e,r'[k]?=O e:=⟨_,J (by omega)⟩;have hM:(a++r'++c)[f+k]?=O e:=by
    rw [aB,aJ (by rw [K5.out]; omega),K5.out,aC,aL (by omega)];exact he
   obtain⟨y,hy,hx⟩:=Mg.at (f+k) e hM;have ix:=Ci g f k K (cap-f) hlt;have cc:=gI jI hL hy wr (Below.refl _ _);obtain⟨cur,hbx⟩:=fP hL;have fr:=hbx.fr ((f+k) * 7+6);have zl:=hbx.lt;obtain⟨y1,y2,y3,y4,⟨yo,yn,yc⟩,y6,y7⟩:=y;have c0:=cc 0 _ rfl;have c1:=cc 1 _ rfl;have c2:=cc 2 _ rfl;have c3:=cc 3 _ rfl;have c4:=cc 4 _ rfl;have c5:=cc 5 _ rfl;have c6:=cc 6 _ rfl;simp [Addr.add,EN] at c0 c1 c2 c3 c4 c5 c6;have CUT:=vM (f:=f) (K:=K) hL Tz (by omega);have R8:dV (kJ wr) ((L.drop f).take K) r':=by
    have h:=((Mg.drop f).take K).mono fun _ _ q=>rA q WR.out;rw [aB,List.drop_left' K5.out,List.take_left' hRk] at h;exact h
   obtain⟨t,ht⟩:∃ t,sw r' e.p=t:=⟨_,rfl⟩;have CV:=D (pV (O ⟨g,f * 7,aj⟩,K,cap-f) (U yo yn yc) _ r' e.p wr CUT R8 (rA hx WR.out).2.2.2.2 Nc.out (Nc.out e (ak he)));rw [ht] at CV;have HX:=D hx;have HL:=D hL;have TD:=D Mg;have HY:=D hy;have HM:=D hM;have RE:=D (show eO r (k+1)=if y7=aH\/t=aH then (r',us) else (r'.set k (wW e),us++[wW e]) by
    rw [RS.out];unfold iK;simp only [he];rw [ht,<- hx.2.2.2.1])
   have hw3:IntKind.i64.wrap ((k:Int)+1)=(k:Int)+1:=IntWalk.i64_in _ (by omega);have SS:=D hs;have RK:=D hRk;clear cc hbx CUT R8 ht hx hL Mg hy hM he RS hs hRk;cases y7
   ·go_wp2_with fail;refine CV.out.mono ?_;rintro e3 w3 ⟨rfl,hb⟩;clear CV;cases t
    ·have d6:=(hb.cell (p:=⟨g,(f+k) * 7+6,aj⟩) zl).trans c6;have f6:w3.frozen? ⟨g,(f+k) * 7+6,aj⟩=aR:=(hb.frozen (p:=⟨g,(f+k) * 7+6,aj⟩) zl).trans fr;have z3:g<w3.heap.size:=aW zl hb.size;obtain⟨lu,hu1,hu2⟩:=RX.out.up;obtain⟨o4,_,_⟩:=Io (Bk.dw HL.out hb) HY.out;have bt:=dF w3 g ((f+k) * 7+6) (aU aH);obtain⟨TF,hg3⟩:=fP (Bk.dw HL.out hb);have G1:∀ x z,kL w0 B wr x z->kL w0 B (w3.setCell ⟨g,(f+k) * 7+6,aj⟩ (aU aH)) x z:=fun x z q=>(q.grow hb).but bt hg3 (by decide);have G2:∀ x z,kL w0 w.heap.size wr x z->kL w0 w.heap.size (w3.setCell ⟨g,(f+k) * 7+6,aj⟩ (aU aH)) x z:=fun x z q=>(q.grow hb).but bt hg3 (by decide);have O4:=D o4;have A4:=D (dV.set2 (f+k) (TD.out.mono G1) (show kL w0 B (w3.setCell ⟨g,(f+k) * 7+6,aj⟩ (aU aH)) (y1,y2,y3,y4,(yo,yn,yc),y6,aH) (wW e) from ⟨(G1 _ _ HX.out).1,(G1 _ _ HX.out).2.1,(G1 _ _ HX.out).2.2.1,rfl,(G1 _ _ HX.out).2.2.2.2⟩));have U4:=D (dN (Bk.dw hu1 hb) g ((f+k) * 7+6) (aU aH) hgw);have V4:=D (hu2.mono G2);have B4:=D ((RX.out.but.trans (But.of_below hb)).trans bt);have L4:=D (show ∀ B' W,B'<=g->Below B' W w->Below B' W (w3.setCell ⟨g,(f+k) * 7+6,aj⟩ (aU aH)) from fun B' W h1 h2=>((RX.out.low B' W h1 h2).trans (hb.mono (by have:=zl; omega))).setCell (p:=⟨g,(f+k) * 7+6,aj⟩) h1 _);have R9:=D (show (L.set (f+k) (y1,y2,y3,y4,(yo,yn,yc),y6,aH))[f+k]?=O (y1,y2,y3,y4,(yo,yn,yc),y6,aH) from aV (Q.1 HY.out).1);have US:=D (show lu.length<=1000 by
      have h1:lu.length=us.length:=hu2.len;have h2:=tO r k;rw [SS.out] at h2;simp only at h2;omega)
     have PO:=D (gJ (Nc.out e (by
      have h:=HM.out;rw [aB,aJ (by rw [K5.out]; omega),K5.out,aC,aL (by rw [RK.out]; exact hlt)] at h;exact ak h)))
     have AS:=D (show (a++r'++c).set (f+k) (wW e)=a++r'.set k (wW e)++c by
      rw [aB,List.set_append_right _ _ (by rw [K5.out]; omega),K5.out,aC,List.set_append_left _ _ (by rw [RK.out]; exact hlt),aB])
     clear hu1 hu2 o4 bt hg3 G1 G2 c0 c1 c2 c3 c4 c5 c6 fr;go_upto_region 7 with fail;clear d6 f6 z3 hb;generalize w3.setCell ⟨g,(f+k) * 7+6,aj⟩ (aU aH)=w4 at *;have cc:=gI jI O4.out R9.out w4 (Below.refl _ _);have c0:=cc 0 _ rfl;have c1:=cc 1 _ rfl;have c2:=cc 2 _ rfl;have c3:=cc 3 _ rfl;have c4:=cc 4 _ rfl;have c5:=cc 5 _ rfl;have c6:=cc 6 _ rfl;simp [Addr.add,EN] at c0 c1 c2 c3 c4 c5 c6;have X4:=D (show kL w0 B w4 (y1,y2,y3,y4,(yo,yn,yc),y6,aH) (wW e) from by
      obtain⟨y',h1,h2⟩:=A4.out.at (f+k) (wW e) (aV (Q.1 HM.out).1);rw [R9.out] at h1;rw [ay h1];exact h2)
     have CP:=D (vE (y1,y2,y3,y4,(yo,yn,yc),y6,aH) e.p w4 (rA X4.out (L4.out _ _ HB.out W0.out)).2.2.2.2 PO.out);clear cc;go_wp2_with fail;refine CP.out.mono ?_;rintro e5 w5 ⟨⟨⟨u1,u2,u3⟩,rfl,ho⟩,hb⟩;have Sc:=B4.out.2;obtain⟨v',w',r7,o',a',bl,hof⟩:=K4 (w0:=w0) (B:=w.heap.size) (y1,y2,y3,y4,(u1,u2,u3),y6,aH) (wW e) (Bk.dw U4.out hb) (V4.out.mono fun _ _ q=>q.grow hb) ⟨X4.out.1,X4.out.2.1,X4.out.2.2.1,X4.out.2.2.2.1,Or.inr (dn ho Sc)⟩ US.out (by have:=hb.size; omega);have nb:=iM w5 (au (gu (y1,y2,y3,y4,(u1,u2,u3),y6,aH)).toArray 67);have hbk:=vL U4.out;have Nf:=D (show Ra w0 w w' B g n cap a c (eO r (k+1)) v' from by
      rw [RE.out,if_neg (by simp)];have hg5:=fP (Bk.dw (Bk.dw O4.out hb) nb);refine⟨⟨_,IB hof (Bk.dw (Bk.dw O4.out hb) nb) fun e=>?_,?_⟩,⟨_,o',a'⟩,But.off ((B4.out.trans (But.of_below hb)).trans (But.of_below nb)) hof hbk,fun B' W h1 h2=>bl B' W (by omega) ((L4.out B' W h1 h2).trans (hb.mono (by omega)))⟩
      ·have:=hbk g e.symm;omega
      ·rw [<- AS.out];have tg:=fH (Bk.dw (Bk.dw U4.out hb) nb);exact A4.out.mono fun _ _ q=>(((q.grow hb).grow nb).off hof tg (by decide)))
     clear CP hb ho o' a' bl hof nb hbk c0 c1 c2 c3 c4 c5 c6 ix Sc;go_wp2_with (first | (at_builtin; refine wpList_append_run rfl _ _ 27 rfl rfl rfl r7 ?_) | fail)
     go_roundw
     case rel=>exact⟨k+1,by omega,by go_num,Nf.out⟩
     case measure=>simp [intOf]; omega
    ·have Nf:=D (show Ra w0 w w3 B g n cap a c (eO r (k+1)) _ from by
      rw [RE.out,if_pos (Or.inr rfl)];obtain⟨q1,q2,q3,q4⟩:=RX.out;exact⟨by obtain⟨l,h1,h2⟩:=q1; exact⟨l,Bk.dw h1 hb,h2.mono fun _ _ q=>q.grow hb⟩,by obtain⟨l,h1,h2⟩:=q2; exact⟨l,Bk.dw h1 hb,h2.mono fun _ _ q=>q.grow hb⟩,q3.trans (But.of_below hb),fun B' W h1 h2=>(q4 B' W h1 h2).trans (hb.mono (by have:=zl; omega))⟩)
     clear hb c0 c1 c2 c3 c4 c5 c6 fr ix;go_wp2
     go_roundw
     case rel=>exact⟨k+1,by omega,by go_num,Nf.out⟩
     case measure=>simp [intOf]; omega
   ·clear CV;have Nf:=D (show Ra w0 w wr B g n cap a c (eO r (k+1)) _ from by
     rw [RE.out,if_pos (Or.inl rfl)];exact RX.out)
    go_wp2
    go_roundw
    case rel=>exact⟨k+1,by omega,by go_num,Nf.out⟩
    case measure=>simp [intOf]; omega
  ·obtain rfl:K=k:=by omega
   obtain⟨lu,hu,_⟩:=RX.out.up;obtain⟨Pk,Pm,hv⟩:=(Row.dx hu).len;subst hv;clear hu;go_wp2;go_ret;exact⟨(Pk,_,Pm),rfl,RX.out⟩
end Sb
namespace Bk
open Go.RowKit Go.Sort Rw YtghlpefopidlaaaGreat.Nm Pr
end Bk
namespace Bk
open Go.RowKit Go.Sort Rw YtghlpefopidlaaaGreat.Nm Pr
end Bk
end Go.Proofs.YtghlpefopidlaaaGreat
