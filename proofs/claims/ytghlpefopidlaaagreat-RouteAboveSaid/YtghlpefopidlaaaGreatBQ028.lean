/-
  place and branch of . Conditions as told.
-/
import Derived.Test.YtghlpefopidlaaaGreatBQ027
set_option maxRecDepth 100000
set_option maxHeartbeats 64000000
open _root_.Bool renaming false->aJ,true->aK
open _root_.Go renaming cell_regrown->O,below_regrown->aO,World->aP,Calls->aQ
open Go.IntKind renaming i64->U
open Go.Lib renaming hid->J
open Go.Obj renaming cells->aj
open Go.Proofs.Tryz renaming prog->aF
open Go.Value renaming int->Q,pointer->ak,slice->aB
open _root_.List renaming getElem?_eq_getElem->D,getElem?_eq_some_iff->L,takeWhile_cons->V,takeWhile_sublist->ah,length_take->au,length_drop->ay,getElem?_drop->aC,getElem?_cons_zero->aG,getElem?_toArray->aH,take_append_drop->aI,getElem?_map->aM,length_cons->aN
open _root_.Option renaming some->K,none->aD
open Option.some renaming inj->aA
namespace Go.Proofs.YtghlpefopidlaaaGreat
namespace Sb
open Go.RowKit Go.Sort Rw YtghlpefopidlaaaGreat.Nm Pr Bk Av
theorem gZ {α:Type} {E:Ek α} {W:aP} {so:Option Addr} {sn sc:Nat} {l:List α} (h:Row E W (aB so sn sc) l):l.length=sn:=by
 obtain⟨ao,ac,hv⟩:=h.len;simp at hv;exact hv.2.1.symm
theorem jA {W:aP} {l:List jl} {m:List En} (h:eT (kP W) l m) {i:Nat} {y:jl} (hy:l[i]?=K y):∃ e,m[i]?=K e/\Co y=dM e/\kP W y e:=by
 have hlt:=(L.1 hy).1;obtain⟨e,he⟩:∃ e,m[i]?=K e:=⟨_,D (by rw [<- h.len]; exact hlt)⟩;obtain⟨y',hy',hx⟩:=h.at i e he;rw [hy] at hy';obtain rfl:=aA hy';exact⟨e,he,Prod.ext hx.1 hx.2.1,hx⟩
theorem sZ {m:List En} (hr:gK m) {i j:Nat} {x y:En} (hij:i<j) (hx:m[i]?=K x) (hy:m[j]?=K y):uK x y<0:=by
 obtain⟨h1,rfl⟩:=L.1 hx;obtain⟨h2,rfl⟩:=L.1 hy;exact List.pairwise_iff_getElem.1 hr i j h1 h2 hij
theorem nC (l:List (dV×dV)) (x:dV×dV):dY l x<=l.length:=(ah _).length_le
theorem rO {m:List En} (hr:gK m) (x:dV×dV) {i:Nat} {e:En} (hi:dY (m.map dM) x<=i) (he:m[i]?=K e):iW (dM e) x=aJ:=by
 have hlt:=(L.1 he).1;obtain⟨z,hz⟩:∃ z,m[dY (m.map dM) x]?=K z:=⟨_,D (by omega)⟩;have h0:=sU (m.map dM) x (dM z) (by rw [aM,hz]; rfl);rcases Nat.lt_or_ge (dY (m.map dM) x) i with h|h
 ·have h1:=sZ hr h hz he;cases hq:iW (dM e) x with
  | false=>rfl
  | true =>
   rw [<- kg] at h1;have h2:uK z ⟨x.1,x.2,[],0,aJ⟩<0:=Ap z e ⟨x.1,x.2,[],0,aJ⟩ ((kg z e).1 h1) ((kg e ⟨x.1,x.2,[],0,aJ⟩).1 hq);rw [<- kg] at h2;rw [show iW (dM z) x=aK from h2] at h0;cases h0
 ·have e1:i=dY (m.map dM) x:=by omega
  rw [e1,hz] at he;rw [<- aA he];exact h0
theorem ze (v:Sl) (l:List jl) (m:List En) (t s:dV) (w:aP) (hv:mP w (dQ v) l) (hA:eT (kP w) l m) (hr:gK m) (hl:l.length<=1000) :
  aQ aF 89 #[dQ v,oK t,oK s] w fun e w'=>e=.returned (.tuple #[Q U (dY (m.map dM) (t,s)),.bool (iF m t s)])/\Below w.heap.size w w':=by
 obtain⟨so,n,sc⟩:=v;have hn:l.length=n:=gZ hv;obtain⟨c,d⟩:=t;obtain⟨g,h⟩:=s;obtain⟨k,hk⟩:∃ k,dY (m.map dM) ((c,d),(g,h))=k:=⟨_,rfl⟩;obtain⟨th,hth⟩:∃ k,iF m (c,d) (g,h)=k:=⟨_,rfl⟩;have hkn:k<=n:=by rw [<- hk,<- hn,hA.len]; simpa using nC (m.map dM) ((c,d),(g,h))
 rw [hk,hth];obtain⟨h0,X,Y,Z⟩:=ji w #[aB so n sc] #[Q U c,Q U d] #[Q U g,Q U h] 27 23 23;have BB:=J h0;have HV:=J (hv.on h0);have HA:=J (hA.mono fun _ _ q=>q.on h0);have X1:=J X;have Y1:=J Y;have Z1:=J Z;have x0:=X.cell 0;simp only [aH,aG] at x0;have HF:=J (show ∀ i,i<n->∀ W,Below (((w.alloc (aj #[aB so n sc] 27)).alloc (aj #[Q U c,Q U d] 23)).alloc (aj #[Q U g,Q U h] 23)).heap.size (((w.alloc (aj #[aB so n sc] 27)).alloc (aj #[Q U c,Q U d] 23)).alloc (aj #[Q U g,Q U h] 23)) W ->
   aQ aF 136 (#[Q U i]++#[ak (K ⟨w.heap.size,0,aD⟩),ak (K ⟨w.heap.size+1,0,aD⟩),ak (K ⟨w.heap.size+1+1,0,aD⟩)]) W fun e w'=>e=.returned (.bool ((fun i=>match l[i]? with | some y=>!iW (Co y) ((c,d),(g,h)) | none=>aK) i))/\Below W.heap.size W w' from fun i hi W hb=>by
  obtain⟨y,hy⟩:∃ y,l[i]?=K y:=⟨_,D (by omega)⟩;refine Qq i _ _ _ so n sc l (c,d) (g,h) y _ W (HV.out.on hb) hn hy ?_ (X1.out.on hb) (Y1.out.on hb) (Z1.out.on hb);simp only [hy])
 have RF:=J (show ∀ i,i<k->(fun i=>match l[i]? with | some y=>!iW (Co y) ((c,d),(g,h)) | none=>aK) i=aJ from fun i hi=>by
  obtain⟨y,hy⟩:∃ y,l[i]?=K y:=⟨_,D (by omega)⟩;obtain⟨e,he,hke,_⟩:=jA HA.out hy;have h1:=nG (m.map dM) ((c,d),(g,h)) i (dM e) (by rw [hk]; exact hi) (by rw [aM,he]; rfl);simp only [hy,hke,h1]
  rfl)
 have RH:=J (show ∀ i,k<=i->i<n->(fun i=>match l[i]? with | some y=>!iW (Co y) ((c,d),(g,h)) | none=>aK) i=aK from fun i hi hi2=>by
  obtain⟨y,hy⟩:∃ y,l[i]?=K y:=⟨_,D (by omega)⟩;obtain⟨e,he,hke,_⟩:=jA HA.out hy;have h1:=Sb.rO hr ((c,d),(g,h)) (by rw [hk]; exact hi) he;simp only [hy,hke,h1]
  rfl)
 have HK:=J hk;have HT:=J hth;have HN:=J hn;have ln:n<=1000:=by omega
 clear hv hA h0 X Y Z hk hth hl hn hr;go_enter Tryz.func89,Tryz.ntmps89;go_wp2_with fail;generalize ((w.alloc (aj #[aB so n sc] 27)).alloc (aj #[Q U c,Q U d] 23)).alloc (aj #[Q U g,Q U h] 23)=W at *;refine (qP 136 #[ak (K ⟨w.heap.size,0,aD⟩),ak (K ⟨w.heap.size+1,0,aD⟩),ak (K ⟨w.heap.size+1+1,0,aD⟩)] Qo n k _ W (by omega) HF.out hkn RF.out RH.out).mono ?_;rintro e1 w1 ⟨rfl,hb⟩;have BN:=J (fun dq osq=>(BB.out.trans (hb.mono BB.out.size)).trans ((aO w1 dq osq).mono (BB.out.trans (hb.mono BB.out.size)).size));have a0:=O (show w1.cell? ⟨w.heap.size,0,aD⟩=K (aB so n sc) from (X1.out.on hb).cell 0);have b0:=O (show w1.cell? ⟨w.heap.size+1,0,aD⟩=K (Q U c) from (Y1.out.on hb).cell 0);have b1:=O (show w1.cell? ⟨w.heap.size+1,1,aD⟩=K (Q U d) from (Y1.out.on hb).cell 1);have c0:=O (show w1.cell? ⟨w.heap.size+1+1,0,aD⟩=K (Q U g) from (Z1.out.on hb).cell 0);have c1:=O (show w1.cell? ⟨w.heap.size+1+1,1,aD⟩=K (Q U h) from (Z1.out.on hb).cell 1);clear x0 HF RF RH;by_cases hkl:k<n
 ·obtain⟨y,hy⟩:∃ y,l[k]?=K y:=⟨_,D (by rw [HN.out]; exact hkl)⟩;obtain⟨p,ix,p0,p1,p2,p3,p4,p5,p6⟩:=wm HV.out rfl HN.out hy hb;have TH:=J (show th=decide (Co y=((c,d),(g,h))) from by
   obtain⟨e,he,hke,_⟩:=jA HA.out hy;rw [<- HT.out,iF,HK.out,he,hke])
  have g4:decide ((k:Int)<(n:Int))=aK:=by simp; omega
  obtain⟨y1,y2,y3,y4,⟨yo,yn,yc⟩,y6,y7⟩:=y;simp only at p0 p1 p2 p3;clear p4 p5 p6 hb hy;obtain⟨r1,hr1⟩:∃ r,(y1 == c && y2 == d)=r:=⟨_,rfl⟩;obtain⟨r2,hr2⟩:∃ r,(y3 == g && y4 == h)=r:=⟨_,rfl⟩;have e1:=Ae y1 y2 c d r1 hr1;have e2:=Ae y3 y4 g h r2 hr2;have R:=J (show th=(r1 && r2) from by
   rw [TH.out,<- hr1,<- hr2,Bool.eq_iff_iff];simp only [decide_eq_true_eq,Bool.and_eq_true,beq_iff_eq,Prod.mk.injEq])
  clear hr1 hr2 TH HT;cases r1 <;> cases r2
  all_goals
   go_wp2;refine wp_region_quiet_below (by kernel_rfl) (by kernel_rfl) ?_
   repeat (go_big_quiet_step (fail))
   refine wpQuiet_nil ?_;intro _ hw';obtain⟨⟨dq,osq⟩,hw''⟩:=hw';subst hw'';go_wp2
   go_ret2
   exact⟨by rw [R.out]; rfl,BN.out _ _⟩
 ·have TH:=J (show th=aJ from by
   rw [<- HT.out,iF,HK.out,List.getElem?_eq_none (by rw [<- HA.out.len,HN.out]; omega)])
  have g4:decide ((k:Int)<(n:Int))=aJ:=by simp; omega
  clear hb HT;go_wp2;refine wp_region_quiet_below (by kernel_rfl) (by kernel_rfl) ?_
  repeat (go_big_quiet_step (fail))
  refine wpQuiet_nil ?_;intro _ hw';obtain⟨⟨dq,osq⟩,hw''⟩:=hw';subst hw'';go_wp2
  go_ret2
  exact⟨by rw [TH.out]; rfl,BN.out _ _⟩
def cutV (v:Sl) (f k:Nat):Sl:=match v with
 | (K a,_,c)=>(K (if c=f then a else a.add (f * 7)),k,c-f)
 | (aD,_,_)=>(aD,0,0)
theorem Mt {α:Type} (p:α->Bool):∀ (l:List α) (j:Nat) (y:α),j<(l.takeWhile p).length->l[j]?=K y->p y=aK
 | [],_,_,_,h=>by simp at h
 | a::l,j,y,hj,h=>by
  by_cases ha:p a=aK
  ·rw [V,if_pos ha,aN] at hj;cases j with
   | zero=>rw [<- aA (show K a=K y from h)]; exact ha
   | succ j=>exact Mt p l j y (by omega) (by simpa using h)
  ·rw [V,if_neg ha] at hj;simp at hj
theorem Mv {α:Type} (p:α->Bool):∀ (l:List α) (y:α),l[(l.takeWhile p).length]?=K y->p y=aJ
 | [],_,h=>by simp at h
 | a::l,y,h=>by
  by_cases ha:p a=aK
  ·rw [V,if_pos ha,aN] at h;exact Mv p l y (by simpa using h)
  ·rw [V,if_neg ha] at h;rw [<- aA (show K a=K y from h)];simpa using ha
theorem Jt (a:Addr) (f e len cap:Nat) (h:f<=e) (h6:e<=cap) (w:aP):(Instr.sliceAt 27 (aB (K a) len cap) (K (Q U f)) (K (Q U e)) aD).run aF w=.ok (dQ (cutV (K a,len,cap) f (e-f))) w:=by
 have h1:(f:Int)<=(e:Int):=by omega
 have h3:(e:Int)<=cap:=by omega
 obtain⟨i,i1,i2,i3,i4⟩:=lY.info;have Pw:Tryz.prog.info? 67=K i:=i1;have hu':Tryz.prog.underlying 27=K (.slice 67):=lY.hu;have Bn:i.size=7:=i3;by_cases he:cap=f
 ·subst he;obtain rfl:e=cap:=by omega
  simp [go_sem,hu',sizeOf,typeInfo,Pw,Bn,cutV]
 ·simp [go_sem,hu',sizeOf,typeInfo,Pw,Bn,cutV,he,h,h6]
theorem Au {W:aP} {v:Sl} {l:List jl} (h:mP W (dQ v) l) (f k:Nat) (hk:f+k<=l.length) :
  (∀ w,(Instr.sliceAt 27 (dQ v) (K (Q U f)) (K (Q U ((f+k:Nat):Int))) aD).run aF w=.ok (dQ (cutV v f k)) w)/\mP W (dQ (cutV v f k)) ((l.drop f).take k):=by
 obtain⟨so,sn,sc⟩:=v;rcases h with⟨rfl,hv⟩|⟨a,cap,hv,h2,h3,h4⟩
 ·obtain⟨rfl,rfl,rfl⟩:so=aD/\sn=0/\sc=0:=by simpa using hv
  obtain⟨rfl,rfl⟩:f=0/\k=0:=by simp at hk; omega
  refine⟨fun w=>?_,Or.inl ⟨rfl,rfl⟩⟩;obtain⟨i,i1,i2,i3,i4⟩:=lY.info;have Pw:Tryz.prog.info? 67=K i:=i1;have hu':Tryz.prog.underlying 27=K (.slice 67):=lY.hu;simp [go_sem,hu',sizeOf,typeInfo,Pw,cutV]
 ·obtain⟨rfl,rfl,rfl⟩:so=K a/\sn=l.length/\sc=cap:=by simpa using hv
  refine⟨fun w=>by have h:=Jt a f (f+k) l.length sc (Nat.le_add_right _ _) (Nat.le_trans hk h2) w; rwa [Nat.add_sub_cancel_left] at h,?_⟩;refine Or.inr ⟨(if sc=f then a else a.add (f * 7)),sc-f,?_,?_,by omega,fun j u hj=>?_⟩
  ·have e:((l.drop f).take k).length=k:=by rw [au,ay]; omega
   rw [e]
   rfl
  ·rw [au,ay]; omega
  ·have hlt:=(L.1 hj).1;have hlen:(flat EN ((l.drop f).take k)).length=k * 7:=by
    rw [dJ lY,au,ay];show _ * 7=_;rw [show min k (l.length-f)=k by omega]
   rw [hlen] at hlt;rw [if_neg (by omega),add_add];refine h4 _ u ?_;have e1:flat EN l=flat EN (l.take f)++(flat EN ((l.drop f).take k)++flat EN ((l.drop f).drop k)):=by
    rw [<- fC,aI,<- fC,aI]
   have e2:(flat EN (l.take f)).length=f * 7:=by
    rw [dJ lY,au];show _ * 7=_;rw [show min f l.length=f by omega]
   rw [e1,List.getElem?_append_right (by rw [e2]; omega),e2,show f * 7+j-f * 7=j by omega,List.getElem?_append_left (by rw [hlen]; exact hlt)];exact hj
theorem qd (m:List En) (t:dV):gL m t+(kK m t).length<=m.length:=by
 have h1:(kK m t).length<=(m.drop (gL m t)).length:=(ah _).length_le;have h2:gL m t<=m.length:=(ah _).length_le;rw [ay] at h1;omega
theorem qQ (v:Sl) (l:List jl) (m:List En) (t:dV) (w:aP) (hv:mP w (dQ v) l) (hA:eT (kP w) l m) (hr:gK m) (hl:l.length<=1000) :
  aQ aF 84 #[dQ v,oK t] w fun e w'=>e=.returned (dQ (cutV v (gL m t) (kK m t).length))/\Below w.heap.size w w':=by
 have Un:=qd m t;have hML:l.length=m.length:=hA.len;obtain⟨f,hf⟩:∃ f,gL m t=f:=⟨_,rfl⟩;obtain⟨k,hk⟩:∃ k,(kK m t).length=k:=⟨_,rfl⟩;rw [hf,hk] at Un ⊢;have RC:=J ((Au hv f k (by omega)).1);obtain⟨so,n,sc⟩:=v;generalize cutV (so,n,sc) f k=z at RC ⊢;obtain⟨z1,z2,z3⟩:=z;have hn:l.length=n:=gZ hv;obtain⟨c,d⟩:=t;obtain⟨h0,X,Y⟩:=jd w #[aB so n sc] #[Q U c,Q U d] 27 23;have BB:=J h0;have HV:=J (hv.on h0);have HA:=J (hA.mono fun _ _ q=>q.on h0);have X1:=J X;have Y1:=J Y;have x0:=X.cell 0;simp only [aH,aG] at x0;have FL:∀ (i:Nat) (e:En),i<f->m[i]?=K e->dP e.tree (c,d)=aK:=fun i e hi he=>Mt (fun e:En=>dP e.tree (c,d)) m i e (by unfold gL at hf; omega) he;have FH:∀ (i:Nat) (e:En),f<=i->m[i]?=K e->dP e.tree (c,d)=aJ:=fun i e hi he=>by
  refine Fg (c,d) hr e ?_;rw [<- vY];unfold gL at hf;rw [hf];exact List.mem_of_getElem? (show (m.drop f)[i-f]?=K e by rw [aC,show f+(i-f)=i by omega]; exact he)
 have BL:=J (show ∀ (i:Nat) (e:En),i<k->m[f+i]?=K e->e.tree=(c,d) from fun i e hi he=>by
  have:=Mt (fun e:En=>decide (e.tree=(c,d))) (m.drop f) i e (by unfold kK at hk; rw [hf] at hk; omega) (by rw [aC]; exact he);exact of_decide_eq_true this)
 have BH:=J (show ∀ (e:En),m[f+k]?=K e->e.tree≠(c,d) from fun e he=>by
  have:=Mv (fun e:En=>decide (e.tree=(c,d))) (m.drop f) e (by unfold kK at hk; rw [hf] at hk; rw [hk,aC]; exact he);exact of_decide_eq_false this)
 have HF:=J (show ∀ i,i<n->∀ W,Below ((w.alloc (aj #[aB so n sc] 27)).alloc (aj #[Q U c,Q U d] 23)).heap.size ((w.alloc (aj #[aB so n sc] 27)).alloc (aj #[Q U c,Q U d] 23)) W ->
   aQ aF 132 (#[Q U i]++#[ak (K ⟨w.heap.size,0,aD⟩),ak (K ⟨w.heap.size+1,0,aD⟩)]) W fun e w'=>e=.returned (.bool ((fun i=>match l[i]? with | some y=>!dP (y.1,y.2.1) (c,d) | none=>aK) i))/\Below W.heap.size W w' from fun i hi W hb=>by
  obtain⟨y,hy⟩:∃ y,l[i]?=K y:=⟨_,D (by omega)⟩;refine Qr i _ _ so n sc l (c,d) y _ W (HV.out.on hb) hn hy ?_ (X1.out.on hb) (Y1.out.on hb);simp only [hy])
 have RF:=J (show ∀ i,i<f->(fun i=>match l[i]? with | some y=>!dP (y.1,y.2.1) (c,d) | none=>aK) i=aJ from fun i hi=>by
  obtain⟨y,hy⟩:∃ y,l[i]?=K y:=⟨_,D (by omega)⟩;obtain⟨e,he,hke,hx⟩:=jA HA.out hy;have h1:=FL i e hi he;rw [<- hx.1] at h1;simp only [hy,h1]
  rfl)
 have RH:=J (show ∀ i,f<=i->i<n->(fun i=>match l[i]? with | some y=>!dP (y.1,y.2.1) (c,d) | none=>aK) i=aK from fun i hi hi2=>by
  obtain⟨y,hy⟩:∃ y,l[i]?=K y:=⟨_,D (by omega)⟩;obtain⟨e,he,hke,hx⟩:=jA HA.out hy;have h1:=FH i e hi he;rw [<- hx.1] at h1;simp only [hy,h1]
  rfl)
 have HN:=J hn;have ln:n<=1000:=by omega
 have ac8:f+k<=n:=by omega
 clear hv hA h0 X Y hk hf hl hn hr Un hML FL FH;go_enter Tryz.func84,Tryz.ntmps84;go_wp2_with fail;generalize (w.alloc (aj #[aB so n sc] 27)).alloc (aj #[Q U c,Q U d] 23)=W at *;refine (qP 132 #[ak (K ⟨w.heap.size,0,aD⟩),ak (K ⟨w.heap.size+1,0,aD⟩)] Qp n f _ W (by omega) HF.out (by omega) RF.out RH.out).mono ?_;rintro e1 w1 ⟨rfl,hb⟩;have B1:=J hb;clear x0 HF RF RH hb;go_wp2
 go_loopw [6] (fun i wr=>∃ j:Nat,j<=k/\i=Q U ((f+j:Nat):Int)/\Below W.heap.size W wr) (fun i _=>f+k-(intOf i).toNat)
 case atStart=>exact⟨0,Nat.zero_le _,by simp,B1.out⟩
 case round =>
  obtain⟨j,hj,rfl,hbe⟩:=hrel;have BE:=J hbe;have a0:=O (show wr.cell? ⟨w.heap.size,0,aD⟩=K (aB so n sc) from (X1.out.on hbe).cell 0);have b0:=O (show wr.cell? ⟨w.heap.size+1,0,aD⟩=K (Q U c) from (Y1.out.on hbe).cell 0);have b1:=O (show wr.cell? ⟨w.heap.size+1,1,aD⟩=K (Q U d) from (Y1.out.on hbe).cell 1);have BN:=J (fun dq osq=>BE.out.trans ((aO wr dq osq).mono BE.out.size));clear hbe;by_cases hjk:j<k
  ·obtain⟨y,hy⟩:∃ y,l[f+j]?=K y:=⟨_,D (by rw [HN.out]; omega)⟩;obtain⟨p,ix,p0,p1,p2,p3,p4,p5,p6⟩:=wm HV.out rfl HN.out hy BE.out;obtain⟨e,he,_,hx⟩:=jA HA.out hy;have ht:(y.1,y.2.1)=(c,d):=hx.1.trans (BL.out j e hjk he);have hjn:f+j<n:=by omega
   have g4:decide (((f+j:Nat):Int)<(n:Int))=aK:=by simp; omega
   have hw3:IntKind.i64.wrap (((f+j:Nat):Int)+1)=((f+(j+1):Nat):Int):=by rw [IntWalk.i64_in _ (by omega)]; omega
   obtain⟨y1,y2,y3,y4,⟨yo,yn,yc⟩,y6,y7⟩:=y;obtain⟨rfl,rfl⟩:y1=c/\y2=d:=by simpa using ht
   simp only at p0 p1;have e1:=Ae y1 y2 y1 y2 aK (by simp);clear p2 p3 p4 p5 p6 hy he hx ht;generalize hq:f+j=q at *;have HQ:=J hq;clear hq;go_wp2;refine wp_region_quiet_below (by kernel_rfl) (by kernel_rfl) ?_
   repeat (go_big_quiet_step (fail))
   refine wpQuiet_nil ?_;intro _ hw';obtain⟨⟨dq,osq⟩,hw''⟩:=hw';subst hw'';go_wp2
   go_roundw
   case rel=>exact⟨j+1,by omega,by rfl,BN.out _ _⟩
   case measure =>
    have hq:=HQ.out;simp [intOf];omega
  ·obtain rfl:j=k:=by omega
   have VB:=RC.out;by_cases hjn:f+j<n
   ·obtain⟨y,hy⟩:∃ y,l[f+j]?=K y:=⟨_,D (by rw [HN.out]; omega)⟩;obtain⟨p,ix,p0,p1,p2,p3,p4,p5,p6⟩:=wm HV.out rfl HN.out hy BE.out;obtain⟨e,he,_,hx⟩:=jA HA.out hy;have ht:(y.1,y.2.1)≠(c,d):=fun q=>BH.out e he (hx.1.symm.trans q);have g4:decide (((f+j:Nat):Int)<(n:Int))=aK:=by simp; omega
    obtain⟨y1,y2,y3,y4,⟨yo,yn,yc⟩,y6,y7⟩:=y;simp only at p0 p1;have e1:=Ae y1 y2 c d aJ (Bool.eq_false_iff.2 fun h=>ht (by simp at h; rw [h.1,h.2]));clear p2 p3 p4 p5 p6 hy he hx ht;generalize f+j=q at *;go_wp2;refine wp_region_quiet_below (by kernel_rfl) (by kernel_rfl) ?_
    repeat (go_big_quiet_step (fail))
    refine wpQuiet_nil ?_;intro _ hw';obtain⟨⟨dq,osq⟩,hw''⟩:=hw';subst hw'';have a0:=a0 dq osq;go_wp2;go_ret;exact⟨rfl,BB.out.trans ((BN.out _ _).mono BB.out.size)⟩
   ·have g4:decide (((f+j:Nat):Int)<(n:Int))=aJ:=by simp; omega
    generalize f+j=q at *;go_wp2;refine wp_region_quiet_below (by kernel_rfl) (by kernel_rfl) ?_
    repeat (go_big_quiet_step (fail))
    refine wpQuiet_nil ?_;intro _ hw';obtain⟨⟨dq,osq⟩,hw''⟩:=hw';subst hw'';have a0:=a0 dq osq;go_wp2;go_ret;exact⟨rfl,BB.out.trans ((BN.out _ _).mono BB.out.size)⟩
end Sb
namespace Bk
open Go.RowKit Go.Sort Rw YtghlpefopidlaaaGreat.Nm Pr
end Bk
namespace Bk
open Go.RowKit Rw YtghlpefopidlaaaGreat.Nm Pr
end Bk
end Go.Proofs.YtghlpefopidlaaaGreat
