/-
  Entries of one tree:. Conditions as told.
-/
import Derived.Test.YtmklifheakemeaaGreatLQ032
import Derived.Test.YtmklifheakemeaaGreatLQ027
import Derived.Shelf.Abstract
set_option maxRecDepth 100000
set_option maxHeartbeats 64000000
open _root_.Bool renaming true->aA,false->aB,eq_false_iff->aR
open _root_.Go renaming World->aT,Calls->aV,Value->bG,Addr->bH
open Go.Ending renaming returned->ah
open Go.IntKind renaming i64->U
open Go.Lib renaming hid->J
open Go.Obj renaming cells->aH
open Go.Proofs.Tryz renaming prog->aj,ntmps125->bf,func125->bg,func124->bq,func119->bF
open Go.Value renaming int->Q,pointer->ak,slice->au,bool->aQ
open _root_.List renaming getElem?_eq_getElem->D,getElem?_eq_some_iff->K,takeWhile_cons->O,getElem?_map->ay,dropWhile_cons->aC,getElem?_cons_zero->aF,takeWhile_sublist->aG,takeWhile_append_dropWhile->aI,take_append_drop->aJ,getElem?_toArray->aK,length_cons->aL,length_take->aM,length_drop->aN,getElem?_drop->aO,pairwise_iff_getElem->aP,all_eq_true->aS,mem_of_getElem?->aU,pairwise_cons->aW,all_takeWhile->aX,filter_append->aY,mem_cons->aZ
open _root_.Option renaming some->L,none->aD
open Option.some renaming inj->V
namespace Go.Proofs.YtmklifheakemeaaGreat.Sb
open Go.RowKit Go.Sort Rw YtmklifheakemeaaGreat.Nm Pr Bk Av
abbrev iX (m:List En):Prop:=m.Pairwise fun x y=>xS x y<0
def iR (m:List En) (t:fB):Nat:=(m.takeWhile fun e=>dY e.tree t).length
def nP (m:List En) (t:fB):List En:=(m.drop (iR m t)).takeWhile fun e=>decide (e.tree=t)
def Cj (r:List En) (p:List C5):Bool:=r.any fun e=>e.up && kM e.p p
def qC (r:List En):Bool:=r.all fun e=>e.up || Cj r e.p
def zV (b:Br):Bool:=b.dV.all fun a=>a.par == -1 || qC (nP b.ent a.id)
theorem vZ:∀ (l:List fB) (x:fB),fE l x=jo l x
 | [],_=>rfl
 | a::l,x=>by rw [fE,jo,vZ l x]
theorem kI (x y:En):iM (fA x) (fA y)=aA↔xS x y<0:=by
 rw [pF];unfold iM;simp [uN]
theorem mW (x:fB×fB):iM x x=aB:=by simp [iM,jf]
def iT (m:List En) (t s:fB):Bool:=match m[dX (m.map fA) (t,s)]? with
 | none=>aB
 | some e=>decide (fA e=(t,s))
theorem mX:∀ (l:List (fB×fB)) (x:fB×fB) (j:Nat) (y:fB×fB),j<dX l x->l[j]?=L y->iM y x=aA
 | [],_,_,_,_,h=>by simp at h
 | a::l,x,j,y,hj,h=>by
  unfold dX at hj;by_cases ha:iM a x=aA
  ·rw [O,if_pos ha,aL] at hj;cases j with
   | zero=>rw [<- V (show L a=L y from h)]; exact ha
   | succ j=>exact mX l x j y (by unfold dX; omega) (by simpa using h)
  ·rw [O,if_neg ha] at hj;simp at hj
theorem sQ:∀ (l:List (fB×fB)) (x y:fB×fB),l[dX l x]?=L y->iM y x=aB
 | [],_,_,h=>by simp [dX] at h
 | a::l,x,y,h=>by
  unfold dX at h;by_cases ha:iM a x=aA
  ·rw [O,if_pos ha,aL] at h;exact sQ l x y (by unfold dX; simpa using h)
  ·rw [O,if_neg ha] at h;rw [<- V (show L a=L y from h)];simpa using ha
theorem wh {m:List En} (hr:iX m) (t s:fB):jo (m.map fA) (t,s)=if iT m t s=aA then (dX (m.map fA) (t,s):Int) else -1:=by
 unfold iT;cases hp:m[dX (m.map fA) (t,s)]? with
 | none =>
  rw [if_neg (by simp)];refine qA _ _ fun j y hj e=>?_;have hl:m.length<=dX (m.map fA) (t,s):=List.getElem?_eq_none_iff.1 hp;have hj2:=(K.1 hj).1;rw [List.length_map] at hj2;have h:=mX _ (t,s) j y (by omega) hj;rw [e,mW] at h;cases h
 | some e =>
  have hpk:(m.map fA)[dX (m.map fA) (t,s)]?=L (fA e):=by rw [ay,hp]; rfl
  by_cases he:fA e=(t,s)
  ·simp only [he,decide_true,if_true];rw [he] at hpk;refine A9 _ _ _ hpk fun j z hj hz q=>?_;have h:=mX _ (t,s) j z hj hz;rw [q,mW] at h;cases h
  ·rw [if_neg (by simpa using he)];refine qA _ _ fun j y hj q=>?_;rcases Nat.lt_trichotomy j (dX (m.map fA) (t,s)) with h|h|h
   ·have h:=mX _ (t,s) j y h hj;rw [q,mW] at h;cases h
   ·subst h;rw [hpk] at hj;exact he ((V hj).trans q)
   ·rw [ay] at hj;cases hz:m[j]? with
    | none=>rw [hz] at hj; cases hj
    | some z =>
     rw [hz] at hj;have h1:=aP.1 hr _ _ (K.1 hp).1 (K.1 hz).1 h;rw [(K.1 hp).2,(K.1 hz).2,<- kI] at h1;have h2:=sQ _ _ _ hpk;rw [show fA z=(t,s) from (V hj).trans q] at h1;rw [h1] at h2;cases h2
theorem Hf {x y:En} (h:xS x y<0):dY x.tree y.tree=aA\/x.tree=y.tree:=by
 rcases (pF x y).1 h with q|q
 ·exact Or.inl q
 ·exact Or.inr q.1
theorem wm {α:Type} (p:α->Bool):∀ l:List α,l.drop (l.takeWhile p).length=l.dropWhile p
 | []=>rfl
 | a::l=>by
  by_cases h:p a=aA
  ·simp [h,wm p l]
  ·simp [h]
theorem E5:∀ {m:List En} (t:fB) (_:iX m),∀ e∈m.dropWhile (fun e=>dY e.tree t),dY e.tree t=aB
 | [],_,_,e,h=>by simp at h
 | a::m,t,hr,e,h=>by
  have hr':=aW.1 hr;by_cases ha:dY a.tree t=aA
  ·rw [aC,if_pos ha] at h;exact E5 t hr'.2 e h
  ·rw [aC,if_neg ha] at h;rcases aZ.1 h with rfl|h
   ·simpa using ha
   ·cases hq:dY e.tree t with
    | false=>rfl
    | true =>
     exfalso;rcases Hf (hr'.1 e h) with q|q
     ·exact ha (ig q hq)
     ·exact ha (by rw [q]; exact hq)
theorem Nq:∀ {m:List En} (t:fB) (_:iX m) (_:∀ e∈m,dY e.tree t=aB),∀ e∈m.dropWhile (fun e=>decide (e.tree=t)),dY t e.tree=aA
 | [],_,_,_,e,h=>by simp at h
 | a::m,t,hr,hl,e,h=>by
  have hr':=aW.1 hr;by_cases ha:a.tree=t
  ·rw [aC,if_pos (by simpa using ha)] at h;exact Nq t hr'.2 (fun e he=>hl e (List.mem_cons_of_mem _ he)) e h
  ·rw [aC,if_neg (by simpa using ha)] at h;have hta:dY t a.tree=aA:=by
    rcases lX a.tree t with q|q|q
    ·rw [hl a (by simp)] at q; cases q
    ·exact absurd q ha
    ·exact q
   rcases aZ.1 h with rfl|h
   ·exact hta
   ·rcases Hf (hr'.1 e h) with q|q
    ·exact ig hta q
    ·rw [<- q]; exact hta
theorem Hg {x t:fB} (h:dY x t=aA):x≠t:=by rintro rfl; rw [jf] at h; cases h
theorem Nr {m:List En} (hr:iX m) (t:fB):∃ c,m=m.take (iR m t)++nP m t++c/\(m.take (iR m t)).length=iR m t/\(∀ e∈m.take (iR m t),e.tree≠t)/\(∀ e∈nP m t,e.tree=t)/\(∀ e∈c,e.tree≠t):=by
 have e1:m.take (iR m t)=m.takeWhile fun e=>dY e.tree t:=by
  unfold iR
  conv=>lhs; arg 2; rw [<- aI (p:=fun e:En=>dY e.tree t) (l:=m)]
  rw [List.take_left]
 have e2:m.drop (iR m t)=m.dropWhile fun e=>dY e.tree t:=wm _ _;refine⟨(m.drop (iR m t)).dropWhile fun e=>decide (e.tree=t),?_,?_,?_,?_,?_⟩
 ·unfold nP;rw [List.append_assoc,aI,aJ]
 ·rw [e1]; rfl
 ·rw [e1];intro e he;exact Hg (aS.1 aX e he)
 ·intro e he;unfold nP at he;exact of_decide_eq_true (aS.1 (aX (p:=fun e:En=>decide (e.tree=t))) e he)
 ·rw [e2];intro e he;have h1:iX (m.dropWhile fun e=>dY e.tree t):=hr.sublist (List.dropWhile_sublist _);exact (Hg (Nq t h1 (E5 t hr) e he)).symm
theorem Ck {α:Type} {p:α->Bool} {l:List α} (h:∀ e∈l,p e=aB):l.filter p=[]:=by
 rw [List.filter_eq_nil_iff];intro e he;rw [h e he];simp
theorem pG {m:List En} (hr:iX m) (t:fB):nP m t=m.filter fun e=>decide (e.tree=t):=by
 obtain⟨c,h1,_,h2,h3,h4⟩:=Nr hr t;generalize nP m t=r at *;generalize m.take (iR m t)=a at *;subst h1;rw [aY,aY,Ck (l:=a) fun e he=>by simpa using h2 e he,Ck (l:=c) fun e he=>by simpa using h4 e he,List.nil_append,List.append_nil];exact (List.filter_eq_self.2 fun e he=>by simpa using h3 e he).symm
theorem E8 {m:List En} (hr:iX m) (t:fB) (p:List C5):Cj (nP m t) p=fH m t p:=by
 rw [pG hr,Cj,List.any_filter]
 rfl
theorem Ns {m:List En} (hr:iX m) (t:fB) (e:En):e∈nP m t↔e∈m/\e.tree=t:=by
 rw [pG hr,List.mem_filter,decide_eq_true_eq]
def jS (b:Br):Prop:=∀ a∈b.dV,a.par≠-1->∀ e∈b.ent,e.tree=a.id->e.up=aB->fH b.ent a.id e.p=aA
theorem J2 {b:Br} (hr:iX b.ent):zV b=aA↔jS b:=by
 unfold zV jS qC;simp only [aS,Bool.or_eq_true,beq_iff_eq];constructor
 ·intro h a ha hp e he ht hu;have h1:=(h a ha).resolve_left hp e ((Ns hr _ _).2 ⟨he,ht⟩);rw [E8 hr] at h1;exact h1.resolve_left (by rw [hu]; simp)
 ·intro h a ha;by_cases hp:a.par=-1
  ·exact Or.inl hp
  ·refine Or.inr fun e he=>?_;obtain⟨h1,h2⟩:=(Ns hr _ _).1 he;rw [E8 hr];cases hu:e.up with
   | true=>exact Or.inl rfl
   | false=>exact Or.inr (h a ha hp e h1 h2 hu)
theorem Hl (m:List En) (t:fB) (p:List C5):fH m t p=aA↔∃ e∈m,e.tree=t/\e.up=aA/\kM e.p p=aA:=by
 unfold fH;rw [List.any_eq_true];simp [Mt]
theorem Cm {b:Br} (h:jE b) (a:Ad) (ht:jS b):jS (eO b a).1:=by
 by_cases hin:a.id∈b.seen
 ·rw [sH hin]; exact ht
 ·rw [nM hin];intro y hy hp e he hte hu;rcases (gY _ _ _ _).1 hy with rfl|hy
  ·exfalso;have hk:=h.Yn e he;unfold Cc at hk;cases hf:fT b.dV e.tree with
   | none=>rw [hf] at hk; cases hk
   | some z =>
    obtain⟨z1,z2⟩:=nN hf;exact hin (by rw [<- hte,<- z2]; exact (h.oks z z1).1)
  ·exact ht y hy hp e he hte hu
theorem J3 {b:Br} (h:jE b) (e:En) (ht:jS b):jS (iB b e).1:=by
 unfold iB
 split
 ·exact ht
 ·rename_i a ha
  split
  ·exact ht
  ·rename_i h1
   split
   ·exact ht
   ·split
    ·exact ht
    ·have hid:a.id=e.tree:=by
      rcases mK (b.dV.map Ad.id) e.tree with q|⟨k,q,r⟩
      ·exact absurd (vZ _ _ ▸ q) h1
      ·rw [vZ,q,Int.toNat_natCast] at ha;rw [ay,ha] at r;exact V r
     have hA:a∈b.dV:=aU ha;intro y hy hp z hz hte hu;have more:∀ p,fH b.ent y.id p=aA->fH (fC b.ent (dX (b.ent.map fA) (fA e)) { e with up:=decide (a.par≠-1) && !fH b.ent e.tree e.p }) y.id p=aA:=fun p hp=>by
      obtain⟨q,q1,q2⟩:=(Hl _ _ _).1 hp;exact (Hl _ _ _).2 ⟨q,(gY _ _ _ _).2 (Or.inr q1),q2⟩
     rcases (gY _ _ _ _).1 hz with rfl|hz
     ·have hya:y=a:=by
       have g1:=lH h.dV hA;have g2:=lH h.dV hy;rw [show y.id=a.id from hte.symm.trans hid.symm,g1] at g2;exact (V g2).symm
      have hu':(decide (a.par≠-1) && !fH b.ent e.tree e.p)=aB:=hu;rw [<- hya,decide_eq_true hp,Bool.true_and] at hu';refine more _ ?_;rw [<- show e.tree=y.id from hte];simpa using hu'
     ·exact more _ (ht y hy hp z hz hte hu)
theorem J4 (x:gW) (t s:fB) (r:Bool) (hr:iM (gV x) (t,s)=r) (w:aT):aV aj 125 #[nY x,nU t,nU s] w fun e w'=>e=ah (aQ r)/\Below w.heap.size w w':=by
 obtain⟨y1,y2,y3,y4,⟨yo,yn,yc⟩,y6,y7⟩:=x;obtain⟨c,d⟩:=t;obtain⟨g,h⟩:=s;obtain⟨h0,X,Y,Z⟩:=je w #[Q U y1,Q U y2,Q U y3,Q U y4,au yo yn yc,Q U y6,aQ y7] #[Q U c,Q U d] #[Q U g,Q U h] 66 31 31;have x1:=X.cell 1;have x0:=X.cell 0;have x2:=X.cell 2;have x3:=X.cell 3;obtain⟨c0,c1⟩:=Y.cs2;obtain⟨d0,d1⟩:=Z.cs2;simp only [aK,aF,List.getElem?_cons_succ] at x0 x1 x2 x3;have C1:=su (y1,y2) (c,d);have C2:=su (y3,y4) (g,h);have B:=J h0;have he:iM ((y1,y2),(y3,y4)) ((c,d),(g,h))=if ((y1,y2):fB)=(c,d) then dY (y3,y4) (g,h) else dY (y1,y2) (c,d):=by
  unfold iM;by_cases q:((y1,y2):fB)=(c,d)
  ·rw [if_pos q,q,jf,(uN _ _).2 rfl]; rfl
  ·rw [if_neg q,aR.2 fun q2=>q ((uN _ _).1 q2)]; simp
 clear h0 X Y Z;by_cases q:((y1,y2):fB)=(c,d)
 ·have hr2:=J (show dY (y3,y4) (g,h)=r by rw [<- hr]; show _=iM ((y1,y2),(y3,y4)) ((c,d),(g,h)); rw [he,if_pos q]);obtain⟨rfl,rfl⟩:y1=c/\y2=d:=by simpa using q
  have hne:=XC y1 y2 y1 y2 aB (by simp);clear he hr q;go_enter bg,bf;go_wp2_with fail;refine (C2 _).mono ?_;rintro e w1 ⟨rfl,hb⟩;go_wp2;go_ret;exact⟨congrArg (fun b=>ah (aQ b)) hr2.out,B.out.trans (hb.mono B.out.size)⟩
 ·have hr2:=J (show dY (y1,y2) (c,d)=r by rw [<- hr]; show _=iM ((y1,y2),(y3,y4)) ((c,d),(g,h)); rw [he,if_neg q]);have hne:=XC y1 y2 c d aA (by rw [show (y1 == c && y2 == d)=aB from aR.2 fun h=>q (by simp at h; rw [h.1,h.2])]; rfl);clear he hr q;go_enter bg,bf;go_wp2_with fail;refine (C1 _).mono ?_;rintro e w1 ⟨rfl,hb⟩;go_wp2;go_ret;exact⟨congrArg (fun b=>ah (aQ b)) hr2.out,B.out.trans (hb.mono B.out.size)⟩
theorem wo (g:Nat) (cb:Array bG) (eg:∀ args w,(callFunc g args).run aj w=.ok (.enter g args) w) (n k:Nat) (p:Nat->Bool) (w:aT) (hn:n<=1000000)
  (hf:∀ i,i<n->∀ W,Below w.heap.size w W->aV aj g (#[Q U i]++cb) W fun e w'=>e=ah (aQ (p i))/\Below W.heap.size W w')
  (hk:k<=n) (hlo:∀ i,i<k->p i=aB) (hhi:∀ i,k<=i->i<n->p i=aA) :
  aV aj 118 #[Q U n,.func (.func g) #[] cb] w fun e w'=>e=ah (Q U k)/\Below w.heap.size w w':=by
 have HF:=J hf;have LO:=J hlo;have HI:=J hhi;clear hf hlo hhi;go_enter Tryz.func118,Tryz.ntmps118;go_wp2
 go_loopg [5,6] n (fun kx s5 s6 wr=>∃ lo hi:Nat,s5=Q U lo/\s6=Q U hi/\lo<=k/\k<=hi/\hi<=n/\hi-lo<=kx/\Below w.heap.size w wr)
 case atStart=>exact⟨0,n,rfl,rfl,Nat.zero_le _,hk,Nat.le_refl _,by omega,Below.refl _ _⟩
 case round =>
  obtain⟨lo,hi,rfl,rfl,hlk,hkh,hin,hg,hb⟩:=hrel;have B:=J hb;clear hb;by_cases hlt:lo<hi
  ·have hc:=HF.out ((lo+hi) / 2) (by omega) wr B.out;rw [show (((lo+hi) / 2:Nat):Int)=((lo:Int)+(hi:Int)) / 2 by omega] at hc;cases hp:p ((lo+hi) / 2) <;> rw [hp] at hc
   ·have HP:=J hp;have HK:=J (show (lo+hi) / 2+1<=k from by
     rcases Nat.lt_or_ge ((lo+hi) / 2) k with h|h
     ·exact h
     ·have:=HI.out _ h (by omega); rw [hp] at this; cases this)
    clear hp;go_wp2_with (go_at_fn g; refine hc.mono ?_; rintro e w' ⟨rfl,hb2⟩)
    go_roundg (hi-((lo+hi) / 2+1))
    case measure=>omega
    case rel=>exact⟨(lo+hi) / 2+1,hi,by rw [show ((lo:Int)+(hi:Int)) / 2+1=(((lo+hi) / 2+1:Nat):Int) by omega],rfl,HK.out,hkh,hin,Nat.le_refl _,B.out.trans (hb2.mono B.out.size)⟩
   ·have HP:=J hp;have HK:=J (show k<=(lo+hi) / 2 from by
     rcases Nat.lt_or_ge ((lo+hi) / 2) k with h|h
     ·have:=LO.out _ h; rw [hp] at this; cases this
     ·exact h)
    clear hp;go_wp2_with (go_at_fn g; refine hc.mono ?_; rintro e w' ⟨rfl,hb2⟩)
    go_roundg ((lo+hi) / 2-lo)
    case measure=>omega
    case rel=>exact⟨lo,(lo+hi) / 2,rfl,by rw [show ((lo:Int)+(hi:Int)) / 2=(((lo+hi) / 2:Nat):Int) by omega],hlk,HK.out,by omega,Nat.le_refl _,B.out.trans (hb2.mono B.out.size)⟩
  ·obtain rfl:hi=lo:=by omega
   obtain rfl:hi=k:=by omega
   go_wp2;go_ret;exact⟨rfl,B.out⟩
theorem wu {W W1:aT} {v:bG} {l:List gW} {ao:Option bH} {n c k:Nat} {x:gW} (h:kr W v l) (hv:v=au ao n c) (hn:l.length=n) (hk:l[k]?=L x) (hb:Below W.heap.size W W1) :
  ∃ p:bH,(∀ w,(Instr.indexAt 25 (au ao n c) (Q U k)).run aj w=.ok (ak (L p)) w) /\
   (∀ d os,(grow (redrawn W1 d) os).cell? p=L (Q U x.1))/\(∀ d os,(grow (redrawn W1 d) os).cell? ⟨p.block,p.off+1,aD⟩=L (Q U x.2.1)) /\
   (∀ d os,(grow (redrawn W1 d) os).cell? ⟨p.block,p.off+2,aD⟩=L (Q U x.2.2.1))/\(∀ d os,(grow (redrawn W1 d) os).cell? ⟨p.block,p.off+3,aD⟩=L (Q U x.2.2.2.1)) /\
   (∀ d os,(grow (redrawn W1 d) os).cell? ⟨p.block,p.off+4,aD⟩=L (dO x.2.2.2.2.1))/\(∀ d os,(grow (redrawn W1 d) os).cell? ⟨p.block,p.off+5,aD⟩=L (Q U x.2.2.2.2.2.1)) /\
   (∀ d os,(grow (redrawn W1 d) os).cell? ⟨p.block,p.off+6,aD⟩=L (aQ x.2.2.2.2.2.2)):=by
 obtain⟨p,h1,h2⟩:=KA h hv hn hk;obtain⟨c0,c1,c2,c3,c4,c5,c6⟩:=h2 _ hb;exact⟨p,h1,cell_regrown c0,cell_regrown c1,cell_regrown c2,cell_regrown c3,cell_regrown c4,cell_regrown c5,cell_regrown c6⟩
theorem Rc (args:Array bG) (w:aT):(callFunc 124 args).run aj w=.ok (.enter 124 args) w:=fI bq rfl rfl args w
theorem Rf (args:Array bG) (w:aT):(callFunc 119 args).run aj w=.ok (.enter 119 args) w:=fI bF rfl rfl args w
theorem Rh (i:Nat) (b1 b2 b3:Nat) (ao:Option bH) (n ac:Nat) (l:List gW) (t s:fB) (y:gW) (r:Bool) (w:aT) (hv:kr w (au ao n ac) l) (hn:l.length=n) (hy:l[i]?=L y) (hr:(!iM (gV y) (t,s))=r)
  (h1:dI w b1 #[au ao n ac] 25) (h2:dI w b2 #[Q U t.1,Q U t.2] 31) (h3:dI w b3 #[Q U s.1,Q U s.2] 31) :
  aV aj 124 #[Q U i,ak (L ⟨b1,0,aD⟩),ak (L ⟨b2,0,aD⟩),ak (L ⟨b3,0,aD⟩)] w fun e w'=>e=ah (aQ r)/\Below w.heap.size w w':=by
 obtain⟨p,ix,p0,p1,p2,p3,p4,p5,p6⟩:=wu hv rfl hn hy (Below.refl _ _);have a0:=cell_regrown (h1.cell 0);have b0:=cell_regrown (h2.cell 0);have b1':=cell_regrown (h2.cell 1);have c0:=cell_regrown (h3.cell 0);have c1:=cell_regrown (h3.cell 1);obtain⟨q,hq⟩:∃ q,iM (gV y) (t,s)=q:=⟨_,rfl⟩;have C:∀ k os,aV aj 125 #[nY y,nU t,nU s] (grow (redrawn w k) os) fun e w''=>e=ah (aQ q)/\∃ p:Regrown,w''=grow (redrawn w p.d) p.os:=fun k os=>Calls.regrown_of (J4 y t s q hq _);rw [hq] at hr;have R:=J hr;have BN:=J (fun dq osq=>below_regrown w dq osq);obtain⟨y1,y2,y3,y4,⟨yo,yn,yc⟩,y6,y7⟩:=y;obtain⟨c,d⟩:=t;obtain⟨g,h⟩:=s;simp only at p0 p1 p2 p3 p4 p5 p6 b0 b1' c0 c1 C;clear hv hn hy hr hq h1 h2 h3;go_enter bq,Tryz.ntmps124;go_wp2;refine wp_region_quiet_below (by kernel_rfl) (by kernel_rfl) ?_
 repeat (go_big_quiet_step (first | (with_reducible exact C _ _) | exact Vx _ _))
 refine wpQuiet_nil ?_;intro _ hw';obtain⟨⟨dq,osq⟩,hw''⟩:=hw';subst hw'';go_wp2;go_ret;exact⟨congrArg (fun b=>ah (aQ b)) R.out,BN.out _ _⟩
theorem Ri (i:Nat) (b1 b2:Nat) (ao:Option bH) (n ac:Nat) (l:List gW) (t:fB) (y:gW) (r:Bool) (w:aT) (hv:kr w (au ao n ac) l) (hn:l.length=n) (hy:l[i]?=L y) (hr:(!dY (y.1,y.2.1) t)=r)
  (h1:dI w b1 #[au ao n ac] 25) (h2:dI w b2 #[Q U t.1,Q U t.2] 31) :
  aV aj 119 #[Q U i,ak (L ⟨b1,0,aD⟩),ak (L ⟨b2,0,aD⟩)] w fun e w'=>e=ah (aQ r)/\Below w.heap.size w w':=by
 obtain⟨p,ix,p0,p1,p2,p3,p4,p5,p6⟩:=wu hv rfl hn hy (Below.refl _ _);have a0:=cell_regrown (h1.cell 0);have b0:=cell_regrown (h2.cell 0);have b1':=cell_regrown (h2.cell 1);have C:∀ k os,aV aj 120 #[nU (y.1,y.2.1),nU t] (grow (redrawn w k) os) fun e w''=>e=ah (aQ (dY (y.1,y.2.1) t))/\∃ p:Regrown,w''=grow (redrawn w p.d) p.os:=fun k os=>Calls.regrown_of (su (y.1,y.2.1) t _);generalize dY (y.1,y.2.1) t=q at *;have R:=J hr;have BN:=J (fun dq osq=>below_regrown w dq osq);obtain⟨y1,y2,y3,y4,⟨yo,yn,yc⟩,y6,y7⟩:=y;obtain⟨c,d⟩:=t;simp only at p0 p1 p2 p3 p4 p5 p6 b0 b1' C;clear hv hn hy hr h1 h2 p2 p3 p4 p5 p6;go_enter bF,Tryz.ntmps119;go_wp2;refine wp_region_quiet_below (by kernel_rfl) (by kernel_rfl) ?_
 repeat (go_big_quiet_step (first | (with_reducible exact C _ _) | exact WW _ _))
 refine wpQuiet_nil ?_;intro _ hw';obtain⟨⟨dq,osq⟩,hw''⟩:=hw';subst hw'';go_wp2;go_ret;exact⟨congrArg (fun b=>ah (aQ b)) R.out,BN.out _ _⟩
theorem jT {α:Type} {E:Ek α} {W:aT} {so:Option bH} {sn sc:Nat} {l:List α} (h:Row E W (au so sn sc) l):l.length=sn:=by
 obtain⟨ao,ac,hv⟩:=h.len;simp at hv;exact hv.2.1.symm
theorem jL {W:aT} {l:List gW} {m:List En} (h:eZ (jQ W) l m) {i:Nat} {y:gW} (hy:l[i]?=L y):∃ e,m[i]?=L e/\gV y=fA e/\jQ W y e:=by
 have hlt:=(K.1 hy).1;obtain⟨e,he⟩:∃ e,m[i]?=L e:=⟨_,D (by rw [<- h.len]; exact hlt)⟩;obtain⟨y',hy',hx⟩:=h.at i e he;rw [hy] at hy';obtain rfl:=V hy';exact⟨e,he,Prod.ext hx.1 hx.2.1,hx⟩
theorem sS {m:List En} (hr:iX m) {i j:Nat} {x y:En} (hij:i<j) (hx:m[i]?=L x) (hy:m[j]?=L y):xS x y<0:=by
 obtain⟨h1,rfl⟩:=K.1 hx;obtain⟨h2,rfl⟩:=K.1 hy;exact aP.1 hr i j h1 h2 hij
theorem lF (l:List (fB×fB)) (x:fB×fB):dX l x<=l.length:=(aG _).length_le
theorem qW {m:List En} (hr:iX m) (x:fB×fB) {i:Nat} {e:En} (hi:dX (m.map fA) x<=i) (he:m[i]?=L e):iM (fA e) x=aB:=by
 have hlt:=(K.1 he).1;obtain⟨z,hz⟩:∃ z,m[dX (m.map fA) x]?=L z:=⟨_,D (by omega)⟩;have h0:=sQ (m.map fA) x (fA z) (by rw [ay,hz]; rfl);rcases Nat.lt_or_ge (dX (m.map fA) x) i with h|h
 ·have h1:=sS hr h hz he;cases hq:iM (fA e) x with
  | false=>rfl
  | true =>
   rw [<- kI] at h1;have h2:xS z ⟨x.1,x.2,[],0,aB⟩<0:=EY z e ⟨x.1,x.2,[],0,aB⟩ ((kI z e).1 h1) ((kI e ⟨x.1,x.2,[],0,aB⟩).1 hq);rw [<- kI] at h2;rw [show iM (fA z) x=aA from h2] at h0;cases h0
 ·have e1:i=dX (m.map fA) x:=by omega
  rw [e1,hz] at he;rw [<- V he];exact h0
theorem yX (v:Sl) (l:List gW) (m:List En) (t s:fB) (w:aT) (hv:kr w (dO v) l) (hA:eZ (jQ w) l m) (hr:iX m) (hl:l.length<=1000) :
  aV aj 77 #[dO v,nU t,nU s] w fun e w'=>e=ah (.tuple #[Q U (dX (m.map fA) (t,s)),aQ (iT m t s)])/\Below w.heap.size w w':=by
 obtain⟨so,n,sc⟩:=v;have hn:l.length=n:=jT hv;obtain⟨c,d⟩:=t;obtain⟨g,h⟩:=s;obtain⟨k,hk⟩:∃ k,dX (m.map fA) ((c,d),(g,h))=k:=⟨_,rfl⟩;obtain⟨th,hth⟩:∃ k,iT m (c,d) (g,h)=k:=⟨_,rfl⟩;have hkn:k<=n:=by rw [<- hk,<- hn,hA.len]; simpa using lF (m.map fA) ((c,d),(g,h))
 rw [hk,hth];obtain⟨h0,X,Y,Z⟩:=je w #[au so n sc] #[Q U c,Q U d] #[Q U g,Q U h] 25 31 31;have BB:=J h0;have HV:=J (hv.on h0);have HA:=J (hA.mono fun _ _ q=>q.on h0);have X1:=J X;have Y1:=J Y;have Z1:=J Z;have x0:=X.cell 0;simp only [aK,aF] at x0;have HF:=J (show ∀ i,i<n->∀ W,Below (((w.alloc (aH #[au so n sc] 25)).alloc (aH #[Q U c,Q U d] 31)).alloc (aH #[Q U g,Q U h] 31)).heap.size (((w.alloc (aH #[au so n sc] 25)).alloc (aH #[Q U c,Q U d] 31)).alloc (aH #[Q U g,Q U h] 31)) W ->
   aV aj 124 (#[Q U i]++#[ak (L ⟨w.heap.size,0,aD⟩),ak (L ⟨w.heap.size+1,0,aD⟩),ak (L ⟨w.heap.size+1+1,0,aD⟩)]) W fun e w'=>e=ah (aQ ((fun i=>match l[i]? with | some y=>!iM (gV y) ((c,d),(g,h)) | none=>aA) i))/\Below W.heap.size W w' from fun i hi W hb=>by
  obtain⟨y,hy⟩:∃ y,l[i]?=L y:=⟨_,D (by omega)⟩;refine Rh i _ _ _ so n sc l (c,d) (g,h) y _ W (HV.out.on hb) hn hy ?_ (X1.out.on hb) (Y1.out.on hb) (Z1.out.on hb);simp only [hy])
 have Rj:=J (show ∀ i,i<k->(fun i=>match l[i]? with | some y=>!iM (gV y) ((c,d),(g,h)) | none=>aA) i=aB from fun i hi=>by
  obtain⟨y,hy⟩:∃ y,l[i]?=L y:=⟨_,D (by omega)⟩;obtain⟨e,he,hke,_⟩:=jL HA.out hy;have h1:=mX (m.map fA) ((c,d),(g,h)) i (fA e) (by rw [hk]; exact hi) (by rw [ay,he]; rfl);simp only [hy,hke,h1]
  rfl)
 have YC:=J (show ∀ i,k<=i->i<n->(fun i=>match l[i]? with | some y=>!iM (gV y) ((c,d),(g,h)) | none=>aA) i=aA from fun i hi hi2=>by
  obtain⟨y,hy⟩:∃ y,l[i]?=L y:=⟨_,D (by omega)⟩;obtain⟨e,he,hke,_⟩:=jL HA.out hy;have h1:=Sb.qW hr ((c,d),(g,h)) (by rw [hk]; exact hi) he;simp only [hy,hke,h1]
  rfl)
 have HK:=J hk;have HT:=J hth;have HN:=J hn;have ln:n<=1000:=by omega
 clear hv hA h0 X Y Z hk hth hl hn hr;go_enter Tryz.func77,Tryz.ntmps77;go_wp2_with fail;generalize ((w.alloc (aH #[au so n sc] 25)).alloc (aH #[Q U c,Q U d] 31)).alloc (aH #[Q U g,Q U h] 31)=W at *;refine (wo 124 #[ak (L ⟨w.heap.size,0,aD⟩),ak (L ⟨w.heap.size+1,0,aD⟩),ak (L ⟨w.heap.size+1+1,0,aD⟩)] Rc n k _ W (by omega) HF.out hkn Rj.out YC.out).mono ?_;rintro e1 w1 ⟨rfl,hb⟩;have BN:=J (fun dq osq=>(BB.out.trans (hb.mono BB.out.size)).trans ((below_regrown w1 dq osq).mono (BB.out.trans (hb.mono BB.out.size)).size));have a0:=cell_regrown (show w1.cell? ⟨w.heap.size,0,aD⟩=L (au so n sc) from (X1.out.on hb).cell 0);have b0:=cell_regrown (show w1.cell? ⟨w.heap.size+1,0,aD⟩=L (Q U c) from (Y1.out.on hb).cell 0);have b1:=cell_regrown (show w1.cell? ⟨w.heap.size+1,1,aD⟩=L (Q U d) from (Y1.out.on hb).cell 1);have c0:=cell_regrown (show w1.cell? ⟨w.heap.size+1+1,0,aD⟩=L (Q U g) from (Z1.out.on hb).cell 0);have c1:=cell_regrown (show w1.cell? ⟨w.heap.size+1+1,1,aD⟩=L (Q U h) from (Z1.out.on hb).cell 1);clear x0 HF Rj YC;by_cases hkl:k<n
 ·obtain⟨y,hy⟩:∃ y,l[k]?=L y:=⟨_,D (by rw [HN.out]; exact hkl)⟩;obtain⟨p,ix,p0,p1,p2,p3,p4,p5,p6⟩:=wu HV.out rfl HN.out hy hb;have TH:=J (show th=decide (gV y=((c,d),(g,h))) from by
   obtain⟨e,he,hke,_⟩:=jL HA.out hy;rw [<- HT.out,iT,HK.out,he,hke])
  have g4:decide ((k:Int)<(n:Int))=aA:=by simp; omega
  obtain⟨y1,y2,y3,y4,⟨yo,yn,yc⟩,y6,y7⟩:=y;simp only at p0 p1 p2 p3;clear p4 p5 p6 hb hy;obtain⟨r1,hr1⟩:∃ r,(y1 == c && y2 == d)=r:=⟨_,rfl⟩;obtain⟨r2,hr2⟩:∃ r,(y3 == g && y4 == h)=r:=⟨_,rfl⟩;have e1:=qJ y1 y2 c d r1 hr1;have e2:=qJ y3 y4 g h r2 hr2;have R:=J (show th=(r1 && r2) from by
   rw [TH.out,<- hr1,<- hr2,Bool.eq_iff_iff];simp only [decide_eq_true_eq,Bool.and_eq_true,beq_iff_eq,Prod.mk.injEq])
  clear hr1 hr2 TH HT;cases r1 <;> cases r2
  all_goals
   go_wp2;refine wp_region_quiet_below (by kernel_rfl) (by kernel_rfl) ?_
   repeat (go_big_quiet_step (fail))
   refine wpQuiet_nil ?_;intro _ hw';obtain⟨⟨dq,osq⟩,hw''⟩:=hw';subst hw'';go_wp2
   go_ret2
   exact⟨by rw [R.out]; rfl,BN.out _ _⟩
 ·have TH:=J (show th=aB from by
   rw [<- HT.out,iT,HK.out,List.getElem?_eq_none (by rw [<- HA.out.len,HN.out]; omega)])
  have g4:decide ((k:Int)<(n:Int))=aB:=by simp; omega
  clear hb HT;go_wp2;refine wp_region_quiet_below (by kernel_rfl) (by kernel_rfl) ?_
  repeat (go_big_quiet_step (fail))
  refine wpQuiet_nil ?_;intro _ hw';obtain⟨⟨dq,osq⟩,hw''⟩:=hw';subst hw'';go_wp2
  go_ret2
  exact⟨by rw [TH.out]; rfl,BN.out _ _⟩
def cutV (v:Sl) (f k:Nat):Sl:=match v with
 | (L a,_,c)=>(L (if c=f then a else a.add (f * 7)),k,c-f)
 | (aD,_,_)=>(aD,0,0)
theorem Nt {α:Type} (p:α->Bool):∀ (l:List α) (j:Nat) (y:α),j<(l.takeWhile p).length->l[j]?=L y->p y=aA
 | [],_,_,_,h=>by simp at h
 | a::l,j,y,hj,h=>by
  by_cases ha:p a=aA
  ·rw [O,if_pos ha,aL] at hj;cases j with
   | zero=>rw [<- V (show L a=L y from h)]; exact ha
   | succ j=>exact Nt p l j y (by omega) (by simpa using h)
  ·rw [O,if_neg ha] at hj;simp at hj
theorem Nu {α:Type} (p:α->Bool):∀ (l:List α) (y:α),l[(l.takeWhile p).length]?=L y->p y=aB
 | [],_,h=>by simp at h
 | a::l,y,h=>by
  by_cases ha:p a=aA
  ·rw [O,if_pos ha,aL] at h;exact Nu p l y (by simpa using h)
  ·rw [O,if_neg ha] at h;rw [<- V (show L a=L y from h)];simpa using ha
theorem J5 (a:bH) (f e len cap:Nat) (h:f<=e) (h6:e<=cap) (w:aT):(Instr.sliceAt 25 (au (L a) len cap) (L (Q U f)) (L (Q U e)) aD).run aj w=.ok (dO (cutV (L a,len,cap) f (e-f))) w:=by
 have h1:(f:Int)<=(e:Int):=by omega
 have h3:(e:Int)<=cap:=by omega
 obtain⟨i,i1,i2,i3,i4⟩:=nH.info;have i1':Tryz.prog.info? 66=L i:=i1;have hu':Tryz.prog.underlying 25=L (.slice 66):=nH.hu;have i3':i.size=7:=i3;by_cases he:cap=f
 ·subst he;obtain rfl:e=cap:=by omega
  simp [go_sem,hu',sizeOf,typeInfo,i1',i3',cutV]
 ·simp [go_sem,hu',sizeOf,typeInfo,i1',i3',cutV,he,h,h6]
theorem Ho {W:aT} {v:Sl} {l:List gW} (h:kr W (dO v) l) (f k:Nat) (hk:f+k<=l.length) :
  (∀ w,(Instr.sliceAt 25 (dO v) (L (Q U f)) (L (Q U ((f+k:Nat):Int))) aD).run aj w=.ok (dO (cutV v f k)) w)/\kr W (dO (cutV v f k)) ((l.drop f).take k):=by
 obtain⟨so,sn,sc⟩:=v;rcases h with⟨rfl,hv⟩|⟨a,cap,hv,h2,h3,h4⟩
 ·obtain⟨rfl,rfl,rfl⟩:so=aD/\sn=0/\sc=0:=by simpa using hv
  obtain⟨rfl,rfl⟩:f=0/\k=0:=by simp at hk; omega
  refine⟨fun w=>?_,Or.inl ⟨rfl,rfl⟩⟩;obtain⟨i,i1,i2,i3,i4⟩:=nH.info;have i1':Tryz.prog.info? 66=L i:=i1;have hu':Tryz.prog.underlying 25=L (.slice 66):=nH.hu;simp [go_sem,hu',sizeOf,typeInfo,i1',cutV]
 ·obtain⟨rfl,rfl,rfl⟩:so=L a/\sn=l.length/\sc=cap:=by simpa using hv
  refine⟨fun w=>by have h:=J5 a f (f+k) l.length sc (Nat.le_add_right _ _) (Nat.le_trans hk h2) w; rwa [Nat.add_sub_cancel_left] at h,?_⟩;refine Or.inr ⟨(if sc=f then a else a.add (f * 7)),sc-f,?_,?_,by omega,fun j u hj=>?_⟩
  ·have e:((l.drop f).take k).length=k:=by rw [aM,aN]; omega
   rw [e]
   rfl
  ·rw [aM,aN]; omega
  ·have hlt:=(K.1 hj).1;have hlen:(flat EN ((l.drop f).take k)).length=k * 7:=by
    rw [dQ nH,aM,aN];show _ * 7=_;rw [show min k (l.length-f)=k by omega]
   rw [hlen] at hlt;rw [if_neg (by omega),add_add];refine h4 _ u ?_;have e1:flat EN l=flat EN (l.take f)++(flat EN ((l.drop f).take k)++flat EN ((l.drop f).drop k)):=by
    rw [<- gD,aJ,<- gD,aJ]
   have e2:(flat EN (l.take f)).length=f * 7:=by
    rw [dQ nH,aM];show _ * 7=_;rw [show min f l.length=f by omega]
   rw [e1,List.getElem?_append_right (by rw [e2]; omega),e2,show f * 7+j-f * 7=j by omega,List.getElem?_append_left (by rw [hlen]; exact hlt)];exact hj
theorem sU (m:List En) (t:fB):iR m t+(nP m t).length<=m.length:=by
 have h1:(nP m t).length<=(m.drop (iR m t)).length:=(aG _).length_le;have h2:iR m t<=m.length:=(aG _).length_le;rw [aN] at h1;omega
theorem qD (v:Sl) (l:List gW) (m:List En) (t:fB) (w:aT) (hv:kr w (dO v) l) (hA:eZ (jQ w) l m) (hr:iX m) (hl:l.length<=1000) :
  aV aj 73 #[dO v,nU t] w fun e w'=>e=ah (dO (cutV v (iR m t) (nP m t).length))/\Below w.heap.size w w':=by
 have hfk:=sU m t;have hML:l.length=m.length:=hA.len;obtain⟨f,hf⟩:∃ f,iR m t=f:=⟨_,rfl⟩;obtain⟨k,hk⟩:∃ k,(nP m t).length=k:=⟨_,rfl⟩;rw [hf,hk] at hfk ⊢;have RC:=J ((Ho hv f k (by omega)).1);obtain⟨so,n,sc⟩:=v;generalize cutV (so,n,sc) f k=z at RC ⊢;obtain⟨z1,z2,z3⟩:=z;have hn:l.length=n:=jT hv;obtain⟨c,d⟩:=t;obtain⟨h0,X,Y⟩:=gT w #[au so n sc] #[Q U c,Q U d] 25 31;have BB:=J h0;have HV:=J (hv.on h0);have HA:=J (hA.mono fun _ _ q=>q.on h0);have X1:=J X;have Y1:=J Y;have x0:=X.cell 0;simp only [aK,aF] at x0;have FL:∀ (i:Nat) (e:En),i<f->m[i]?=L e->dY e.tree (c,d)=aA:=fun i e hi he=>Nt (fun e:En=>dY e.tree (c,d)) m i e (by unfold iR at hf; omega) he;have FH:∀ (i:Nat) (e:En),f<=i->m[i]?=L e->dY e.tree (c,d)=aB:=fun i e hi he=>by
  refine E5 (c,d) hr e ?_;rw [<- wm];unfold iR at hf;rw [hf];exact aU (show (m.drop f)[i-f]?=L e by rw [aO,show f+(i-f)=i by omega]; exact he)
 have BL:=J (show ∀ (i:Nat) (e:En),i<k->m[f+i]?=L e->e.tree=(c,d) from fun i e hi he=>by
  have:=Nt (fun e:En=>decide (e.tree=(c,d))) (m.drop f) i e (by unfold nP at hk; rw [hf] at hk; omega) (by rw [aO]; exact he);exact of_decide_eq_true this)
 have BH:=J (show ∀ (e:En),m[f+k]?=L e->e.tree≠(c,d) from fun e he=>by
  have:=Nu (fun e:En=>decide (e.tree=(c,d))) (m.drop f) e (by unfold nP at hk; rw [hf] at hk; rw [hk,aO]; exact he);exact of_decide_eq_false this)
 have HF:=J (show ∀ i,i<n->∀ W,Below ((w.alloc (aH #[au so n sc] 25)).alloc (aH #[Q U c,Q U d] 31)).heap.size ((w.alloc (aH #[au so n sc] 25)).alloc (aH #[Q U c,Q U d] 31)) W ->
   aV aj 119 (#[Q U i]++#[ak (L ⟨w.heap.size,0,aD⟩),ak (L ⟨w.heap.size+1,0,aD⟩)]) W fun e w'=>e=ah (aQ ((fun i=>match l[i]? with | some y=>!dY (y.1,y.2.1) (c,d) | none=>aA) i))/\Below W.heap.size W w' from fun i hi W hb=>by
  obtain⟨y,hy⟩:∃ y,l[i]?=L y:=⟨_,D (by omega)⟩;refine Ri i _ _ so n sc l (c,d) y _ W (HV.out.on hb) hn hy ?_ (X1.out.on hb) (Y1.out.on hb);simp only [hy])
 have Rj:=J (show ∀ i,i<f->(fun i=>match l[i]? with | some y=>!dY (y.1,y.2.1) (c,d) | none=>aA) i=aB from fun i hi=>by
  obtain⟨y,hy⟩:∃ y,l[i]?=L y:=⟨_,D (by omega)⟩;obtain⟨e,he,hke,hx⟩:=jL HA.out hy;have h1:=FL i e hi he;rw [<- hx.1] at h1;simp only [hy,h1]
  rfl)
 have YC:=J (show ∀ i,f<=i->i<n->(fun i=>match l[i]? with | some y=>!dY (y.1,y.2.1) (c,d) | none=>aA) i=aA from fun i hi hi2=>by
  obtain⟨y,hy⟩:∃ y,l[i]?=L y:=⟨_,D (by omega)⟩;obtain⟨e,he,hke,hx⟩:=jL HA.out hy;have h1:=FH i e hi he;rw [<- hx.1] at h1;simp only [hy,h1]
  rfl)
 have HN:=J hn;have ln:n<=1000:=by omega
 have aeu:f+k<=n:=by omega
 clear hv hA h0 X Y hk hf hl hn hr hfk hML FL FH;go_enter Tryz.func73,Tryz.ntmps73;go_wp2_with fail;generalize (w.alloc (aH #[au so n sc] 25)).alloc (aH #[Q U c,Q U d] 31)=W at *;refine (wo 119 #[ak (L ⟨w.heap.size,0,aD⟩),ak (L ⟨w.heap.size+1,0,aD⟩)] Rf n f _ W (by omega) HF.out (by omega) Rj.out YC.out).mono ?_;rintro e1 w1 ⟨rfl,hb⟩;have B1:=J hb;clear x0 HF Rj YC hb;go_wp2
 go_loopw [6] (fun i wr=>∃ j:Nat,j<=k/\i=Q U ((f+j:Nat):Int)/\Below W.heap.size W wr) (fun i _=>f+k-(intOf i).toNat)
 case atStart=>exact⟨0,Nat.zero_le _,by simp,B1.out⟩
 case round =>
  obtain⟨j,hj,rfl,hbe⟩:=hrel;have BE:=J hbe;have a0:=cell_regrown (show wr.cell? ⟨w.heap.size,0,aD⟩=L (au so n sc) from (X1.out.on hbe).cell 0);have b0:=cell_regrown (show wr.cell? ⟨w.heap.size+1,0,aD⟩=L (Q U c) from (Y1.out.on hbe).cell 0);have b1:=cell_regrown (show wr.cell? ⟨w.heap.size+1,1,aD⟩=L (Q U d) from (Y1.out.on hbe).cell 1);have BN:=J (fun dq osq=>BE.out.trans ((below_regrown wr dq osq).mono BE.out.size));clear hbe;by_cases hjk:j<k
  ·obtain⟨y,hy⟩:∃ y,l[f+j]?=L y:=⟨_,D (by rw [HN.out]; omega)⟩;obtain⟨p,ix,p0,p1,p2,p3,p4,p5,p6⟩:=wu HV.out rfl HN.out hy BE.out;obtain⟨e,he,_,hx⟩:=jL HA.out hy;have ht:(y.1,y.2.1)=(c,d):=hx.1.trans (BL.out j e hjk he);have hjn:f+j<n:=by omega
   have g4:decide (((f+j:Nat):Int)<(n:Int))=aA:=by simp; omega
   have hw3:IntKind.i64.wrap (((f+j:Nat):Int)+1)=((f+(j+1):Nat):Int):=by rw [IntWalk.i64_in _ (by omega)]; omega
   obtain⟨y1,y2,y3,y4,⟨yo,yn,yc⟩,y6,y7⟩:=y;obtain⟨rfl,rfl⟩:y1=c/\y2=d:=by simpa using ht
   simp only at p0 p1;have e1:=qJ y1 y2 y1 y2 aA (by simp);clear p2 p3 p4 p5 p6 hy he hx ht;generalize hq:f+j=q at *;have HQ:=J hq;clear hq;go_wp2;refine wp_region_quiet_below (by kernel_rfl) (by kernel_rfl) ?_
   repeat (go_big_quiet_step (fail))
   refine wpQuiet_nil ?_;intro _ hw';obtain⟨⟨dq,osq⟩,hw''⟩:=hw';subst hw'';go_wp2
   go_roundw
   case rel=>exact⟨j+1,by omega,by rfl,BN.out _ _⟩
   case measure =>
    have hq:=HQ.out;simp [intOf];omega
  ·obtain rfl:j=k:=by omega
   have WX:=RC.out;by_cases hjn:f+j<n
   ·obtain⟨y,hy⟩:∃ y,l[f+j]?=L y:=⟨_,D (by rw [HN.out]; omega)⟩;obtain⟨p,ix,p0,p1,p2,p3,p4,p5,p6⟩:=wu HV.out rfl HN.out hy BE.out;obtain⟨e,he,_,hx⟩:=jL HA.out hy;have ht:(y.1,y.2.1)≠(c,d):=fun q=>BH.out e he (hx.1.symm.trans q);have g4:decide (((f+j:Nat):Int)<(n:Int))=aA:=by simp; omega
    obtain⟨y1,y2,y3,y4,⟨yo,yn,yc⟩,y6,y7⟩:=y;simp only at p0 p1;have e1:=qJ y1 y2 c d aB (aR.2 fun h=>ht (by simp at h; rw [h.1,h.2]));clear p2 p3 p4 p5 p6 hy he hx ht;generalize f+j=q at *;go_wp2;refine wp_region_quiet_below (by kernel_rfl) (by kernel_rfl) ?_
    repeat (go_big_quiet_step (fail))
    refine wpQuiet_nil ?_;intro _ hw';obtain⟨⟨dq,osq⟩,hw''⟩:=hw';subst hw'';have a0:=a0 dq osq;go_wp2;go_ret;exact⟨rfl,BB.out.trans ((BN.out _ _).mono BB.out.size)⟩
   ·have g4:decide (((f+j:Nat):Int)<(n:Int))=aB:=by simp; omega
    generalize f+j=q at *;go_wp2;refine wp_region_quiet_below (by kernel_rfl) (by kernel_rfl) ?_
    repeat (go_big_quiet_step (fail))
    refine wpQuiet_nil ?_;intro _ hw';obtain⟨⟨dq,osq⟩,hw''⟩:=hw';subst hw'';have a0:=a0 dq osq;go_wp2;go_ret;exact⟨rfl,BB.out.trans ((BN.out _ _).mono BB.out.size)⟩
end Go.Proofs.YtmklifheakemeaaGreat.Sb
