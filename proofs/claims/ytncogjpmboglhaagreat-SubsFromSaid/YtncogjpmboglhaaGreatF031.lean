/-
  A region that draws . Conditions as told.
-/
import Derived.Test.YtncogjpmboglhaaGreatF018
import Derived.Test.YtncogjpmboglhaaGreatF012
import Derived.Test.YtncogjpmboglhaaGreatF013
import Derived.Test.YtncogjpmboglhaaGreatF006
import Derived.Test.YtncogjpmboglhaaGreatF027
import Derived.ChangeSlices
import Derived.Deep.Slices
set_option maxRecDepth 100000
set_option maxHeartbeats 64000000
namespace Go.Proofs.YtncogjpmboglhaaGreat.Rg
open Go.RowKit Rw Av
structure SeenY (i N S:Nat) (d last:Nat→Nat) (V:Nat→Value→World→Prop) (base:Act) (o:Oper) (a:Act) (x:World):Prop where
 kp:∀ j u,(∀ i,i<N→d i≠j)→base.tmps[j]?=some u→a.eval (.tmp j)=u
 at_:∀ e∈o.after,Region.binds .any e=true→e.on≠S→(last e.on=i∨N≤last e.on)→V e.on (a.eval (.tmp (d e.on))) x
def Sto (b:Nat) (W x:World):Prop:=But b W x∧∀ B,B≤b→Below B W x
theorem Sto.grow {b:Nat} {W x x':World} (h:Sto b W x) (hl:b<W.heap.size) (hb:Below x.heap.size x x'):Sto b W x' :=
 ⟨⟨fun k hk hne=>(hb.block k (Nat.lt_of_lt_of_le hk h.1.2)).trans (h.1.1 k hk hne),Nat.le_trans h.1.2 hb.size⟩,fun B hB=>(h.2 B hB).trans (hb.mono (Nat.le_trans (Nat.le_trans hB (Nat.le_of_lt hl)) h.1.2))⟩
structure InY (l:List Oper) (N S C:Nat) (d last:Nat→Nat) (V:Nat→Value→World→Prop) (t:TypeId) (bb:Nat) (old:Array Value) (cof:Value→Array Value) (base:Act) (W:World) (L:Array Bool) (a:Act) (x:World):Prop where
 cl:∀ i o,done L i→l[i]?=some o→∀ e∈o.after,Region.binds .any e=true→done L e.on
 no:∀ i,N≤i→¬ done L i
 df:a.defers=base.defers
 sz:a.tmps.size=base.tmps.size
 kp:∀ j,(∀ i,i<N→d i≠j)→a.tmps[j]?=base.tmps[j]?
 sto:Sto bb W x
 val:∃ vs:Nat→Value,∀ i,i<N→i≠S→done L i→a.tmps[d i]?=some (vs i)∧(¬ done L (last i)→V i (vs i) x)
 box:¬ done L S→Below W.heap.size W x∧Box x bb old t
 fin:done L S→∃ v,a.tmps[d C]?=some v∧Box x bb (cof v) t∧V C v x
theorem region_st {P:Program} {Q:Exit→Act→World→Prop} {id:Nat} {base:Act} {W:World} {l:List Oper} (N S C:Nat) (d last:Nat→Nat) (V:Nat→Value→World→Prop) (fl:Nat→Bool) (t:TypeId) (bb:Nat) (old:Array Value) (cof:Value→Array Value)
  (hm:P.follows .mixedOrders=true) (hf:fore l.toArray=true) (hN:l.length=N) (hS:S<N) (hC:C<N) (hCS:C≠S) (hlC:N≤last C) (hbox:Box W bb old t)
  (hinj:∀ i j,i<N→j<N→i≠S→j≠S→d i=d j→i=j) (hs:∀ i,i<N→i≠S→d i<base.tmps.size)
  (hV:∀ i v x x',i<N→V i v x→Below x.heap.size x x'→V i v x')
  (hfl:∀ o,l[S]?=some o→∀ i,i<N→i≠S→fl i=false→∃ e∈o.after,Region.binds .any e=true∧e.on=i) (hflC:fl C=false)
  (hop:∀ i o,i<N→i≠S→l[i]?=some o→∀ a x,(fl i=false→Below W.heap.size W x∧Box x bb old t)→SeenY i N S d last V base o a x→∀ K:Act→World→Prop,(∀ v x',V i v x'→Below x.heap.size x x'→K (a.put (some (d i)) v) x')→wpOp P l.toArray Q i K a x)
  (hoS:∀ o,l[S]?=some o→∀ a x v,Below W.heap.size W x→Box x bb old t→a.eval (.tmp (d C))=v→V C v x→(∀ j u,base.tmps[j]?=some u→(∀ i,i<N→d i≠j)→a.eval (.tmp j)=u)→∀ K:Act→World→Prop,(∀ x',But bb x x'→(∀ B w,B≤bb→Below B w x→Below B w x')→Box x' bb (cof v) t→(∀ j u,j<N→j≠S→N≤last j→V j u x→V j u x')→K a x')→wpOp P l.toArray Q S K a x)
  (hlast:∀ j,j<N→j≠S→N≤last j∨(last j<N∧last j≠S∧fl (last j)=false))
  (hend:∀ a x v,a.defers=base.defers→a.tmps.size=base.tmps.size→(∀ j,(∀ i,i<N→d i≠j)→a.tmps[j]?=base.tmps[j]?)→a.tmps[d C]?=some v→Box x bb (cof v) t→V C v x→Sto bb W x→(∃ vs:Nat→Value,∀ i,i<N→i≠S→a.tmps[d i]?=some (vs i)∧(N≤last i→V i (vs i) x))→Q .normal a x):(Code.region id l.toArray true).wp P Q base W:=by
 have hbl:bb<W.heap.size:=hbox.lt
 refine region_inv (fun L a x=>InY l N S C d last V t bb old cof base W L a x) hm hf ?_ ?_ ?_
 ·exact⟨fun i o h=>absurd h (none_done _ _),fun i _=>none_done _ _,rfl,rfl,fun _ _=>rfl,⟨⟨fun _ _ _=>rfl,Nat.le_refl _⟩,fun B hB=>(Below.refl _ _).drew⟩,⟨fun _=>.bool true,fun i _ _ h=>absurd h (none_done _ _)⟩,fun _=>⟨(Below.refl _ _).drew,hbox⟩,fun h=>absurd h (none_done _ _)⟩
 ·intro L a x i o hsz I ho hnd hdep
  have hi:i<l.length:=(List.getElem?_eq_some_iff.1 ho).1
  have hiN:i<N:=by omega
  have hiL:i<L.size:=by omega
  obtain⟨vs,hvs⟩:=I.val
  obtain⟨oS,hoS'⟩:∃ oS,l[S]?=some oS:=⟨_,List.getElem?_eq_getElem (by omega)⟩
  have hon:∀ e∈o.after,Region.binds .any e=true→e.on<i:=fun e he hb=>by
   have h7:=List.all_eq_true.1 hf i (List.mem_range.2 (by simpa using hi))
   have ho':(l.toArray)[i]?=some o:=by simpa using ho
   rw [ho'] at h7
   have h8:=Array.all_eq_true'.1 h7 e he
   rw [hb] at h8
   simpa using h8
  have dd:∀ {k},k≠i→done (L.setIfInBounds i true) k→done L k:=fun {k} h h5=>((done_set hiL k).1 h5).resolve_left h
  have du:∀ {k},done L k→done (L.setIfInBounds i true) k:=fun {k} h=>(done_set hiL k).2 (Or.inr h)
  have cl':∀ k q,done (L.setIfInBounds i true) k→l[k]?=some q→∀ e∈q.after,Region.binds .any e=true→done (L.setIfInBounds i true) e.on:=fun k q hk hq e he hb=>by
   by_cases e2:k=i
   ·subst e2
    rw [hq] at ho
    cases ho
    exact du (hdep e he hb)
   ·exact du (I.cl k q (dd e2 hk) hq e he hb)
  have no':∀ k,N≤k→¬ done (L.setIfInBounds i true) k:=fun k hk h=>I.no k hk (dd (by omega) h)
  have early:∀ k,k<N→k≠S→fl k=false→¬ done L k→¬ done L S:=fun k hk hkS hfk hnk hdS=>by
   obtain⟨e,h1,h2,h3⟩:=hfl oS hoS' k hk hkS hfk
   exact hnk (h3 ▸ I.cl S oS hdS hoS' e h1 h2)
  by_cases hiS:i=S
  ·subst hiS
   have dC:done L C:=by
    obtain⟨e,h1,h2,h3⟩:=hfl o ho C hC hCS hflC
    exact h3 ▸ hdep e h1 h2
   obtain⟨v1,v2⟩:=hvs C hC hCS dC
   have vC:=v2 (I.no _ hlC)
   obtain⟨b1,b2⟩:=I.box hnd
   refine hoS o ho a x (vs C) b1 b2 (eval_some v1) vC (fun j u hu hj=>eval_some (by rw [I.kp j hj]; exact hu)) _ (fun x' q1 q2 q3 q4=>⟨cl',no',I.df,I.sz,I.kp,⟨⟨fun k hk hne=>(q1.1 k (Nat.lt_of_lt_of_le hk b1.size) hne).trans (I.sto.1.1 k hk hne),Nat.le_trans b1.size q1.2⟩,fun B hB=>q2 B W hB (I.sto.2 B hB)⟩,⟨vs,fun k hk hkS hdn=>?_⟩,fun hn=>absurd ((done_set hiL _).2 (Or.inl rfl)) hn,fun _=>⟨vs C,v1,q3,?_⟩⟩)
   ·obtain⟨w1,w2⟩:=hvs k hk hkS (dd hkS hdn)
    refine⟨w1,fun hnl=>?_⟩
    rcases hlast k hk hkS with h5|⟨h5,h6,h7⟩
    ·exact q4 k _ hk hkS h5 (w2 (I.no _ h5))
    ·exfalso
     obtain⟨e,g1,g2,g3⟩:=hfl o ho (last k) h5 h6 h7
     exact hnl (du (g3 ▸ hdep e g1 g2))
   ·exact q4 C _ hC hCS hlC vC
  ·have seen:SeenY i N S d last V base o a x:=⟨fun j u hj hu=>eval_some (by rw [I.kp j hj]; exact hu),fun e he hb hS' hl=>by
    obtain⟨h1,h2⟩:=hvs e.on (by have:=hon e he hb; omega) hS' (hdep e he hb)
    rw [eval_some h1]
    refine h2 ?_
    rcases hl with hl|hl
    ·rw [hl]; exact hnd
    ·exact I.no _ hl⟩
   refine hop i o hiN hiS ho a x (fun hfi=>I.box (early i hiN hiS hfi hnd)) seen _ (fun v x' hpv hb=>?_)
   have self:(a.put (some (d i)) v).tmps[d i]?=some v:=by
    have h5:d i<a.tmps.size:=by rw [I.sz]; exact hs i hiN hiS
    simp [Act.put,h5]
   have keep:∀ k,k<N→k≠S→k≠i→(a.put (some (d i)) v).tmps[d k]?=a.tmps[d k]?:=fun k hk hkS hki=>get_put _ _ _ _ (fun e=>hki (hinj _ _ hk hiN hkS hiS e))
   refine⟨cl',no',I.df,by rw [size_put]; exact I.sz,fun j hj=>?_,I.sto.grow hbl hb,⟨fun k=>if k=i then v else vs k,fun k hk hkS hdn=>?_⟩,fun h2=>?_,fun h1=>?_⟩
   ·rw [get_put _ _ _ _ (fun e=>hj i hiN e.symm)]
    exact I.kp j hj
   ·by_cases e:k=i
    ·subst e
     simp only [if_true]
     exact⟨self,fun _=>hpv⟩
    ·simp only [if_neg e]
     obtain⟨h3,h4⟩:=hvs k hk hkS (dd e hdn)
     exact⟨by rw [keep k hk hkS e]; exact h3,fun h6=>hV k _ _ _ hk (h4 (fun h=>h6 (du h))) hb⟩
   ·obtain⟨b1,b2⟩:=I.box (fun h=>h2 (du h))
    exact⟨b1.trans (hb.mono b1.size),b2.on hb⟩
   ·have h2:=dd (Ne.symm hiS) h1
    obtain⟨u,h6,h8,h9⟩:=I.fin h2
    obtain⟨ec,k4,k5,k6⟩:=hfl oS hoS' C hC hCS hflC
    have dC:=I.cl S oS h2 hoS' ec k4 k5
    rw [k6] at dC
    have eC:C≠i:=fun e=>hnd (e ▸ dC)
    exact⟨u,by rw [keep C hC hCS eC]; exact h6,h8.on hb,hV C _ _ _ hC h9 hb⟩
 ·intro L a x I hd
  have dS:=hd S (by omega)
  obtain⟨v,h2,h4,h5⟩:=I.fin dS
  obtain⟨vs,hvs⟩:=I.val
  exact hend a x v I.df I.sz I.kp h2 h4 h5 I.sto ⟨vs,fun i hi hiS=>by
   obtain⟨k1,k2⟩:=hvs i hi hiS (hd i (by omega))
   exact⟨k1,fun hl=>k2 (I.no _ hl)⟩⟩
end Go.Proofs.YtncogjpmboglhaaGreat.Rg
namespace Go.Proofs.YtncogjpmboglhaaGreat.Av
open Go.RowKit Go.Sort Rw YtncogjpmboglhaaGreat.Nm Pr Bk
def eqZ (x y:Int):Bool:=x == y
theorem eqZ_iff (x y:Int):eqZ x y=true↔x=y:=by simp [eqZ]
theorem eqI_any (av_ bv:Value) (l m:List Int) (w:World) (ha:RowI w av_ l) (hb:RowI w bv m) (hl:l.length≤1000000) :
  Calls Tryz.prog 55 #[av_,bv] w fun e w'=>e=.returned (.bool (sameG eqZ l m))∧Below w.heap.size w w':=by
 have HA:=Lib.hid ha
 have HB:=Lib.hid hb
 obtain⟨ao,ac,rfl⟩:=ha.len
 obtain⟨bo,bc,rfl⟩:=hb.len
 clear ha hb
 by_cases hlen:l.length=m.length
 ·have HL:=Lib.hid hlen
  rw [← hlen] at HB ⊢
  generalize hn:l.length=n at *
  have HN:=Lib.hid hn
  clear hlen hn
  go_enter Tryz.func55,Tryz.ntmps55
  go_wp2
  go_loopw [13] (fun i wr=>∃ k:Nat,k≤n∧i=.int .i64 k∧Below w.heap.size w wr∧∀ (j:Nat) (x y:Int),j<k→l[j]?=some x→m[j]?=some y→eqZ x y=true) (fun i _=>n-(intOf i).toNat)
  case atStart=>exact⟨0,Nat.zero_le _,rfl,Below.refl _ _,fun j x y h=>by omega⟩
  case round =>
   obtain⟨k,hk,rfl,hbe,hall⟩:=hrel
   have BE:=Lib.hid hbe
   have AL:=Lib.hid hall
   clear hbe hall
   by_cases hlt:k<n
   ·obtain⟨x,hx⟩:∃ x,l[k]?=some x:=⟨_,List.getElem?_eq_getElem (by rw [HN.out]; exact hlt)⟩
    obtain⟨y,hy⟩:∃ y,m[k]?=some y:=⟨_,List.getElem?_eq_getElem (by rw [← HL.out]; exact hlt)⟩
    obtain⟨p,ix,px⟩:=elI HA.out rfl HN.out hx
    obtain⟨q,iy,py⟩:=elI HB.out rfl HL.out.symm hy
    have p0:=cell_regrown (px.2 _ BE.out)
    have q0:=cell_regrown (py.2 _ BE.out)
    clear px py
    obtain⟨r,hr⟩:∃ r,eqZ x y=r:=⟨_,rfl⟩
    have hne:(x != y)=!r:=by rw [← hr]; rfl
    have HX:=Lib.hid hx
    have HY:=Lib.hid hy
    have HR:=Lib.hid hr
    clear hx hy hr
    cases r
    ·have R:=Lib.hid (show sameG eqZ l m=false from sameG_not l m k x y HX.out HY.out HR.out)
     go_wp2
     refine wp_region_quiet_below (by kernel_rfl) (by kernel_rfl) ?_
     repeat (go_big_quiet_step (fail))
     refine wpQuiet_nil ?_
     intro _ hw'
     obtain⟨⟨dq,osq⟩,hw''⟩:=hw'
     subst hw''
     go_wp2
     go_ret
     exact⟨by rw [R.out]; rfl,BE.out.trans ((below_regrown wr dq osq).mono BE.out.size)⟩
    ·go_wp2
     refine wp_region_quiet_below (by kernel_rfl) (by kernel_rfl) ?_
     repeat (go_big_quiet_step (fail))
     refine wpQuiet_nil ?_
     intro _ hw'
     obtain⟨⟨dq,osq⟩,hw''⟩:=hw'
     subst hw''
     clear ix iy p0 q0 hne
     go_wp2
     go_roundw
     case rel=>exact⟨k+1,by omega,by go_num,BE.out.trans ((below_regrown wr dq osq).mono BE.out.size),fun j x' y' hj h1 h2=>by
      rcases Nat.lt_or_ge j k with h3|h3
      ·exact AL.out j x' y' h3 h1 h2
      ·obtain rfl:j=k:=by omega
       have e1:=HX.out
       have e2:=HY.out
       rw [h1] at e1
       rw [h2] at e2
       rw [Option.some.inj e1,Option.some.inj e2]
       exact HR.out⟩
     case measure=>simp [intOf]; omega
   ·obtain rfl:k=n:=by omega
    have R:=Lib.hid (show sameG eqZ l m=true from sameG_all l m (by rw [HN.out]; exact HL.out) (fun j a b h1 h2=>AL.out j a b (by have:=(List.getElem?_eq_some_iff.1 h1).1; have:=HN.out; omega) h1 h2))
    go_wp2
    go_ret
    exact⟨by rw [R.out]; rfl,BE.out⟩
 ·have R:=Lib.hid (show sameG eqZ l m=false by
   cases h:sameG eqZ l m
   ·rfl
   ·exact absurd (sameG_len _ _ h) hlen)
  have hne:(((l.length:Nat):Int) != ((m.length:Nat):Int))=true:=by simp; omega
  have hne2:(((l.length:Nat):Int) == ((m.length:Nat):Int))=false:=by simp; omega
  clear hlen
  go_enter Tryz.func55,Tryz.ntmps55
  go_wp2
  go_ret
  exact⟨by rw [R.out]; rfl,Below.refl _ _⟩
theorem eqJ_any (av_ bv:Value) (l m:List XID) (w:World) (ha:RowJ w av_ l) (hb:RowJ w bv m) (hl:l.length≤1000000) :
  Calls Tryz.prog 56 #[av_,bv] w fun e w'=>e=.returned (.bool (sameG eqI l m))∧Below w.heap.size w w':=by
 have HA:=Lib.hid ha
 have HB:=Lib.hid hb
 obtain⟨ao,ac,rfl⟩:=ha.len
 obtain⟨bo,bc,rfl⟩:=hb.len
 clear ha hb
 by_cases hlen:l.length=m.length
 ·have HL:=Lib.hid hlen
  rw [← hlen] at HB ⊢
  generalize hn:l.length=n at *
  have HN:=Lib.hid hn
  clear hlen hn
  go_enter Tryz.func56,Tryz.ntmps56
  go_wp2
  go_loopw [13] (fun i wr=>∃ k:Nat,k≤n∧i=.int .i64 k∧Below w.heap.size w wr∧∀ (j:Nat) (x y:XID),j<k→l[j]?=some x→m[j]?=some y→eqI x y=true) (fun i _=>n-(intOf i).toNat)
  case atStart=>exact⟨0,Nat.zero_le _,rfl,Below.refl _ _,fun j x y h=>by omega⟩
  case round =>
   obtain⟨k,hk,rfl,hbe,hall⟩:=hrel
   have BE:=Lib.hid hbe
   have AL:=Lib.hid hall
   clear hbe hall
   by_cases hlt:k<n
   ·obtain⟨x,hx⟩:∃ x,l[k]?=some x:=⟨_,List.getElem?_eq_getElem (by rw [HN.out]; exact hlt)⟩
    obtain⟨y,hy⟩:∃ y,m[k]?=some y:=⟨_,List.getElem?_eq_getElem (by rw [← HL.out]; exact hlt)⟩
    obtain⟨p,ix,px⟩:=elJ HA.out rfl HN.out hx
    obtain⟨q,iy,py⟩:=elJ HB.out rfl HL.out.symm hy
    have p0:=cell_regrown (px _ BE.out).1
    have p1:=cell_regrown (px _ BE.out).2
    have q0:=cell_regrown (py _ BE.out).1
    have q1:=cell_regrown (py _ BE.out).2
    clear px py
    obtain⟨r,hr⟩:∃ r,eqI x y=r:=⟨_,rfl⟩
    have hne:=neId x.1 x.2 y.1 y.2 (!r) (by rw [← hr]; rfl)
    have HX:=Lib.hid hx
    have HY:=Lib.hid hy
    have HR:=Lib.hid hr
    clear hx hy hr
    cases r
    ·have R:=Lib.hid (show sameG eqI l m=false from sameG_not l m k x y HX.out HY.out HR.out)
     go_wp2
     refine wp_region_quiet_below (by kernel_rfl) (by kernel_rfl) ?_
     repeat (go_big_quiet_step (fail))
     refine wpQuiet_nil ?_
     intro _ hw'
     obtain⟨⟨dq,osq⟩,hw''⟩:=hw'
     subst hw''
     go_wp2
     go_ret
     exact⟨by rw [R.out]; rfl,BE.out.trans ((below_regrown wr dq osq).mono BE.out.size)⟩
    ·go_wp2
     refine wp_region_quiet_below (by kernel_rfl) (by kernel_rfl) ?_
     repeat (go_big_quiet_step (fail))
     refine wpQuiet_nil ?_
     intro _ hw'
     obtain⟨⟨dq,osq⟩,hw''⟩:=hw'
     subst hw''
     clear ix iy p0 p1 q0 q1 hne
     go_wp2
     go_roundw
     case rel=>exact⟨k+1,by omega,by go_num,BE.out.trans ((below_regrown wr dq osq).mono BE.out.size),fun j x' y' hj h1 h2=>by
      rcases Nat.lt_or_ge j k with h3|h3
      ·exact AL.out j x' y' h3 h1 h2
      ·obtain rfl:j=k:=by omega
       have e1:=HX.out
       have e2:=HY.out
       rw [h1] at e1
       rw [h2] at e2
       rw [Option.some.inj e1,Option.some.inj e2]
       exact HR.out⟩
     case measure=>simp [intOf]; omega
   ·obtain rfl:k=n:=by omega
    have R:=Lib.hid (show sameG eqI l m=true from sameG_all l m (by rw [HN.out]; exact HL.out) (fun j a b h1 h2=>AL.out j a b (by have:=(List.getElem?_eq_some_iff.1 h1).1; have:=HN.out; omega) h1 h2))
    go_wp2
    go_ret
    exact⟨by rw [R.out]; rfl,BE.out⟩
 ·have R:=Lib.hid (show sameG eqI l m=false by
   cases h:sameG eqI l m
   ·rfl
   ·exact absurd (sameG_len _ _ h) hlen)
  have hne:(((l.length:Nat):Int) != ((m.length:Nat):Int))=true:=by simp; omega
  have hne2:(((l.length:Nat):Int) == ((m.length:Nat):Int))=false:=by simp; omega
  clear hlen
  go_enter Tryz.func56,Tryz.ntmps56
  go_wp2
  go_ret
  exact⟨by rw [R.out]; rfl,Below.refl _ _⟩
theorem eqC_any (av_ bv:Value) (l m:List C5) (w:World) (ha:RowC w av_ l) (hb:RowC w bv m) (hl:l.length≤1000000) :
  Calls Tryz.prog 136 #[av_,bv] w fun e w'=>e=.returned (.bool (sameC l m))∧Below w.heap.size w w':=by
 have HA:=Lib.hid ha
 have HB:=Lib.hid hb
 obtain⟨ao,ac,rfl⟩:=ha.len
 obtain⟨bo,bc,rfl⟩:=hb.len
 clear ha hb
 by_cases hlen:l.length=m.length
 ·have HL:=Lib.hid hlen
  rw [← hlen] at HB ⊢
  generalize hn:l.length=n at *
  have HN:=Lib.hid hn
  clear hlen hn
  go_enter Tryz.func136,Tryz.ntmps136
  go_wp2
  go_loopw [13] (fun i wr=>∃ k:Nat,k≤n∧i=.int .i64 k∧Below w.heap.size w wr∧∀ (j:Nat) (x y:C5),j<k→l[j]?=some x→m[j]?=some y→eqlC x y=true) (fun i _=>n-(intOf i).toNat)
  case atStart=>exact⟨0,Nat.zero_le _,rfl,Below.refl _ _,fun j x y h=>by omega⟩
  case round =>
   obtain⟨k,hk,rfl,hbe,hall⟩:=hrel
   have BE:=Lib.hid hbe
   have AL:=Lib.hid hall
   clear hbe hall
   by_cases hlt:k<n
   ·obtain⟨x,hx⟩:∃ x,l[k]?=some x:=⟨_,List.getElem?_eq_getElem (by rw [HN.out]; exact hlt)⟩
    obtain⟨y,hy⟩:∃ y,m[k]?=some y:=⟨_,List.getElem?_eq_getElem (by rw [← HL.out]; exact hlt)⟩
    obtain⟨p,ix,px⟩:=elC HA.out rfl HN.out hx
    obtain⟨q,iy,py⟩:=elC HB.out rfl HL.out.symm hy
    have p0:=cell_regrown (px _ BE.out).1
    have p1:=cell_regrown (px _ BE.out).2.1
    have p2:=cell_regrown (px _ BE.out).2.2.1
    have p3:=cell_regrown (px _ BE.out).2.2.2.1
    have p4:=cell_regrown (px _ BE.out).2.2.2.2
    have q0:=cell_regrown (py _ BE.out).1
    have q1:=cell_regrown (py _ BE.out).2.1
    have q2:=cell_regrown (py _ BE.out).2.2.1
    have q3:=cell_regrown (py _ BE.out).2.2.2.1
    have q4:=cell_regrown (py _ BE.out).2.2.2.2
    clear px py
    obtain⟨r,hr⟩:∃ r,eqlC x y=r:=⟨_,rfl⟩
    have hne:=neqC x y r hr
    have HX:=Lib.hid hx
    have HY:=Lib.hid hy
    have HR:=Lib.hid hr
    clear hx hy hr
    cases r
    ·have R:=Lib.hid (show sameC l m=false from sameC_not l m k x y HX.out HY.out HR.out)
     go_wp2
     refine wp_region_quiet_below (by kernel_rfl) (by kernel_rfl) ?_
     repeat (go_big_quiet_step (fail))
     refine wpQuiet_nil ?_
     intro _ hw'
     obtain⟨⟨dq,osq⟩,hw''⟩:=hw'
     subst hw''
     go_wp2
     go_ret
     exact⟨by rw [R.out]; rfl,BE.out.trans ((below_regrown wr dq osq).mono BE.out.size)⟩
    ·go_wp2
     refine wp_region_quiet_below (by kernel_rfl) (by kernel_rfl) ?_
     repeat (go_big_quiet_step (fail))
     refine wpQuiet_nil ?_
     intro _ hw'
     obtain⟨⟨dq,osq⟩,hw''⟩:=hw'
     subst hw''
     clear ix iy p0 p1 p2 p3 p4 q0 q1 q2 q3 q4 hne
     go_wp2
     go_roundw
     case rel=>exact⟨k+1,by omega,by go_num,BE.out.trans ((below_regrown wr dq osq).mono BE.out.size),fun j x' y' hj h1 h2=>by
      rcases Nat.lt_or_ge j k with h3|h3
      ·exact AL.out j x' y' h3 h1 h2
      ·obtain rfl:j=k:=by omega
       have e1:=HX.out
       have e2:=HY.out
       rw [h1] at e1
       rw [h2] at e2
       rw [Option.some.inj e1,Option.some.inj e2]
       exact HR.out⟩
     case measure=>simp [intOf]; omega
   ·obtain rfl:k=n:=by omega
    have R:=Lib.hid (show sameC l m=true from sameC_all l m (by rw [HN.out]; exact HL.out) (fun j a b h1 h2=>AL.out j a b (by have:=(List.getElem?_eq_some_iff.1 h1).1; have:=HN.out; omega) h1 h2))
    go_wp2
    go_ret
    exact⟨by rw [R.out]; rfl,BE.out⟩
 ·have R:=Lib.hid (show sameC l m=false by
   cases h:sameC l m
   ·rfl
   ·exact absurd (sameC_len _ _ h) hlen)
  have hne:(((l.length:Nat):Int) != ((m.length:Nat):Int))=true:=by simp; omega
  have hne2:(((l.length:Nat):Int) == ((m.length:Nat):Int))=false:=by simp; omega
  clear hlen
  go_enter Tryz.func136,Tryz.ntmps136
  go_wp2
  go_ret
  exact⟨by rw [R.out]; rfl,Below.refl _ _⟩
theorem psame_any (av_ bv:Value) (l m:List C5) (w:World) (ha:RowC w av_ l) (hb:RowC w bv m) (hl:l.length≤1000000):Calls Tryz.prog 109 #[av_,bv] w fun e w'=>e=.returned (.bool (sameC l m))∧Below w.heap.size w w':=by
 have C:=Lib.hid (eqC_any av_ bv l m w ha hb hl)
 obtain⟨ao,ac,rfl⟩:=ha.len
 obtain⟨bo,bc,rfl⟩:=hb.len
 clear ha hb
 go_enter Tryz.func109,Tryz.ntmps109
 go_wp2_with fail
 refine C.out.mono ?_
 rintro e w' ⟨rfl,hb⟩
 have HB:=Lib.hid hb
 clear hb
 go_wp2
 go_ret
 exact⟨rfl,HB.out⟩
end Go.Proofs.YtncogjpmboglhaaGreat.Av
namespace Go.Proofs.YtncogjpmboglhaaGreat.Bk
open Go.RowKit Go.Sort Rw YtncogjpmboglhaaGreat.Nm Pr
def sideI (near:List Int) (n:Int):Int:=(near[(Wi.within n 0 near.length).toNat]?).getD (-1)
theorem side_any (me n:Int) (nv:Sl) (av sv ev ov:Value) (l:List Int) (w:World) (hs:RowI w (slv nv) l) (hl:l.length≤900) (h1:-9223372036854775808≤n) (h2:n≤9223372036854775807) :
  Calls Tryz.prog 30 #[.agg #[.int .i64 me,slv nv,av,sv,ev,ov],.int .i64 n] w fun e w'=>e=.returned (.int .i64 (sideI l n))∧Below w.heap.size w w':=by
 obtain⟨no,nn,nc⟩:=nv
 obtain⟨q1,q2,hq⟩:=hs.len
 obtain⟨rfl,rfl,rfl⟩:no=q1∧nn=l.length∧nc=q2:=by
  have:Value.slice no nn nc=.slice q1 l.length q2:=hq
  simpa using this
 obtain⟨nn,hnn⟩:∃ n,n=l.length:=⟨_,rfl⟩
 simp only [← hnn] at hs ⊢
 have NB:=newB w (.cells #[.int .i64 me,.slice no nn nc,av,sv,ev,ov] 31)
 have B0:=Lib.hid NB
 have X2:=Lib.hid (box_new w #[.int .i64 me,.slice no nn nc,av,sv,ev,ov] 31)
 have HS:=Lib.hid (hs.on NB)
 have HN:=Lib.hid hnn
 have nl:nn≤900:=by omega
 clear NB hs hq hnn hl
 show Calls Tryz.prog 30 #[.agg #[.int .i64 me,.slice no nn nc,av,sv,ev,ov],.int .i64 n] w _
 go_enter Tryz.func30,Tryz.ntmps30
 go_upto_region 1 with fail
 generalize w.alloc (.cells #[.int .i64 me,.slice no nn nc,av,sv,ev,ov] 31)=W at *
 have x1:=X2.out.cell 1
 simp only [List.getElem?_toArray,List.getElem?_cons_zero,List.getElem?_cons_succ] at x1
 have WI:=Wi.within_any n 0 (nn:Int) W (by omega) (by decide) (by omega) h1 h2
 have WB:=Wi.within_bd n 0 (nn:Int) (by omega)
 have SD:=Lib.hid (show sideI l n=(l[(Wi.within n 0 (nn:Int)).toNat]?).getD (-1) from by unfold sideI; rw [HN.out])
 generalize Wi.within n 0 (nn:Int)=y at *
 obtain⟨m,rfl⟩:∃ m:Nat,y=m:=⟨y.toNat,by omega⟩
 rw [Int.toNat_natCast] at SD
 go_wp2_with fail
 refine WI.mono ?_
 rintro e2 w2 ⟨rfl,rfl⟩
 clear WI
 by_cases hm:m<nn
 ·have hm2:(m:Int)<(nn:Int):=by omega
  obtain⟨z,hz⟩:∃ z,l[m]?=some z:=⟨_,List.getElem?_eq_getElem (by rw [← HN.out]; exact hm)⟩
  obtain⟨p,ix,px⟩:=elI HS.out rfl HN.out.symm hz
  have p0:=px.2 W (Below.refl _ _)
  rw [hz] at SD
  clear px hz
  go_wp2_with fail
  go_ret
  exact⟨by rw [SD.out]; rfl,B0.out⟩
 ·have hm2:¬ ((m:Int)<(nn:Int)):=by omega
  rw [List.getElem?_eq_none (by have:=HN.out; omega)] at SD
  go_wp2_with fail
  go_ret
  exact⟨by rw [SD.out]; rfl,B0.out⟩
def oV (W:Nat) (bv:Value) (c d c2 d2:Int) (av:Value) (ki:Nat) (p:Addr) (to_:Int) (po:Option Addr) (pn pc:Nat) (fr:Int) (up:Bool) (b3 b5:Nat) (i:Nat) (v:Value) (x:World):Prop :=
 match i with
 | 0=>v=bv
 | 1=>v=.pointer (some ⟨b3,2,none⟩)
 | 2=>v=av
 | 3=>v=bv
 | 4=>v=.pointer (some ⟨b5,1,none⟩)
 | 5=>v=idv (c,d)
 | 6=>v=.int .i64 (ki:Int)
 | 7=>v=.pointer (some p)
 | 8=>v=.pointer (some ⟨p.block,p.off+3,none⟩)
 | 9=>v=.int .i64 to_
 | 10=>v=valN (c,d,c2,d2,(po,pn,pc),fr,up)
 | 11=>v=.agg #[.int .i64 3,.int .i64 c,.int .i64 d,.int .i64 c2,.int .i64 d2,.slice po pn pc,.slice none 0 0]
 | 12=>v=valU (to_,3,c,d,c2,d2,(po,pn,pc),(none,0,0))
 | 13=>OwnU x W v [(to_,3,c,d,c2,d2,(po,pn,pc),(none,0,0))]
 | 15=>OwnU x W v [(to_,3,c,d,c2,d2,(po,pn,pc),(none,0,0))]
 | _=>True
def oF (W:World) (b6:Nat) (bc:Array Value) (D:Nat→Prop) (x:World):Prop :=
 (∀ j,j<W.heap.size→j≠b6→x.heap[j]?=W.heap[j]?)∧(∀ B,B≤b6→Below B W x)∧(¬ D 14→Below W.heap.size W x)∧(D 14→Box x b6 bc 31)∧W.heap.size≤x.heap.size
noncomputable def onsR5:Code:=((Tryz.f100.body.bind (findRegion 5)).getD .skip)
theorem ons_r5 (Q:Exit→Act→World→Prop) (W:World) (b3 b5 b6 b8:Nat) (me mk c d c2 d2 fr to_:Int) (up:Bool) (o1 o2 o3 o4 o5:Option Addr) (n1 k1 n2 k2 n3 k3 n4 k4 n5 k5:Nat) (po qo:Option Addr) (pn pc qn qc:Nat) (ad:List XAd) (ki:Nat) (p:Addr) (z0 z1 z2 z3 z4 z5:Value) (u0 u1 u2 u4 u7 u9 u10 u11 u12 u13 u14 u15 u16 u17 u18 u19 u20 u21 u22 u23 u24 u25 u26 u27 u28 u29 u30 u31 u32 u33 u34 u35 u36 u37 u38 u39 u40:Value)
  (h3:Box W b3 #[.int .i64 me,.slice o1 n1 k1,.slice o2 n2 k2,.slice o3 n3 k3,.slice o4 n4 k4,.slice o5 n5 k5] 31) (h5:Box W b5 #[.int .i64 mk,.int .i64 c,.int .i64 d,.int .i64 c2,.int .i64 d2,.slice po pn pc,.slice qo qn qc] 77) (h6:Box W b6 #[z0,z1,z2,z3,z4,z5] 31) (h8:Box W b8 #[.int .i64 c,.int .i64 d,.int .i64 c2,.int .i64 d2,.slice po pn pc,.int .i64 fr,.bool up] 43) (n3_:b3≠b6) (n5_:b5≠b6) (n8_:b8≠b6) (hd:RowD W (.slice o2 n2 k2) ad) (fk:findI (ad.map fun y=>(y.1,y.2.1)) (c,d)=ki) (ix:∀ w,(Instr.indexAt 26 (.slice o2 n2 k2) (.int .i64 (ki:Int))).run Tryz.prog w=.ok (.pointer (some p)) w) (px:W.cell? ⟨p.block,p.off+3,none⟩=some (.int .i64 to_)) (pl:p.block<W.heap.size) (pn_:p.block≠b6)
  (hQ:∀ (a:Act) (x:World) (sl:Sl),a.defers=[]→a.tmps[6]?=some (.pointer (some ⟨b6,0,none⟩))→a.tmps[7]?=some (slv sl)→Box x b6 #[.int .i64 me,.slice o1 n1 k1,.slice o2 n2 k2,.slice o3 n3 k3,.slice o4 n4 k4,.slice o5 n5 k5] 31→OwnU x W.heap.size (slv sl) [(to_,3,c,d,c2,d2,(po,pn,pc),(none,0,0))]→(∀ k,k<W.heap.size→k≠b6→x.heap[k]?=W.heap[k]?)→(∀ B,B≤b6→Below B W x)→Q .normal a x) :
  Code.wp Tryz.prog onsR5 Q ⟨(u0::u1::u2::.pointer (some ⟨b3,0,none⟩)::u4::.pointer (some ⟨b5,0,none⟩)::.pointer (some ⟨b6,0,none⟩)::u7::.pointer (some ⟨b8,0,none⟩)::u9::u10::u11::u12::u13::u14::u15::u16::u17::u18::u19::u20::u21::u22::u23::u24::u25::u26::u27::u28::u29::u30::u31::u32::u33::u34::u35::u36::u37::u38::u39::u40::[]).toArray,[]⟩ W:=by
 have HQ:=Lib.hid hQ
 have H3:=Lib.hid h3
 have H5:=Lib.hid h5
 have H6:=Lib.hid h6
 have H8:=Lib.hid h8
 have N3:=Lib.hid n3_
 have N5:=Lib.hid n5_
 have N8:=Lib.hid n8_
 have HD:=Lib.hid hd
 have FK:=Lib.hid fk
 have IX:=Lib.hid ix
 have PX:=Lib.hid px
 have PL:=Lib.hid pl
 have PN:=Lib.hid pn_
 clear hQ h3 h5 h6 h8 n3_ n5_ n8_ hd fk ix px pl pn_
 unfold onsR5
 conv=>arg 2; whnf
 have nd:∀ j,(∀ i,i<16→[some 27,some 28,some 29,some 30,some 31,some 32,some 33,some 34,some 35,some 36,some 37,some 38,some 39,some 40,none,some 7].getD i none≠some j)→∀ i,i<16→(fun i=>[some 27,some 28,some 29,some 30,some 31,some 32,some 33,some 34,some 35,some 36,some 37,some 38,some 39,some 40,none,some 7].getD i none) i≠some j:=fun j h=>h
 refine Rg.region_done 16 (fun i=>[some 27,some 28,some 29,some 30,some 31,some 32,some 33,some 34,some 35,some 36,some 37,some 38,some 39,some 40,none,some 7].getD i none) (fun _=>16) (oV W.heap.size (.agg #[.int .i64 me,.slice o1 n1 k1,.slice o2 n2 k2,.slice o3 n3 k3,.slice o4 n4 k4,.slice o5 n5 k5]) c d c2 d2 (.slice o2 n2 k2) ki p to_ po pn pc fr up b3 b5) (oF W b6 #[.int .i64 me,.slice o1 n1 k1,.slice o2 n2 k2,.slice o3 n3 k3,.slice o4 n4 k4,.slice o5 n5 k5]) (by kernel_rfl) (by kernel_rfl) rfl (fun i j e hi hj h1 h2=>(by decide:∀ i,i<16→∀ j,j<16→([some 27,some 28,some 29,some 30,some 31,some 32,some 33,some 34,some 35,some 36,some 37,some 38,some 39,some 40,none,some 7].getD i none).isSome=true→[some 27,some 28,some 29,some 30,some 31,some 32,some 33,some 34,some 35,some 36,some 37,some 38,some 39,some 40,none,some 7].getD i none=[some 27,some 28,some 29,some 30,some 31,some 32,some 33,some 34,some 35,some 36,some 37,some 38,some 39,some 40,none,some 7].getD j none→i=j) i hi j hj (by have h1:[some 27,some 28,some 29,some 30,some 31,some 32,some 33,some 34,some 35,some 36,some 37,some 38,some 39,some 40,none,some 7].getD i none=some e:=h1; rw [h1]; rfl) (h1.trans h2.symm)) (fun i e hi h=>(by decide:∀ i,i<16→∀ q∈[some 27,some 28,some 29,some 30,some 31,some 32,some 33,some 34,some 35,some 36,some 37,some 38,some 39,some 40,none,some 7].getD i none,q<41) i hi e h) ⟨fun _ _ _=>rfl,fun _ _=>(Below.refl _ _).drew,fun _=>(Below.refl _ _).drew,False.elim,Nat.le_refl _⟩ ?_ ?_
 ·intro i o hi ho a x D hnd hc hD hF seen K hK
  clear HQ
  have still:∀ i,i≠14→oF W b6 #[.int .i64 me,.slice o1 n1 k1,.slice o2 n2 k2,.slice o3 n3 k3,.slice o4 n4 k4,.slice o5 n5 k5] (fun j=>j=i∨D j) x:=fun i h9=>⟨hF.1,hF.2.1,fun h=>hF.2.2.1 fun h2=>h (Or.inr h2),fun h=>hF.2.2.2.1 (h.resolve_left (Ne.symm h9)),hF.2.2.2.2⟩
  rcases (by omega:i=0∨i=1∨i=2∨i=3∨i=4∨i=5∨i=6∨i=7∨i=8∨i=9∨i=10∨i=11∨i=12∨i=13∨i=14∨i=15) with rfl|rfl|rfl|rfl|rfl|rfl|rfl|rfl|rfl|rfl|rfl|rfl|rfl|rfl|rfl|rfl
  ·obtain rfl:=Option.some.inj ho
   have e3:a.eval (.tmp 3)=.pointer (some ⟨b3,0,none⟩):=seen.kp 3 _ (nd 3 (by decide)) rfl
   have bxH3:=show Box x _ _ _ from (hF.1 _ H3.out.lt N3.out).trans H3.out
   exact Rg.op_value rfl rfl (Rg.ex_load a.eval _ 31 (.tmp 3) rfl (by rw [e3]; exact loadBr bxH3)) (hK _ _ rfl (still 0 (by decide)) fun _ _ _ _ _ _ _ h=>h)
  ·obtain rfl:=Option.some.inj ho
   have e3:a.eval (.tmp 3)=.pointer (some ⟨b3,0,none⟩):=seen.kp 3 _ (nd 3 (by decide)) rfl
   exact Rg.op_value rfl rfl (Rg.ex_field a.eval _ 31 (.tmp 3) 2 rfl (by rw [e3]; simp [go_sem])) (hK _ _ rfl (still 1 (by decide)) fun _ _ _ _ _ _ _ h=>h)
  ·obtain rfl:=Option.some.inj ho
   have e28:a.eval (.tmp 28)=.pointer (some ⟨b3,2,none⟩):=seen.at_ ⟨1,.data⟩ (by simp) rfl (Or.inr (by decide)) _ rfl
   have bxH3:=show Box x _ _ _ from (hF.1 _ H3.out.lt N3.out).trans H3.out
   have y:=bxH3.cell 2
   simp only [List.getElem?_toArray,List.getElem?_cons_zero,List.getElem?_cons_succ] at y
   exact Rg.op_value rfl rfl (Rg.ex_load a.eval _ 26 (.tmp 28) rfl (by rw [e28]; simp [go_sem,y])) (hK _ _ rfl (still 2 (by decide)) fun _ _ _ _ _ _ _ h=>h)
  ·obtain rfl:=Option.some.inj ho
   have e3:a.eval (.tmp 3)=.pointer (some ⟨b3,0,none⟩):=seen.kp 3 _ (nd 3 (by decide)) rfl
   have bxH3:=show Box x _ _ _ from (hF.1 _ H3.out.lt N3.out).trans H3.out
   exact Rg.op_value rfl rfl (Rg.ex_load a.eval _ 31 (.tmp 3) rfl (by rw [e3]; exact loadBr bxH3)) (hK _ _ rfl (still 3 (by decide)) fun _ _ _ _ _ _ _ h=>h)
  ·obtain rfl:=Option.some.inj ho
   have e5:a.eval (.tmp 5)=.pointer (some ⟨b5,0,none⟩):=seen.kp 5 _ (nd 5 (by decide)) rfl
   exact Rg.op_value rfl rfl (Rg.ex_field a.eval _ 77 (.tmp 5) 1 rfl (by rw [e5]; simp [go_sem])) (hK _ _ rfl (still 4 (by decide)) fun _ _ _ _ _ _ _ h=>h)
  ·obtain rfl:=Option.some.inj ho
   have e31:a.eval (.tmp 31)=.pointer (some ⟨b5,1,none⟩):=seen.at_ ⟨4,.data⟩ (by simp) rfl (Or.inr (by decide)) _ rfl
   have bxH5:=show Box x _ _ _ from (hF.1 _ H5.out.lt N5.out).trans H5.out
   have y1:=bxH5.cell 1
   have y2:=bxH5.cell 2
   simp only [List.getElem?_toArray,List.getElem?_cons_zero,List.getElem?_cons_succ] at y1 y2
   exact Rg.op_value rfl rfl (Rg.ex_load a.eval _ 38 (.tmp 31) rfl (by rw [e31]; simp [go_sem,y1,y2])) (hK _ _ rfl (still 5 (by decide)) fun _ _ _ _ _ _ _ h=>h)
  ·obtain rfl:=Option.some.inj ho
   have e30:a.eval (.tmp 30)=.agg #[.int .i64 me,.slice o1 n1 k1,.slice o2 n2 k2,.slice o3 n3 k3,.slice o4 n4 k4,.slice o5 n5 k5]:=seen.at_ ⟨3,.data⟩ (by simp) rfl (Or.inr (by decide)) _ rfl
   have e32:a.eval (.tmp 32)=idv (c,d):=seen.at_ ⟨5,.data⟩ (by simp) rfl (Or.inr (by decide)) _ rfl
   have nS:¬ D 14:=fun h=>hnd (hc 11 _ (hc 14 _ h rfl ⟨11,.chain⟩ (by simp) rfl) rfl ⟨6,.chain⟩ (by simp) rfl)
   have hb:=hF.2.2.1 nS
   have n13:¬ D 13:=fun h=>hnd (hc 11 _ (hc 12 _ (hc 13 _ h rfl ⟨12,.data⟩ (by simp) rfl) rfl ⟨11,.data⟩ (by simp) rfl) rfl ⟨6,.chain⟩ (by simp) rfl)
   exact Rg.op_call rfl rfl (ex_call2 a.eval _ (.tmp 30) (.tmp 32) 31 38 78 rfl e30 e32 rfl _ (call_fn Tryz.func78 rfl rfl _ _)) (rfind_any me _ _ _ _ (o2,n2,k2) ad (c,d) x (HD.out.on hb)) fun e w1 h=>by
    obtain⟨rfl,h3⟩:=h
    refine⟨_,rfl,hK _ _ (by rw [FK.out]; rfl) ⟨fun j hj hne=>(h3.block j (Nat.lt_of_lt_of_le hj hb.size)).trans (hF.1 j hj hne),fun B hB=>(hF.2.1 B hB).trans (h3.mono (Nat.le_trans (Nat.le_trans hB (Nat.le_of_lt H6.out.lt)) hb.size)),fun _=>hb.trans (h3.mono hb.size),fun h=>absurd (h.resolve_left (by decide)) nS,Nat.le_trans hb.size h3.size⟩ fun j u hj dj _ _ _ h=>?_⟩
    rcases (by omega:j=0∨j=1∨j=2∨j=3∨j=4∨j=5∨j=6∨j=7∨j=8∨j=9∨j=10∨j=11∨j=12∨j=13∨j=14∨j=15) with rfl|rfl|rfl|rfl|rfl|rfl|rfl|rfl|rfl|rfl|rfl|rfl|rfl|rfl|rfl|rfl
    ·exact h
    ·exact h
    ·exact h
    ·exact h
    ·exact h
    ·exact h
    ·exact h
    ·exact h
    ·exact h
    ·exact h
    ·exact h
    ·exact h
    ·exact h
    ·exact absurd dj n13
    ·exact h
    ·exact absurd (hc 15 _ dj rfl ⟨13,.data⟩ (by simp) rfl) n13
  ·obtain rfl:=Option.some.inj ho
   have e29:a.eval (.tmp 29)=.slice o2 n2 k2:=seen.at_ ⟨2,.data⟩ (by simp) rfl (Or.inr (by decide)) _ rfl
   have e33:a.eval (.tmp 33)=.int .i64 (ki:Int):=seen.at_ ⟨6,.data⟩ (by simp) rfl (Or.inr (by decide)) _ rfl
   exact Rg.op_value rfl rfl (Rg.ex_index a.eval _ 26 (.tmp 29) (.tmp 33) rfl (by rw [e29,e33]; exact IX.out x)) (hK _ _ rfl (still 7 (by decide)) fun _ _ _ _ _ _ _ h=>h)
  ·obtain rfl:=Option.some.inj ho
   have e34:a.eval (.tmp 34)=.pointer (some p):=seen.at_ ⟨7,.data⟩ (by simp) rfl (Or.inr (by decide)) _ rfl
   exact Rg.op_value rfl rfl (Rg.ex_field a.eval _ 41 (.tmp 34) 2 rfl (by rw [e34]; simp [go_sem])) (hK _ _ rfl (still 8 (by decide)) fun _ _ _ _ _ _ _ h=>h)
  ·obtain rfl:=Option.some.inj ho
   have e35:a.eval (.tmp 35)=.pointer (some ⟨p.block,p.off+3,none⟩):=seen.at_ ⟨8,.data⟩ (by simp) rfl (Or.inr (by decide)) _ rfl
   have y:x.cell? ⟨p.block,p.off+3,none⟩=some (.int .i64 to_):=by
    have h:=PX.out
    unfold World.cell? at h ⊢
    rw [hF.1 _ PL.out PN.out]
    exact h
   exact Rg.op_value rfl rfl (Rg.ex_load a.eval _ 3 (.tmp 35) rfl (by rw [e35]; simp [go_sem,y])) (hK _ _ rfl (still 9 (by decide)) fun _ _ _ _ _ _ _ h=>h)
  ·obtain rfl:=Option.some.inj ho
   have e8:a.eval (.tmp 8)=.pointer (some ⟨b8,0,none⟩):=seen.kp 8 _ (nd 8 (by decide)) rfl
   have bxH8:=show Box x _ _ _ from (hF.1 _ H8.out.lt N8.out).trans H8.out
   obtain⟨y0,y1,y2,y3,y4,y5,y6⟩:=bxH8.cs7
   exact Rg.op_value rfl rfl (Rg.ex_load a.eval _ 43 (.tmp 8) rfl (by rw [e8]; simp [go_sem,y0,y1,y2,y3,y4,y5,y6])) (hK _ _ rfl (still 10 (by decide)) fun _ _ _ _ _ _ _ h=>h)
  ·obtain rfl:=Option.some.inj ho
   have e37:a.eval (.tmp 37)=valN (c,d,c2,d2,(po,pn,pc),fr,up):=seen.at_ ⟨10,.data⟩ (by simp) rfl (Or.inr (by decide)) _ rfl
   have nS:¬ D 14:=fun h=>hnd (hc 14 _ h rfl ⟨11,.chain⟩ (by simp) rfl)
   have hb:=hF.2.2.1 nS
   have n13:¬ D 13:=fun h=>hnd (hc 12 _ (hc 13 _ h rfl ⟨12,.data⟩ (by simp) rfl) rfl ⟨11,.data⟩ (by simp) rfl)
   exact Rg.op_call rfl rfl (ex_call1 a.eval _ (.tmp 37) 43 96 rfl e37 rfl _ (call_fn Tryz.func96 rfl rfl _ _)) (sub_any (c,d,c2,d2,(po,pn,pc),fr,up) x) fun e w1 h=>by
    obtain⟨rfl,h3⟩:=h
    refine⟨_,rfl,hK _ _ rfl ⟨fun j hj hne=>(h3.block j (Nat.lt_of_lt_of_le hj hb.size)).trans (hF.1 j hj hne),fun B hB=>(hF.2.1 B hB).trans (h3.mono (Nat.le_trans (Nat.le_trans hB (Nat.le_of_lt H6.out.lt)) hb.size)),fun _=>hb.trans (h3.mono hb.size),fun h=>absurd (h.resolve_left (by decide)) nS,Nat.le_trans hb.size h3.size⟩ fun j u hj dj _ _ _ h=>?_⟩
    rcases (by omega:j=0∨j=1∨j=2∨j=3∨j=4∨j=5∨j=6∨j=7∨j=8∨j=9∨j=10∨j=11∨j=12∨j=13∨j=14∨j=15) with rfl|rfl|rfl|rfl|rfl|rfl|rfl|rfl|rfl|rfl|rfl|rfl|rfl|rfl|rfl|rfl
    ·exact h
    ·exact h
    ·exact h
    ·exact h
    ·exact h
    ·exact h
    ·exact h
    ·exact h
    ·exact h
    ·exact h
    ·exact h
    ·exact h
    ·exact h
    ·exact absurd dj n13
    ·exact h
    ·exact absurd (hc 15 _ dj rfl ⟨13,.data⟩ (by simp) rfl) n13
  ·obtain rfl:=Option.some.inj ho
   have e36:a.eval (.tmp 36)=.int .i64 to_:=seen.at_ ⟨9,.data⟩ (by simp) rfl (Or.inr (by decide)) _ rfl
   have e38:a.eval (.tmp 38)=.agg #[.int .i64 3,.int .i64 c,.int .i64 d,.int .i64 c2,.int .i64 d2,.slice po pn pc,.slice none 0 0]:=seen.at_ ⟨11,.data⟩ (by simp) rfl (Or.inr (by decide)) _ rfl
   exact Rg.op_value rfl rfl (Rg.ex_buildS a.eval _ 141 #[(0,.tmp 36),(1,.tmp 38)] rfl (ps:=#[(0,.int .i64 to_),(1,.agg #[.int .i64 3,.int .i64 c,.int .i64 d,.int .i64 c2,.int .i64 d2,.slice po pn pc,.slice none 0 0])]) (by simp only [List.map_toArray,List.map_cons,List.map_nil,e36,e38]) (by simp [go_sem])) (hK _ _ rfl (still 12 (by decide)) fun _ _ _ _ _ _ _ h=>h)
  ·obtain rfl:=Option.some.inj ho
   have e39:a.eval (.tmp 39)=valU (to_,3,c,d,c2,d2,(po,pn,pc),(none,0,0)):=seen.at_ ⟨12,.data⟩ (by simp) rfl (Or.inr (by decide)) _ rfl
   have n15:¬ D 15:=fun h=>hnd (hc 15 _ h rfl ⟨13,.data⟩ (by simp) rfl)
   have hl:=row_lit okU x [((to_,3,c,d,c2,d2,(po,pn,pc),(none,0,0)):XOu)] 1 rfl (by simp) (cellsU (to_,3,c,d,c2,d2,(po,pn,pc),(none,0,0))).toArray (by simp [flat,EU])
   have nb:=newB x (.cells (cellsU (to_,3,c,d,c2,d2,(po,pn,pc),(none,0,0))).toArray 141)
   have sz:=hF.2.2.2.2
   have ff:oF W b6 #[.int .i64 me,.slice o1 n1 k1,.slice o2 n2 k2,.slice o3 n3 k3,.slice o4 n4 k4,.slice o5 n5 k5] (fun j=>j=13∨D j) (x.alloc (.cells (cellsU (to_,3,c,d,c2,d2,(po,pn,pc),(none,0,0))).toArray 141)):=⟨fun j hj hne=>(nb.block j (Nat.lt_of_lt_of_le hj sz)).trans (hF.1 j hj hne),fun B hB=>(hF.2.1 B hB).trans (nb.mono (Nat.le_trans (Nat.le_trans hB (Nat.le_of_lt H6.out.lt)) sz)),fun h=>(hF.2.2.1 fun q=>h (Or.inr q)).trans (nb.mono sz),fun h=>(hF.2.2.2.1 (h.resolve_left (by decide))).on nb,Nat.le_trans sz nb.size⟩
   have st:∀ j u,j<16→D j→j≠13→oV W.heap.size (.agg #[.int .i64 me,.slice o1 n1 k1,.slice o2 n2 k2,.slice o3 n3 k3,.slice o4 n4 k4,.slice o5 n5 k5]) c d c2 d2 (.slice o2 n2 k2) ki p to_ po pn pc fr up b3 b5 j u x→oV W.heap.size (.agg #[.int .i64 me,.slice o1 n1 k1,.slice o2 n2 k2,.slice o3 n3 k3,.slice o4 n4 k4,.slice o5 n5 k5]) c d c2 d2 (.slice o2 n2 k2) ki p to_ po pn pc fr up b3 b5 j u (x.alloc (.cells (cellsU (to_,3,c,d,c2,d2,(po,pn,pc),(none,0,0))).toArray 141)):=fun j u hj dj ni h=>by
    rcases (by omega:j=0∨j=1∨j=2∨j=3∨j=4∨j=5∨j=6∨j=7∨j=8∨j=9∨j=10∨j=11∨j=12∨j=13∨j=14∨j=15) with rfl|rfl|rfl|rfl|rfl|rfl|rfl|rfl|rfl|rfl|rfl|rfl|rfl|rfl|rfl|rfl
    ·exact h
    ·exact h
    ·exact h
    ·exact h
    ·exact h
    ·exact h
    ·exact h
    ·exact h
    ·exact h
    ·exact h
    ·exact h
    ·exact h
    ·exact h
    ·exact absurd rfl ni
    ·exact h
    ·exact absurd dj n15
   have q:=hK (.slice (some ⟨x.heap.size,0,none⟩) 1 1) (x.alloc (.cells (cellsU (to_,3,c,d,c2,d2,(po,pn,pc),(none,0,0))).toArray 141)) (own_fewer hl sz) ff fun j u hj dj _ _ ni h=>st j u hj dj ni h
   exact Rg.op_value rfl rfl (Rg.ex_build a.eval _ 78 1 #[(0,.tmp 39)] rfl (ps:=#[(0,valU (to_,3,c,d,c2,d2,(po,pn,pc),(none,0,0)))]) (by simp [e39]) (by simp [go_sem])) q
  ·obtain rfl:=Option.some.inj ho
   have e27:a.eval (.tmp 27)=.agg #[.int .i64 me,.slice o1 n1 k1,.slice o2 n2 k2,.slice o3 n3 k3,.slice o4 n4 k4,.slice o5 n5 k5]:=seen.at_ ⟨0,.data⟩ (by simp) rfl (Or.inr (by decide)) _ rfl
   have e6:a.eval (.tmp 6)=.pointer (some ⟨b6,0,none⟩):=seen.kp 6 _ (nd 6 (by decide)) rfl
   have hb:=hF.2.2.1 hnd
   have H6x:=H6.out.on hb
   have s4:=setB_heap x b6 (.int .i64 me) (.slice o1 n1 k1) (.slice o2 n2 k2) (.slice o3 n3 k3) (.slice o4 n4 k4) (.slice o5 n5 k5)
   have hx:=setB_box H6x (.int .i64 me) (.slice o1 n1 k1) (.slice o2 n2 k2) (.slice o3 n3 k3) (.slice o4 n4 k4) (.slice o5 n5 k5)
   have hs:=storeBr H6x me o1 o2 o3 o4 o5 n1 k1 n2 k2 n3 k3 n4 k4 n5 k5
   have hy:∀ B,B≤b6→Below B W (setB x b6 (.int .i64 me) (.slice o1 n1 k1) (.slice o2 n2 k2) (.slice o3 n3 k3) (.slice o4 n4 k4) (.slice o5 n5 k5)):=fun B hB=>setB_below (hF.2.1 B hB) hB _ _ _ _ _ _
   have so:∀ v l,OwnU x W.heap.size v l→OwnU (setB x b6 (.int .i64 me) (.slice o1 n1 k1) (.slice o2 n2 k2) (.slice o3 n3 k3) (.slice o4 n4 k4) (.slice o5 n5 k5)) W.heap.size v l:=fun v l h=>setB_ownA h b6 H6.out.lt _ _ _ _ _ _
   have sz:x.heap.size≤(setB x b6 (.int .i64 me) (.slice o1 n1 k1) (.slice o2 n2 k2) (.slice o3 n3 k3) (.slice o4 n4 k4) (.slice o5 n5 k5)).heap.size:=by simp [setB]
   generalize setB x b6 (.int .i64 me) (.slice o1 n1 k1) (.slice o2 n2 k2) (.slice o3 n3 k3) (.slice o4 n4 k4) (.slice o5 n5 k5)=x2 at *
   have n15:¬ D 15:=fun h=>hnd (hc 15 _ h rfl ⟨14,.chain⟩ (by simp) rfl)
   have ff:oF W b6 #[.int .i64 me,.slice o1 n1 k1,.slice o2 n2 k2,.slice o3 n3 k3,.slice o4 n4 k4,.slice o5 n5 k5] (fun j=>j=14∨D j) x2:=⟨fun j hj hne=>(s4 j hne).trans (hF.1 j hj hne),hy,fun h=>absurd (Or.inl rfl) h,fun _=>hx,Nat.le_trans hF.2.2.2.2 sz⟩
   have st:∀ j u,j<16→D j→oV W.heap.size (.agg #[.int .i64 me,.slice o1 n1 k1,.slice o2 n2 k2,.slice o3 n3 k3,.slice o4 n4 k4,.slice o5 n5 k5]) c d c2 d2 (.slice o2 n2 k2) ki p to_ po pn pc fr up b3 b5 j u x→oV W.heap.size (.agg #[.int .i64 me,.slice o1 n1 k1,.slice o2 n2 k2,.slice o3 n3 k3,.slice o4 n4 k4,.slice o5 n5 k5]) c d c2 d2 (.slice o2 n2 k2) ki p to_ po pn pc fr up b3 b5 j u x2:=fun j u hj dj h=>by
    rcases (by omega:j=0∨j=1∨j=2∨j=3∨j=4∨j=5∨j=6∨j=7∨j=8∨j=9∨j=10∨j=11∨j=12∨j=13∨j=14∨j=15) with rfl|rfl|rfl|rfl|rfl|rfl|rfl|rfl|rfl|rfl|rfl|rfl|rfl|rfl|rfl|rfl
    ·exact h
    ·exact h
    ·exact h
    ·exact h
    ·exact h
    ·exact h
    ·exact h
    ·exact h
    ·exact h
    ·exact h
    ·exact h
    ·exact h
    ·exact h
    ·exact so _ _ h
    ·exact h
    ·exact absurd dj n15
   have q:=hK (.bool true) x2 trivial ff fun j u hj dj _ _ _ h=>st j u hj dj h
   have q2:K a x2:=q
   exact Rg.op_store 31 (.tmp 6) (.tmp 27) rfl rfl rfl rfl e6 e27 hs q2
  ·obtain rfl:=Option.some.inj ho
   have o40:OwnU x W.heap.size (a.eval (.tmp 40)) [(to_,3,c,d,c2,d2,(po,pn,pc),(none,0,0))]:=seen.at_ ⟨13,.data⟩ (by simp) rfl (Or.inr (by decide)) _ rfl
   exact Rg.op_value rfl rfl (Rg.ex_assign a.eval _ (.tmp 40) rfl x) (hK _ _ o40 (still 15 (by decide)) fun _ _ _ _ _ _ _ h=>h)
 ·intro a x df sz kp ⟨vs,hv⟩ ⟨D,hall,hF⟩
  have h2:OwnU x W.heap.size (vs 15) [(to_,3,c,d,c2,d2,(po,pn,pc),(none,0,0))]:=(hv 15 (by omega)).2 (by decide)
  have g9:a.tmps[7]?=some (vs 15):=(hv 15 (by omega)).1 7 rfl
  obtain⟨sa,sc,hs⟩:=(Row.of_own h2).len
  rw [hs] at h2 g9
  exact HQ.out a x (sa,_,sc) df ((kp 6 (nd 6 (by decide))).trans rfl) g9 (hF.2.2.2.1 (hall 14 (by omega))) h2 hF.1 hF.2.1
theorem ents_keep {W W':World} {k:Nat} {me:Int} {s1 s2 s3 s4 s5:Sl} {v:Value} {l:List XEn} {m:List En} (h1:RowN W v l) (h2:All2 (EnIn W) l m) (hb:Box W k (brcells me s1 s2 s3 s4 s5) 31) (hk:∀ j,j<W.heap.size→j≠k→W'.heap[j]?=W.heap[j]?):RowN W' v l∧All2 (EnIn W') l m :=
 ⟨row_keep okN h1 hk (two_ints hb (fun _=>⟨_,_,rfl,rfl⟩) (br_ints me s1 s2 s3 s4 s5)),h2.mono fun _ _ hx=>⟨hx.1,hx.2.1,hx.2.2.1,hx.2.2.2.1,row_keep okC hx.2.2.2.2 hk (no_text hb (br_text me s1 s2 s3 s4 s5))⟩⟩
theorem outs_keep {W W':World} {k:Nat} {me:Int} {s1 s2 s3 s4 s5:Sl} {s:Sl} {m:List Ou} (h:OutsIn W s m) (hb:Box W k (brcells me s1 s2 s3 s4 s5) 31) (hk:∀ j,j<W.heap.size→j≠k→W'.heap[j]?=W.heap[j]?):OutsIn W' s m:=by
 obtain⟨xs,h1,h2⟩:=h
 exact⟨xs,row_keep okU h1 hk (two_ints hb (fun c=>⟨_,_,rfl,rfl⟩) (br_ints me s1 s2 s3 s4 s5)),h2.mono fun x a hx=>⟨hx.1,hx.2.1,hx.2.2.1,hx.2.2.2.1,row_keep okC hx.2.2.2.2.1 hk (no_text hb (br_text me s1 s2 s3 s4 s5)),hx.2.2.2.2.2⟩⟩
theorem dropB_near (b:Br) (t x:Id) (f:Int):(dropB b t x f).1=(takeB b t x f).1:=by
 unfold dropB
 split
 ·rfl
 ·split <;> rfl
theorem subs_in {W:World} {l:List XEn} {m:List En} (t:Int) (h:All2 (EnIn W) l m):All2 (OuIn W) (l.map (subX t)) (m.map (subE t)):=by
 induction h with
 | nil=>exact .nil
 | cons x _ ih=>exact .cons (sub_in x t) ih
theorem rdrop_any (b:Br) (nv av sv ev ov:Sl) (x s:Id) (f:Int) (w:World) (h:BrIn w b nv av sv ev ov) (l2:b.adv.length≤900) (l3:b.ent.length≤900) (hok:∀ e∈b.ent,PredOk e.p) (hkn:∀ e∈b.ent,e.tree∈b.adv.map Ad.id) :
  Calls Tryz.prog 97 #[brv b.me nv av sv ev ov,idv x,idv s,.int .i64 f] w fun e w'=>(∃ ev' lo:Sl,e=.returned (.tuple #[brv b.me nv av sv ev' ov,slv lo])∧BrIn w' (dropB b x s f).1 nv av sv ev' ov∧OutsIn w' lo (dropB b x s f).2)∧Below w.heap.size w w':=by
 obtain⟨no,nn,nc⟩:=nv
 obtain⟨ao,an,ac⟩:=av
 obtain⟨so,sn,sc⟩:=sv
 obtain⟨eo,en,ec⟩:=ev
 obtain⟨oo,on_,oc⟩:=ov
 obtain⟨c,d⟩:=x
 obtain⟨c2,d2⟩:=s
 have TK:=Lib.hid (fun W hb'=>rtake_any b (no,nn,nc) (ao,an,ac) (so,sn,sc) (eo,en,ec) (oo,on_,oc) (c,d) (c2,d2) f W (h.on (show Below w.heap.size w W from hb')) l3 hok)
 have HNR:=Lib.hid h.near
 have L2:=Lib.hid l2
 have L3:=Lib.hid l3
 have KN:=Lib.hid hkn
 obtain⟨h0,h1,h2,h3,h4⟩:=four_new w #[.int .i64 b.me,.slice no nn nc,.slice ao an ac,.slice so sn sc,.slice eo en ec,.slice oo on_ oc] #[.int .i64 c,.int .i64 d] #[.int .i64 c2,.int .i64 d2] #[.int .i64 0,.slice none 0 0,.slice none 0 0,.slice none 0 0,.slice none 0 0,.slice none 0 0] 31 38 38 31
 obtain⟨me,hme⟩:∃ me,me=b.me:=⟨_,rfl⟩
 simp only [← hme] at h0 h1 h2 h3 h4 TK ⊢
 have GB_1:=Lib.hid (h0)
 have X4_2:=Lib.hid (h1)
 have X5_3:=Lib.hid (h2)
 have X6_4:=Lib.hid (h3)
 have X8_5:=Lib.hid (h4)
 clear h0 h1 h2 h3 h4 h l2 l3 hme hok hkn
 go_enter Tryz.func97,Tryz.ntmps97
 go_upto_region 1 with fail
 generalize ((((w.alloc (.cells #[.int .i64 me,.slice no nn nc,.slice ao an ac,.slice so sn sc,.slice eo en ec,.slice oo on_ oc] 31)).alloc (.cells #[.int .i64 c,.int .i64 d] 38)).alloc (.cells #[.int .i64 c2,.int .i64 d2] 38)).alloc (.cells #[.int .i64 0,.slice none 0 0,.slice none 0 0,.slice none 0 0,.slice none 0 0,.slice none 0 0] 31))=W at *
 have SW:=Lib.hid (TK.out W GB_1.out)
 clear TK
 obtain⟨x0,x1,x2,x3,x4,x5⟩:=X4_2.out.cs6
 obtain⟨y0,y1⟩:=X5_3.out.cs2
 obtain⟨z0,z1⟩:=X6_4.out.cs2
 go_wp2_with fail
 refine SW.out.mono ?_
 rintro e1 w1 ⟨⟨⟨ea,en2,ec2⟩,⟨la,ln,lc⟩,rfl,hbr,xs,hrow,hall⟩,hb⟩
 clear SW
 clear x0 x1 x2 x3 x4 x5 y0 y1 z0 z1
 obtain⟨fb,hfb⟩:∃ r,(takeB b (c,d) (c2,d2) f).2.2=r:=⟨_,rfl⟩
 have LB:=Lib.hid hfb
 rw [hfb]
 obtain⟨qa,qc,hq⟩:=hrow.len
 obtain rfl:ln=xs.length:=by simpa using congrArg (fun v=>match v with|Value.slice _ n _=>n|_=>0) hq
 obtain⟨ln,hln⟩:∃ n,n=xs.length:=⟨_,rfl⟩
 simp only [← hln] at hrow ⊢
 have LN:=Lib.hid hln.symm
 clear hln hq
 have GB_6:=Lib.hid (GB_1.out.trans (hb.mono GB_1.out.size))
 have X4_6:=Lib.hid (X4_2.out.on hb)
 have X5_6:=Lib.hid (X5_3.out.on hb)
 have X6_6:=Lib.hid (X6_4.out.on hb)
 have X8_6:=Lib.hid (X8_5.out.on hb)
 clear GB_1 X4_2 X5_3 X6_4 X8_5
 obtain⟨k0,k1,k2,k3,k4,k5⟩:=X4_6.out.cs6
 obtain⟨kf0,kf1,kf2,kf3,kf4,kf5⟩:=X4_6.out.fs6
 have zz:=X4_6.out.lt
 have FB:=Lib.hid (setB_box X4_6.out (.int .i64 me) (.slice no nn nc) (.slice ao an ac) (.slice so sn sc) (.slice ea en2 ec2) (.slice oo on_ oc))
 have B2:=Lib.hid (setB_below (b:=w.heap.size) GB_6.out (Nat.le_refl _) (.int .i64 me) (.slice no nn nc) (.slice ao an ac) (.slice so sn sc) (.slice ea en2 ec2) (.slice oo on_ oc))
 have F5:=Lib.hid (show Box _ _ _ _ from (setB_heap w1 w.heap.size (.int .i64 me) (.slice no nn nc) (.slice ao an ac) (.slice so sn sc) (.slice ea en2 ec2) (.slice oo on_ oc) (w.heap.size+1) (by omega)).trans X5_6.out)
 have F6:=Lib.hid (show Box _ _ _ _ from (setB_heap w1 w.heap.size (.int .i64 me) (.slice no nn nc) (.slice ao an ac) (.slice so sn sc) (.slice ea en2 ec2) (.slice oo on_ oc) (w.heap.size+1+1) (by omega)).trans X6_6.out)
 have F8:=Lib.hid (show Box _ _ _ _ from (setB_heap w1 w.heap.size (.int .i64 me) (.slice no nn nc) (.slice ao an ac) (.slice so sn sc) (.slice ea en2 ec2) (.slice oo on_ oc) (w.heap.size+1+1+1) (by omega)).trans X8_6.out)
 have HB:=Lib.hid (brin_keep (s1:=(no,nn,nc)) (s2:=(ao,an,ac)) (s3:=(so,sn,sc)) (s4:=(eo,en,ec)) (s5:=(oo,on_,oc)) hbr X4_6.out (fun j _ hj=>setB_heap w1 w.heap.size (.int .i64 me) (.slice no nn nc) (.slice ao an ac) (.slice so sn sc) (.slice ea en2 ec2) (.slice oo on_ oc) j hj) (by rw [(takeB_adv b (c,d) (c2,d2) f).2.1]; exact HNR.out.on B2.out))
 have HX:=Lib.hid (ents_keep (s1:=(no,nn,nc)) (s2:=(ao,an,ac)) (s3:=(so,sn,sc)) (s4:=(eo,en,ec)) (s5:=(oo,on_,oc)) hrow hall X4_6.out (fun j _ hj=>setB_heap w1 w.heap.size (.int .i64 me) (.slice no nn nc) (.slice ao an ac) (.slice so sn sc) (.slice ea en2 ec2) (.slice oo on_ oc) j hj))
 clear hfb hbr hb hrow hall GB_6 X4_6 X5_6 X6_6 X8_6
 go_upto_region 2 with fail
 clear zz k0 k1 k2 k3 k4 k5 kf0 kf1 kf2 kf3 kf4 kf5
 unfold setB at FB B2 F5 F6 F8 HB HX
 generalize ((((((w1.setCell ⟨w.heap.size,0,none⟩ (.int .i64 me)).setCell ⟨w.heap.size,1,none⟩ (.slice no nn nc)).setCell ⟨w.heap.size,2,none⟩ (.slice ao an ac)).setCell ⟨w.heap.size,3,none⟩ (.slice so sn sc)).setCell ⟨w.heap.size,4,none⟩ (.slice ea en2 ec2)).setCell ⟨w.heap.size,5,none⟩ (.slice oo on_ oc))=w2 at *
 have GB_7:=Lib.hid (B2.out)
 have X4_8:=Lib.hid (FB.out)
 have X5_9:=Lib.hid (F5.out)
 have X6_10:=Lib.hid (F6.out)
 have X8_11:=Lib.hid (F8.out)
 clear B2 FB F5 F6 F8
 cases fb
 ·have x0:=X4_8.out.cell 0
  have x1:=X4_8.out.cell 1
  have x2:=X4_8.out.cell 2
  have x3:=X4_8.out.cell 3
  have x4:=X4_8.out.cell 4
  have x5:=X4_8.out.cell 5
  simp only [List.getElem?_toArray,List.getElem?_cons_zero,List.getElem?_cons_succ] at x0 x1 x2 x3 x4 x5
  obtain⟨r0,r1,r2,r3,r4,r5⟩:=X8_11.out.cs6
  obtain⟨rf0,rf1,rf2,rf3,rf4,rf5⟩:=X8_11.out.fs6
  have zz:=X8_11.out.lt
  have GG:=Lib.hid (setB_box X8_11.out (.int .i64 me) (.slice no nn nc) (.slice ao an ac) (.slice so sn sc) (.slice ea en2 ec2) (.slice oo on_ oc))
  have BL:=Lib.hid (setB_below (b:=w.heap.size+1+1+1) GB_7.out (by omega) (.int .i64 me) (.slice no nn nc) (.slice ao an ac) (.slice so sn sc) (.slice ea en2 ec2) (.slice oo on_ oc))
  have HC:=Lib.hid (brin_keep (s1:=(none,0,0)) (s2:=(none,0,0)) (s3:=(none,0,0)) (s4:=(none,0,0)) (s5:=(none,0,0)) HB.out X8_11.out (fun j _ hj=>setB_heap w2 (w.heap.size+1+1+1) (.int .i64 me) (.slice no nn nc) (.slice ao an ac) (.slice so sn sc) (.slice ea en2 ec2) (.slice oo on_ oc) j hj) (by rw [(takeB_adv b (c,d) (c2,d2) f).2.1]; exact HNR.out.on BL.out))
  clear HB HX
  go_wp2_with fail
  obtain⟨v0,v1,v2,v3,v4,v5⟩:=GG.out.cs6
  refine bodyPost_ret (v:=.tuple #[.agg #[.int .i64 me,.slice no nn nc,.slice ao an ac,.slice so sn sc,.slice ea en2 ec2,.slice oo on_ oc],.slice none 0 0]) (by simp [results,Tryz.results97,go_sem,v0,v1,v2,v3,v4,v5]) rfl ?_
  have hd:dropB b (c,d) (c2,d2) f=((takeB b (c,d) (c2,d2) f).1,[]):=by unfold dropB; rw [if_pos LB.out]
  rw [hd]
  exact⟨⟨(ea,en2,ec2),(none,0,0),rfl,HC.out,outs_nil _⟩,BL.out⟩
 ·obtain⟨e0,he0,ht0⟩:=takeB_true LB.out
  have hmem:(c,d)∈b.adv.map Ad.id:=ht0 ▸ KN.out e0 he0
  obtain⟨k,hk1,hk2⟩:=findI_mem _ _ hmem
  rw [List.getElem?_map] at hk2
  obtain⟨a,hak⟩:∃ a,b.adv[k]?=some a:=by
   cases h:b.adv[k]? with
   | none=>rw [h] at hk2; cases hk2
   | some a=>exact⟨a,rfl⟩
  have DB:=Lib.hid (show dropB b (c,d) (c2,d2) f=((takeB b (c,d) (c2,d2) f).1,(takeB b (c,d) (c2,d2) f).2.1.map (subE a.par)++[⟨a.par,4,(c,d),(c2,d2),[]⟩]) from by
   unfold dropB
   rw [if_neg (by rw [LB.out]; simp),hk1,Int.toNat_natCast,hak])
  clear hk2 hmem he0 ht0 e0
  obtain⟨ad,had1,had2⟩:=HB.out.adv
  rw [(takeB_adv b (c,d) (c2,d2) f).1] at had2
  obtain⟨z,hz1,hz2⟩:=had2.at k a hak
  have FD:=rfind_any me (.slice no nn nc) (.slice ea en2 ec2) (.slice so sn sc) (.slice oo on_ oc) (ao,an,ac) ad (c,d)
  rw [ids_eq had2,hk1] at FD
  obtain⟨q1,q2,hq⟩:=had1.len
  obtain⟨rfl,rfl,rfl⟩:ao=q1∧an=ad.length∧ac=q2:=by
   have:Value.slice ao an ac=.slice q1 ad.length q2:=hq
   simpa using this
  obtain⟨p,ix,px⟩:=elD had1 rfl rfl hz1
  obtain⟨p0,p1,p2,p3⟩:=px w2 (Below.refl _ _)
  obtain⟨z1,z2,⟨z3,z4,z5⟩,z6⟩:=z
  simp only at p0 p1 p2 p3
  obtain rfl:z6=a.par:=hz2.2.1
  have CE:=Lib.hid (fun d os=>Calls.regrown_of (d:=d) (os:=os) (FD _ (had1.on (below_regrown w2 d os))))
  obtain⟨an,han⟩:∃ n,n=ad.length:=⟨_,rfl⟩
  clear FD hq px p0 p1 p2
  have q3:=cell_regrown p3
  simp only [← han] at ix CE X4_8 HB
  have HAN:=Lib.hid han
  clear han hz2 hak hk1 had2 had1 hz1 p3
  have a0:=cell_regrown (show w2.cell? ⟨w.heap.size,0,none⟩=some (.int .i64 me) from X4_8.out.cell 0)
  have a1:=cell_regrown (show w2.cell? ⟨w.heap.size,1,none⟩=some (.slice no nn nc) from X4_8.out.cell 1)
  have a2:=cell_regrown (show w2.cell? ⟨w.heap.size,2,none⟩=some (.slice ao an ac) from X4_8.out.cell 2)
  have a3:=cell_regrown (show w2.cell? ⟨w.heap.size,3,none⟩=some (.slice so sn sc) from X4_8.out.cell 3)
  have a4:=cell_regrown (show w2.cell? ⟨w.heap.size,4,none⟩=some (.slice ea en2 ec2) from X4_8.out.cell 4)
  have a5:=cell_regrown (show w2.cell? ⟨w.heap.size,5,none⟩=some (.slice oo on_ oc) from X4_8.out.cell 5)
  have b0:=cell_regrown (show w2.cell? ⟨w.heap.size+1,0,none⟩=some (.int .i64 c) from X5_9.out.cell 0)
  have b1:=cell_regrown (show w2.cell? ⟨w.heap.size+1,1,none⟩=some (.int .i64 d) from X5_9.out.cell 1)
  go_upto_region 4 with fail
  refine wp_region_quiet_below (by kernel_rfl) (by kernel_rfl) ?_
  repeat (go_big_quiet_step (first | (with_reducible exact CE.out _ _)))
  refine wpQuiet_nil ?_
  intro _ hw'
  obtain⟨⟨dq,osq⟩,hw''⟩:=hw'
  subst hw''
  have Z6:=below_regrown w2 dq osq
  have HB2:=Lib.hid (HB.out.on Z6)
  have HX2:=Lib.hid (show RowN _ _ _∧All2 (EnIn _) _ _ from ⟨HX.out.1.on Z6,HX.out.2.mono fun _ _ h=>h.on Z6⟩)
  have GB_12:=Lib.hid (GB_7.out.trans (Z6.mono GB_7.out.size))
  have X4_12:=Lib.hid (X4_8.out.on Z6)
  have X5_12:=Lib.hid (X5_9.out.on Z6)
  have X6_12:=Lib.hid (X6_10.out.on Z6)
  have X8_12:=Lib.hid (X8_11.out.on Z6)
  clear GB_7 X4_8 X5_9 X6_10 X8_11
  clear Z6 HB HX CE ix q3 a0 a1 a2 a3 a4 a5 b0 b1
  generalize grow (redrawn w2 dq) osq=w3 at *
  generalize a.par=to_ at *
  go_wp2_with fail
  go_loopw [13,38] (fun v i wr=>∃ k:Nat,k≤ln∧i=.int .i64 k∧Below w3.heap.size w3 wr∧OwnU wr w3.heap.size v ((xs.take k).map (subX to_))) (fun _ i _=>ln-(intOf i).toNat)
  case atStart=>exact⟨0,Nat.zero_le _,rfl,Below.refl _ _,own_nil _ _⟩
  case round =>
   obtain⟨k,hk,rfl,hbe,hown⟩:=hrel
   have BE:=Lib.hid hbe
   have OE:=Lib.hid hown
   clear hbe hown
   have L9:=Lib.hid (show ln≤900 from by have h1:=HX2.out.2.len; rw [LN.out] at h1; rw [h1]; exact Nat.le_trans (takeB_len b (c,d) (c2,d2) f).2 L3.out)
   have l9:=L9.out
   by_cases hlt:k<ln
   ·have hlt':(k:Int)<(ln:Int):=by omega
    have hw:IntKind.i64.wrap ((k:Int)+1)=(k:Int)+1:=IntWalk.i64_in _ (by omega)
    obtain⟨y,hy⟩:∃ y,xs[k]?=some y:=⟨_,List.getElem?_eq_getElem (by rw [LN.out]; exact hlt)⟩
    obtain⟨p,ix,px⟩:=elN HX2.out.1 rfl LN.out hy
    obtain⟨p0,p1,p2,p3,p4,p5,p6⟩:=px wr BE.out
    have TKY:=Lib.hid (show (xs.take (k+1)).map (subX to_)=(xs.take k).map (subX to_)++[subX to_ y] from by rw [List.take_add_one,hy]; simp)
    obtain⟨y1,y2,y3,y4,⟨yo,yn,yc⟩,y6,y7⟩:=y
    simp only at p0 p1 p2 p3 p4 p5 p6
    clear px hy
    go_upto_region 9 with fail
    clear p0 p1 p2 p3 p4 p5 p6 ix
    have NN:=newB wr (.cells #[.int .i64 y1,.int .i64 y2,.int .i64 y3,.int .i64 y4,.slice yo yn yc,.int .i64 y6,.bool y7] 43)
    have XE:=box_new wr #[.int .i64 y1,.int .i64 y2,.int .i64 y3,.int .i64 y4,.slice yo yn yc,.int .i64 y6,.bool y7] 43
    have BE2:=Lib.hid (BE.out.trans (NN.mono BE.out.size))
    have OE2:=Lib.hid (Bk.own_on OE.out NN)
    clear BE OE NN
    generalize wr.alloc (.cells #[.int .i64 y1,.int .i64 y2,.int .i64 y3,.int .i64 y4,.slice yo yn yc,.int .i64 y6,.bool y7] 43)=wa at *
    obtain⟨c0_,c1_,c2_,c3_,c4_,c5_,c6_⟩:=XE.cs7
    have SB:=sub_any (y1,y2,y3,y4,(yo,yn,yc),y6,y7) wa
    go_wp2_with fail
    refine SB.mono ?_
    rintro e3 wb ⟨rfl,hb⟩
    clear SB XE c0_ c1_ c2_ c3_ c4_ c5_ c6_
    have BE3:=Lib.hid (BE2.out.trans (hb.mono BE2.out.size))
    have OE3:=Lib.hid (Bk.own_on OE2.out hb)
    clear hb BE2 OE2
    have hl:=row_lit okU wb [((to_,3,y1,y2,y3,y4,(yo,yn,yc),(none,0,0)):XOu)] 1 rfl (by simp) #[.int .i64 to_,.int .i64 3,.int .i64 y1,.int .i64 y2,.int .i64 y3,.int .i64 y4,.slice yo yn yc,.slice none 0 0] (by rfl)
    have NB:=newB wb (.cells #[.int .i64 to_,.int .i64 3,.int .i64 y1,.int .i64 y2,.int .i64 y3,.int .i64 y4,.slice yo yn yc,.slice none 0 0] 141)
    obtain⟨v',x5,q2,o2,g2⟩:=app_row okU w3.heap.size (Bk.own_on OE3.out NB) (Row.of_own hl) (by rw [List.length_map,List.length_take]; omega) (by simp) (Nat.le_trans BE3.out.size NB.size) 78
    have q2:(Builtin.append_ #[78,78] 78 #[u13,.slice (some ⟨wb.heap.size,0,none⟩) 1 1]).run Tryz.prog (wb.alloc (.cells #[.int .i64 to_,.int .i64 3,.int .i64 y1,.int .i64 y2,.int .i64 y3,.int .i64 y4,.slice yo yn yc,.slice none 0 0] 141))=.ok v' x5:=q2
    have BX:=Lib.hid ((BE3.out.trans (NB.mono BE3.out.size)).grown g2 (Nat.le_trans BE3.out.size NB.size) (fun j hj=>((Bk.own_on OE3.out NB).lt j hj).1))
    have O2:=Lib.hid o2
    clear hl NB o2 g2
    go_wp2_with (first | (at_builtin; refine wpList_append_run rfl _ _ 78 rfl rfl rfl q2 ?_) | fail)
    go_roundw
    case rel=>exact⟨k+1,hlt,by go_num,BX.out,by rw [TKY.out]; exact O2.out⟩
    case measure=>simp [intOf]; omega
   ·obtain rfl:k=ln:=by omega
    have ht:xs.take k=xs:=List.take_of_length_le (by rw [LN.out]; exact Nat.le_refl _)
    rw [ht] at OE
    clear ht
    go_upto_region 11 with fail
    refine drop_r11 _ wr w3.heap.size w.heap.size (w.heap.size+1) (w.heap.size+1+1) (w.heap.size+1+1+1) me to_ c d c2 d2 no ao so ea oo nn nc an ac sn sc en2 ec2 on_ oc u13 (xs.map (subX to_)) _ _ _ _ _ _ _ _ _ _ _ _ _ _ _ _ _ _ _ _ _ _ _ _ _ _ _ _ _ _ _ _ _ _ _ _ _ _ _ _ _ _ _ _ _ _ _ _ _ _ _ _ _ _ _ _ _ _ _ (X4_12.out.on BE.out) (X5_12.out.on BE.out) (X6_12.out.on BE.out) (X8_12.out.on BE.out) X4_12.out.lt X5_12.out.lt X6_12.out.lt X8_12.out.lt (by omega) (by omega) (by omega) BE.out.size OE.out (by rw [List.length_map,LN.out]; omega) ?_
    intro a9 x9 sl hd9 h69 h79 hbx ho hblk hbl
    have BL:=Lib.hid (show Below w.heap.size w x9 from (GB_12.out.trans (BE.out.mono GB_12.out.size)).trans (hbl w.heap.size (by omega)))
    have HK:=Lib.hid (show ∀ j,j<w3.heap.size→j≠w.heap.size+1+1+1→x9.heap[j]?=w3.heap[j]? from fun j hj hne=>(hblk j hj hne).trans (BE.out.block j hj))
    have HC:=Lib.hid (brin_keep (s1:=(none,0,0)) (s2:=(none,0,0)) (s3:=(none,0,0)) (s4:=(none,0,0)) (s5:=(none,0,0)) HB2.out X8_12.out HK.out (by rw [(takeB_adv b (c,d) (c2,d2) f).2.1]; exact HNR.out.on BL.out))
    have HX3:=Lib.hid (ents_keep (s1:=(none,0,0)) (s2:=(none,0,0)) (s3:=(none,0,0)) (s4:=(none,0,0)) (s5:=(none,0,0)) HX2.out.1 HX2.out.2 X8_12.out HK.out)
    have HU:=Lib.hid (Row.of_own ho)
    obtain⟨v0,v1,v2,v3,v4,v5⟩:=hbx.cs6
    clear hbx ho hblk hbl HB2 HX2 BE OE
    simp only [Exit.then]
    apply_assumption
    go_wp2_with fail
    refine bodyPost_ret (v:=.tuple #[.agg #[.int .i64 me,.slice no nn nc,.slice ao an ac,.slice so sn sc,.slice ea en2 ec2,.slice oo on_ oc],slv sl]) (by simp [results,Tryz.results97,go_sem,h69,h79,v0,v1,v2,v3,v4,v5]) hd9 ?_
    have h9:=HAN.out
    subst h9
    rw [DB.out]
    exact⟨⟨(ea,en2,ec2),sl,rfl,HC.out,_,HU.out,(subs_in to_ HX3.out.2).append (.cons ⟨rfl,rfl,rfl,rfl,row_nil _,rfl⟩ .nil)⟩,BL.out⟩
end Go.Proofs.YtncogjpmboglhaaGreat.Bk
namespace Go.Proofs.YtncogjpmboglhaaGreat.Av
open Go.RowKit Go.ChangeShapes Go.WideShapes Bk
theorem cellsSt:Tryz.prog.cellsOf 74=7:=by kernel_rfl
theorem indexSt (a:Addr) (m len cap:Nat) (h:m<len) (w:World):(Instr.indexAt 22 (.slice (some a) len cap) (.int .i64 m)).run Tryz.prog w=.ok (.pointer (some (a.add (m * 7)))) w:=by
 have h1:(m:Int)<len:=by omega
 simp [go_sem,Tryz.underlying22,h1]
structure InSt (W:World) (v:Value) (n:Nat):Prop where
 shape:∃ ao cap,v=.slice ao n cap
 at_:∀ i:Nat,i<n→∃ (p:Addr) (z0 z1 z2 z3 z4:Int) (h1:Option Addr) (h2 h3:Nat) (g1:Option Addr) (g2 g3:Nat) (has vals:List Int),p.block<W.heap.size∧(∀ w,(Instr.indexAt 22 v (.int .i64 i)).run Tryz.prog w=.ok (.pointer (some p)) w)∧(∀ j u,([.int .i64 z0,.int .i64 z1,.int .i64 z2,.int .i64 z3,.int .i64 z4,.slice h1 h2 h3,.slice g1 g2 g3]:List Value)[j]?=some u→W.cell? (p.add j)=some u)∧((-9223372036854775808≤z0∧z0≤9223372036854775807)∧(-9223372036854775808≤z1∧z1≤9223372036854775807)∧(-9223372036854775808≤z2∧z2≤9223372036854775807)∧(-9223372036854775808≤z3∧z3≤9223372036854775807)∧(-9223372036854775808≤z4∧z4≤9223372036854775807))∧In.InInts W (.slice h1 h2 h3) has∧In.InInts W (.slice g1 g2 g3) vals∧has.length≤maxLen∧vals.length≤maxLen
theorem InSt.on {W W':World} {v:Value} {n:Nat} (h:InSt W v n) (hb:Below W.heap.size W W'):InSt W' v n :=
 ⟨h.shape,fun i hi=>by
  obtain⟨p,z0,z1,z2,z3,z4,x1,x2,x3,y1,y2,y3,has,vals,h1,h2,h3,h4,h5,h6,h7⟩:=h.at_ i hi
  exact⟨p,z0,z1,z2,z3,z4,x1,x2,x3,y1,y2,y3,has,vals,Nat.lt_of_lt_of_le h1 hb.size,h2,fun j u hu=>by rw [hb.cell (by rw [add_blk]; exact h1)]; exact h3 j u hu,h4,h5.on hb,h6.on hb,h7⟩⟩
end Go.Proofs.YtncogjpmboglhaaGreat.Av
