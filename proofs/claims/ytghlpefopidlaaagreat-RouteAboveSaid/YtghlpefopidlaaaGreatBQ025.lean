/-
  slices.Sort and slic. Conditions as told.
-/
import Derived.Test.YtghlpefopidlaaaGreatBQ020
import Derived.Test.YtghlpefopidlaaaGreatBQ024
set_option maxRecDepth 100000
set_option maxHeartbeats 64000000
open _root_.Bool renaming true->aK,and_eq_true->aT
open _root_.Go renaming World->au,Value->aI,Act->aW
open Go.Lib renaming compact->O,hid->Z,compactUpTo->aj
open Go.Region renaming binds->ak
open Go.Sort renaming ahead->ah
open Go.Value renaming slice->J,int->ay
open _root_.List renaming mem_cons->aA,mem_singleton->aC,replicate->aD,pairwise_iff_getElem->aF,getElem?_eq_getElem->aG,mem_append->aJ,mem_cons_of_mem->aN,getElem?_take->aO,length_append->aP,pairwise_cons->aQ,length_map->aU
open _root_.Nat renaming le_trans->aH,mul_le_mul_right->aM,lt_or_ge->aR,le_of_lt->aS,le_refl->aV
open _root_.Option renaming none->U,some->aB
namespace Go.Proofs.YtghlpefopidlaaaGreat
namespace Av
open Go.RowKit Rw YtghlpefopidlaaaGreat.Nm Pr Bk Go.Sort
theorem Mk {α:Type} [Inhabited α] (enc:α->aI) (d:Array α) (cur:Array aI) (h:d.size<=cur.size):(putCells enc 0 d cur).toList.take d.size=d.toList.map enc:=by
 apply List.ext_getElem?;intro j;rw [aO];by_cases hj:j<d.size
 ·have hc:j<cur.size:=by omega
  simp [putCells,hj,hc]
 ·simp [hj]
theorem vX {α β:Type} [Inhabited β] {E:Ek α} (K:E.Ok) {w:au} {B g cap:Nat} {l l':List α} (h:Own E w B (J (aB ⟨g,0,U⟩) l.length cap) l) (enc:β->aI) (d:Array β) (hd:d.toList.map enc=flat E l') (hl:l'.length=l.length) (n:Nat) (os:Array Obj) :
  Own E (grow (putRow enc (ah w n) g 0 d) os) B (J (aB ⟨g,0,U⟩) l.length cap) l'/\w.grownBy (grow (putRow enc (ah w n) g 0 d) os) (aB g):=by
 have hds:d.size=l.length * E.n:=by
  rw [<- hl,<- dJ K l',<- hd];simp
 rcases eZ h with⟨e,_⟩|⟨g',cap',cur,e,h1,h2,h3,h4,h5,h6⟩
 ·cases e
 obtain⟨rfl,rfl⟩:g=g'/\cap=cap':=by simpa using e
 have hlt:=lt_of_heap h2;have hb:(grow (putRow enc (ah w n) g 0 d) os).heap[g]?=aB (.cells (putCells enc 0 d cur) E.t (0,0)):=by
  rw [heap_grow_old _ _ (by simp [putRow,mapBlock,ah]; exact hlt)];unfold dG at h2;simp only [putRow,mapBlock,ah,Array.getElem?_modify,if_true,h2]
  rfl
 have hfit:d.size<=cur.size:=by
  rw [hds,h5];exact aM _ h3
 refine⟨⟨by rw [dJ K],Or.inr ⟨g,cap,_,by rw [hl],h1,hb,by rw [hl]; exact h3,h4,by simp [putCells]; exact h5,?_⟩⟩,⟨rfl,rfl,rfl,by simp [putRow,mapBlock,ah],fun k hk hne=>?_⟩⟩
 ·rw [hl,<- hds,Mk enc d cur hfit,hd]
 ·rw [heap_grow_old _ _ (by simp [putRow,mapBlock,ah]; exact hk)];have hkg:g≠k:=fun e=>hne (by rw [e]);simp [putRow,mapBlock,ah,Array.getElem?_modify,hkg]
theorem yV {α:Type} {E:Ek α} {w:au} {B g cap:Nat} {l:List α} (K:E.Ok) {β:Type} [Inhabited β] (enc:β->aI) (d:Array β) (hd:d.toList.map enc=flat E l) (h:Own E w B (J (aB ⟨g,0,U⟩) l.length cap) l):Holds enc w g 0 d/\g<w.heap.size:=by
 rcases eZ h with⟨e,_⟩|⟨g',cap',cur,e,h1,h2,h3,h4,h5,h6⟩
 ·cases e
 obtain⟨rfl,rfl⟩:g=g'/\cap=cap':=by simpa using e
 refine⟨fun j hj=>?_,h2.lt⟩;rw [Nat.zero_add];refine⟨?_,h2.fr j⟩;rw [h2.cell j];have hsz:d.size=l.length * E.n:=by
  rw [<- dJ K l,<- hd];simp
 have h7:(cur.toList.take (l.length * E.n))[j]?=(d.toList.map enc)[j]?:=by rw [h6,hd]
 rw [aO,if_pos (by omega)] at h7;rw [Array.getElem?_toList] at h7;rw [h7,List.getElem?_map,Array.getElem?_toList,getElem!_pos d j hj,Array.getElem?_eq_getElem hj]
 rfl
theorem Jo (w:au) (B:Nat) (v:aI) (l:List Int) (h:uH w B v l) (hlen:l.length<=900):Calls Tryz.prog 40 #[v] w fun e w'=>e=.returned (.tuple #[])/\∃ l':List Int,uH w' B v l'/\l'.Perm l/\l'.Pairwise (·<=·)/\w.grownBy w' v.ownBlock:=by
 rcases eZ h with⟨rfl,rfl⟩|⟨g,cap,cur,rfl,h1,h2,h3,h4,h5,h6⟩
 ·have hc:=Any.slices_Sort_int_none Tryz.sortI U 0 w;refine Calls.mono hc ?_;rintro e w' ⟨rfl,rfl⟩;exact⟨rfl,[],h,List.Perm.refl _,List.Pairwise.nil,Rw.nP _ _⟩
 ·obtain⟨hh,hlt⟩:=yV Nm.PG (ay .i64) l.toArray (by rw [Bz]) h;have hc:=Any.slices_Sort_int Tryz.sortI g 0 cap l w hh hlt (by omega);refine Calls.mono hc ?_;rintro e w' ⟨rfl,n,os,rfl⟩;have hs:=vX Nm.PG (l':=l.mergeSort fun x y=>decide (x<=y)) h (ay .i64) (l.mergeSort fun x y=>decide (x<=y)).toArray (by rw [Bz]) (List.length_mergeSort l) n os;refine⟨rfl,_,hs.1,List.mergeSort_perm _ _,?_,hs.2⟩;have hp:=List.pairwise_mergeSort (le:=fun x y:Int=>decide (x<=y)) (fun a b c h1 h2=>by simp at h1 h2 ⊢; omega) (fun a b=>by simp; omega) l;exact hp.imp (fun {a b} hab=>by simpa using hab)
theorem CX (d:Array Int) (n:Nat) (hs:∀ i j,i<=j->j<n->d[i]!<=d[j]!):∀ m,m<=n->(∀ x∈aj d m,∃ j,j<m/\d[j]! = x)/\(∀ j,j<m->d[j]!∈aj d m)/\(aj d m).Pairwise (·<·)
 | 0,_=>⟨fun x h=>by simp [aj] at h,fun j h=>by omega,by simp [aj]⟩
 | m+1,hm=>by
  obtain⟨h1,h2,h3⟩:=CX d n hs m (by omega);rw [Lib.compactUpTo_succ];cases hk:Lib.keeps d m with
  | false =>
   simp only [Bool.false_eq_true,if_false,List.append_nil];have hk':m≠0/\d[m]! = d[m-1]!:=by
    have h:=of_decide_eq_false hk;rw [not_or] at h;exact⟨h.1,Classical.not_not.1 h.2⟩
   refine⟨fun x hx=>?_,fun j hj=>?_,h3⟩
   ·obtain⟨j,hj,e⟩:=h1 x hx;exact⟨j,by omega,e⟩
   ·rcases aR j m with h|h
    ·exact h2 j h
    ·obtain rfl:j=m:=by omega
     rw [hk'.2];exact h2 _ (by omega)
  | true =>
   simp only [if_true];have hk':m=0\/d[m]!≠d[m-1]!:=of_decide_eq_true hk;refine⟨fun x hx=>?_,fun j hj=>?_,?_⟩
   ·rcases aJ.1 hx with h|h
    ·obtain⟨j,hj,e⟩:=h1 x h;exact⟨j,by omega,e⟩
    ·exact⟨m,by omega,(aC.1 h).symm⟩
   ·rcases aR j m with h|h
    ·exact List.mem_append_left _ (h2 j h)
    ·obtain rfl:j=m:=by omega
     exact List.mem_append_right _ (by simp)
   ·rw [List.pairwise_append];refine⟨h3,List.pairwise_singleton _ _,fun a ha b hb=>?_⟩;obtain⟨j,hj,rfl⟩:=h1 a ha;rw [aC.1 hb];have a1:=hs j (m-1) (by omega) (by omega);have a2:=hs (m-1) m (by omega) (by omega);rcases hk' with h|h
    ·omega
    ·omega
theorem Fb (l:List Int) (hs:l.Pairwise (·<=·)):(O l).Pairwise (·<·)/\(∀ x,x∈O l↔x∈l)/\(O l).length<=l.length:=by
 have hd:∀ i j,i<=j->j<l.length->l.toArray[i]!<=l.toArray[j]!:=by
  intro i j hij hj;rw [getElem!_pos l.toArray i (by simp; omega),getElem!_pos l.toArray j (by simpa using hj)];rcases aR i j with h|h
  ·have:=aF.1 hs i j (by omega) hj h;simpa using this
  ·obtain rfl:i=j:=by omega
   exact Int.le_refl _
 obtain⟨h1,h2,h3⟩:=CX l.toArray l.length hd l.length (aV _);refine⟨h3,fun x=>⟨fun hx=>?_,fun hx=>?_⟩,?_⟩
 ·obtain⟨j,hj,rfl⟩:=h1 x hx;rw [getElem!_pos l.toArray j (by simpa using hj)];simp
 ·obtain⟨j,hj,rfl⟩:=List.mem_iff_getElem.1 hx;have:=h2 j hj;rw [getElem!_pos l.toArray j (by simpa using hj)] at this;simpa [O] using this
 ·unfold O aj;rw [aU];exact aH (List.length_filter_le _ _) (by simp)
theorem Ml (w:au) (B:Nat) (v:Sl) (l:List Int) (h:uH w B (dQ v) l) (hs:l.Pairwise (·<=·)) (hlen:l.length<=900):Calls Tryz.prog 41 #[dQ v] w fun e w'=>(∃ v':Sl,e=.returned (dQ v')/\∃ l':List Int,uH w' B (dQ v') l'/\l'.Pairwise (·<·)/\∀ x,x∈l'↔x∈l)/\w.grownBy w' (dQ v).ownBlock:=by
 obtain⟨vo,vn,vc⟩:=v;rcases eZ h with⟨h0,rfl⟩|⟨g,cap,cur,h0,h1,h2,h3,h4,h5,h6⟩
 ·obtain⟨rfl,rfl,rfl⟩:vo=U/\vn=0/\vc=0:=by simpa using h0
  have hc:=Any.slices_Compact_int_empty Tryz.cptI U 0 w;refine Calls.mono hc ?_;rintro e w' ⟨rfl,rfl⟩;exact⟨⟨(U,0,0),rfl,[],h,List.Pairwise.nil,fun _=>Iff.rfl⟩,Rw.nP _ _⟩
 ·obtain⟨rfl,rfl,rfl⟩:vo=aB ⟨g,0,U⟩/\vn=l.length/\vc=cap:=by simpa using h0
  obtain⟨hh,hlt⟩:=yV Nm.PG (ay .i64) l.toArray (by rw [Bz]) h;have hc:=Any.slices_Compact_int Tryz.cptI g 0 vc l w hh (by omega) h3;obtain⟨c1,c2,c3⟩:=Fb l hs;refine Calls.mono hc ?_;rintro e w' ⟨rfl,n,rfl⟩;have ht:=vX Nm.PG (l':=O l++aD (l.length-(O l).length) 0) h (ay .i64) (O l++aD (l.length-(O l).length) 0).toArray (by rw [Bz]) (by rw [aP,List.length_replicate]; omega) n #[];have hg:grow (putRow (ay .i64) (ah w n) g 0 (O l++aD (l.length-(O l).length) 0).toArray) #[]=putRow (ay .i64) (ah w n) g 0 (O l++aD (l.length-(O l).length) 0).toArray:=grow_empty _;rw [hg] at ht;refine⟨⟨(aB ⟨g,0,U⟩,(O l).length,vc),rfl,O l,?_,c1,c2⟩,ht.2⟩;rcases eZ ht.1 with⟨e,_⟩|⟨g',cap',cur',e,k1,k2,k3,k4,k5,k6⟩
  ·cases e
  ·obtain⟨rfl,_,rfl⟩:g=g'/\l.length=_/\vc=cap':=by simpa using e
   refine kD Nm.PG rfl k1 k2 (aH c3 h3) k4 k5 ?_;have k7:=congrArg (List.take ((O l).length * EI.n)) k6;rw [List.take_take,kX Nm.PG,Nat.min_eq_left (aM _ (by rw [aP]; omega)),List.take_left'] at k7
   ·exact k7
   ·rfl
abbrev o9 (me:Int) (near:List Int):Br:=⟨me,near,[],[],[],[]⟩
theorem CY (me:Int) (v:Sl) (l:List Int) (w:au) (hv:Bw w (dQ v) l) (hl:l.length<=900) :
  Calls Tryz.prog 9 #[ay .i64 me,dQ v] w fun e w'=>(∃ (l':List Int) (nv:Sl),e=.returned (mg me nv (U,0,0) (U,0,0) (U,0,0) (U,0,0))/\ny w' (o9 me l') nv (U,0,0) (U,0,0) (U,0,0) (U,0,0)/\(∃ B,uH w' B (dQ nv) l')/\l'.Pairwise (·<·)/\∀ x,x∈l'↔x∈l)/\Below w.heap.size w w':=by
 have n0:=jk w (.cells #[ay .i64 0,J U 0 0,J U 0 0,J U 0 0,J U 0 0,J U 0 0] 30);have X:=Z (dO w #[ay .i64 0,J U 0 0,J U 0 0,J U 0 0,J U 0 0,J U 0 0] 30);have C:=Z (vH v l _ (hv.on n0) hl);have B0:=Z n0;have HL:=Z hl;obtain⟨vo,vn,vc⟩:=v;clear hv hl n0;go_enter Tryz.func9,Tryz.ntmps9;go_wp2_with fail;generalize w.alloc (.cells #[ay .i64 0,J U 0 0,J U 0 0,J U 0 0,J U 0 0,J U 0 0] 30)=W at *;refine C.out.mono ?_;rintro e1 w1 ⟨⟨⟨p1,p2,p3⟩,rfl,ho⟩,hb⟩;have B1:=Z (B0.out.trans (hb.mono B0.out.size));have X1:=Z (X.out.on hb);have hlt:w.heap.size<W.heap.size:=X.out.lt;have C2:=Z (Jo w1 W.heap.size _ l ho HL.out);have OT:=Z (fun g hg=>(ho.lt g hg).1);have HW:=Z hlt;clear hb ho C X;go_wp2_with fail;refine C2.out.mono ?_;rintro e2 w2 ⟨rfl,l2,ho2,hp2,hs2,hg2⟩;have B2:=Z (B1.out.grown hg2 B1.out.size (fun j hj=>aH (aS HW.out) (OT.out j hj)));have X2:=Z (show dG w2 w.heap.size _ _ from (hg2.block _ X1.out.lt (fun e=>by have:=OT.out _ e.symm; have:=HW.out; omega)).trans X1.out);have C3:=Z (Ml w2 W.heap.size (p1,p2,p3) l2 ho2 hs2 (by rw [hp2.length_eq]; exact HL.out));have PM:=Z hp2;have OT2:=Z (fun g hg=>(ho2.lt g hg).1);clear ho2 hp2 hs2 hg2 C2 OT X1;go_wp2_with fail;refine C3.out.mono ?_;rintro e3 w3 ⟨⟨⟨t1,t2,t3⟩,rfl,l3,ho3,hs3,hm3⟩,hg3⟩;have B3:=Z (B2.out.grown hg3 B2.out.size (fun j hj=>aH (aS HW.out) (OT2.out j hj)));have Y:=show dG w3 w.heap.size _ _ from (hg3.block _ X2.out.lt (fun e=>by have:=OT2.out _ e.symm; have:=HW.out; omega)).trans X2.out;obtain⟨y0,y1,y2,y3,y4,y5⟩:=Y.ig;obtain⟨f0,f1,f2,f3,f4,f5⟩:=Y.oJ;have zz:=Y.lt;have FB:=Z (dX Y (ay .i64 me) (J t1 t2 t3) (J U 0 0) (J U 0 0) (J U 0 0) (J U 0 0));have FL:=Z (dI (b:=w.heap.size) B3.out (aV _) (ay .i64 me) (J t1 t2 t3) (J U 0 0) (J U 0 0) (J U 0 0) (J U 0 0));have FO:=Z (I7 ho3 w.heap.size HW.out (ay .i64 me) (J t1 t2 t3) (J U 0 0) (J U 0 0) (J U 0 0) (J U 0 0));have Q:=Z (show l3.Pairwise (·<·)/\∀ x,x∈l3↔x∈l from ⟨hs3,fun x=>(hm3 x).trans PM.out.mem_iff⟩);clear ho3 hs3 hm3 hg3 Y X2 C3 B2 B1 B0;go_wp2_with fail;obtain⟨v0,v1,v2,v3,v4,v5⟩:=FB.out.ig;refine bodyPost_ret (v:=.agg #[ay .i64 me,J t1 t2 t3,J U 0 0,J U 0 0,J U 0 0,J U 0 0]) (by simp [results,Tryz.results9,go_sem,v0,v1,v2,v3,v4,v5]) rfl ?_;exact⟨⟨l3,(t1,t2,t3),rfl,⟨Row.dH FO.out,⟨[],jN _,.nil⟩,jN _,⟨[],jN _,.nil⟩,⟨[],jN _,.nil⟩⟩,⟨_,FO.out⟩,Q.out.1,Q.out.2⟩,FL.out⟩
end Av
namespace Av
open Go.RowKit Rw YtghlpefopidlaaaGreat.Nm Pr Wr
theorem Uj (c:Cn) (h:qz c=aK):I8 (r5 c)=aK:=by
 obtain⟨n,k⟩:=c;unfold qz at h;rw [aT] at h;obtain⟨h1,h2⟩:=h;have h1':At.kR n=aK:=h1;cases k with
 | rg lo hi =>
  have h3:lo<=hi:=by simpa [fJ] using h2
  have h0:(⟨#[]⟩:ByteArray).size=0:=rfl;simp [r5,I8,kN,mE,mF,kT,h1',h3,h0]
 | tx t =>
  have h3:t.size<=12:=by simpa [fJ] using h2
  simp [r5,I8,kN,mE,mF,kT,h1',h3]
 | pr t =>
  have h3:t.size<12:=by simpa [fJ] using h2
  have h4:t.size<=11:=by omega
  simp [r5,I8,kN,mE,mF,kT,h1',h4]
theorem CZ (l:List C5) (h1:l.Pairwise fun x y=>Op.bytesLess x.1.toList y.1.toList=aK) (h2:l.length<=5) (h3:∀ c∈l,I8 c=aK):gX l=aK:=by
 rw [EK l fun j hj=>?_]
 ·simpa using h2
 unfold Ll;rw [aG hj];simp only [aT];refine⟨h3 _ (List.getElem_mem hj),?_⟩;cases j with
 | zero=>rfl
 | succ j =>
  rw [Bool.or_eq_true];right;rw [Nat.add_sub_cancel,aG (by omega)];exact aF.1 h1 j (j+1) (by omega) hj (by omega)
theorem Fe (has vals:List Int):gX ((nN has vals 7).map r5)=aK:=by
 have h:=Lc has vals;refine CZ _ ?_ (by rw [aU]; exact h.five) fun c hc=>?_
 ·rw [List.pairwise_map];exact h.rise
 ·obtain⟨x,hx,rfl⟩:=List.mem_map.1 hc;exact Uj x (h.good x hx)
end Av
namespace Bk
open Go.RowKit Go.Sort Rw YtghlpefopidlaaaGreat.Nm Pr
theorem Jp (l:List Id) (x:Id) (h:x∈l):∃ k:Nat,fH l x=k/\l[k]?=aB x:=by
 induction l with
 | nil=>simp at h
 | cons a r ih =>
  by_cases e:a=x
  ·subst e;exact⟨0,by simp [fH],rfl⟩
  ·have hr:x∈r:=by
    rcases aA.1 h with h1|h1
    ·exact absurd h1.symm e
    ·exact h1
   obtain⟨k,h1,h2⟩:=ih hr;refine⟨k+1,?_,by simpa using h2⟩;rw [fH,if_neg e,h1,if_neg (by omega)];omega
theorem sQ {t:Id} {m:List En} (R:En->Prop) (hR:∀ e,e.tree=t->R e->R (sP e)) (h:∀ e∈m,R e):∀ k,(∀ e∈(fP t m k).1,R e)/\∀ e∈(fP t m k).2,R e
 | 0=>⟨h,fun e he=>by simp [fP] at he⟩
 | k+1=>by
  have ih:=sQ (t:=t) R hR h k;rw [iC];unfold fI
  split
  ·exact ih
  ·rename_i e he
   split
   ·rename_i hcond
    have hu:=hR e hcond.1 (ih.1 e (List.mem_of_getElem? he));refine⟨fun x hx=>?_,fun x hx=>?_⟩
    ·rcases List.mem_or_eq_of_mem_set hx with h1|h1
     ·exact ih.1 x h1
     ·rw [h1];exact hu
    ·rcases aJ.1 hx with h1|h1
     ·exact ih.2 x h1
     ·rw [aC.1 h1];exact hu
   ·exact ih
theorem qc {α:Type} {l:List α} {k:Nat} {x:α} (h:x∈cutAt l k):x∈l:=by
 rcases aJ.1 h with h|h
 ·exact List.mem_of_mem_take h
 ·exact List.mem_of_mem_drop h
end Bk
namespace Rg
open Go.RowKit
structure RD (i N:Nat) (dst:Nat->Option Nat) (last:Nat->Nat) (V:Nat->aI->au->Prop) (base:aW) (o:Oper) (a:aW) (w:au):Prop where
 kp:∀ j u,(∀ k,k<N->dst k≠aB j)->base.tmps[j]?=aB u->a.eval (.tmp j)=u
 at_:∀ e∈o.after,ak .any e=aK->(last e.on=i\/N<=last e.on)->∀ d,dst e.on=aB d->V e.on (a.eval (.tmp d)) w
 st:∀ e∈o.after,ak .any e=aK->(last e.on=i\/N<=last e.on)->∃ v,V e.on v w
theorem yX (a:aW) (d:Option Nat) (v:aI) (j:Nat) (hj:d≠aB j):(a.put d v).tmps[j]?=a.tmps[j]?:=by
 cases d with
 | none=>rfl
 | some d=>exact get_put _ _ _ _ (fun e=>hj (by rw [e]))
theorem Mq (a:aW) (d:Option Nat) (v:aI):(a.put d v).tmps.size=a.tmps.size:=by
 cases d with
 | none=>rfl
 | some d=>exact size_put _ _ _
theorem put_defers (a:aW) (d:Option Nat) (v:aI):(a.put d v).defers=a.defers:=by
 cases d <;> rfl
structure PhD (l:List Oper) (N:Nat) (dst:Nat->Option Nat) (last:Nat->Nat) (V:Nat->aI->au->Prop) (F:(Nat->Prop)->au->Prop) (base:aW) (L:Array Bool) (a:aW) (x:au):Prop where
 cl:∀ i o,done L i->l[i]?=aB o->∀ e∈o.after,ak .any e=aK->done L e.on
 df:a.defers=base.defers
 sz:a.tmps.size=base.tmps.size
 kp:∀ j,(∀ i,i<N->dst i≠aB j)->a.tmps[j]?=base.tmps[j]?
 fr:F (done L) x
 no:∀ i,N<=i->¬ done L i
 val:∃ vs:Nat->aI,∀ i,i<N->done L i->(∀ d,dst i=aB d->a.tmps[d]?=aB (vs i))/\(¬ done L (last i)->V i (vs i) x)
theorem pz {P:Program} {Q:Exit->aW->au->Prop} {id:Nat} {base:aW} {w:au} {l:List Oper} (N:Nat) (dst:Nat->Option Nat) (last:Nat->Nat) (V:Nat->aI->au->Prop) (F:(Nat->Prop)->au->Prop)
  (hm:P.follows .mixedOrders=aK) (hf:El l.toArray=aK) (hN:l.length=N) (hinj:∀ i j d,i<N->j<N->dst i=aB d->dst j=aB d->i=j) (hs:∀ i d,i<N->dst i=aB d->d<base.tmps.size) (h0:F (fun _=>False) w.drew)
  (hop:∀ i o,i<N->l[i]?=aB o->∀ a w' (D:Nat->Prop),¬ D i->(∀ j oj,D j->l[j]?=aB oj->∀ e∈oj.after,ak .any e=aK->D e.on)->(∀ e∈o.after,ak .any e=aK->D e.on)->F D w'->RD i N dst last V base o a w'->∀ K:aW->au->Prop,(∀ v w'',V i v w''->F (fun j=>j=i\/D j) w''->(∀ j u,j<N->D j->¬ D (last j)->last j≠i->j≠i->V j u w'->V j u w'')->K (a.put (dst i) v) w'')->wpOp P l.toArray Q i K a w')
  (hend:∀ a w',a.defers=base.defers->a.tmps.size=base.tmps.size->(∀ j,(∀ i,i<N->dst i≠aB j)->a.tmps[j]?=base.tmps[j]?)->(∃ vs:Nat->aI,∀ i,i<N->(∀ d,dst i=aB d->a.tmps[d]?=aB (vs i))/\(N<=last i->V i (vs i) w'))->(∃ D:Nat->Prop,(∀ i,i<N->D i)/\F D w')->Q .normal a w'):(Code.region id l.toArray aK).wp P Q base w:=by
 refine nT (fun L a x=>PhD l N dst last V F base L a x) hm hf ?_ ?_ ?_
 ·exact⟨fun i o h=>absurd h (gD _ _),rfl,rfl,fun _ _=>rfl,by rw [show done (Array.replicate l.length false)=fun _=>False from funext fun i=>propext ⟨fun h=>gD _ _ h,False.elim⟩]; exact h0,fun i _=>gD _ _,fun _=>.bool aK,fun i _ h=>absurd h (gD _ _)⟩
 ·intro L a x i o hsz I ho hnd lI;have hi:i<l.length:=(List.getElem?_eq_some_iff.1 ho).1;have vD:i<L.size:=by omega
  have hiM:i<N:=by omega
  obtain⟨vs,q1⟩:=I.val;have hon:∀ e∈o.after,ak .any e=aK->e.on<N:=fun e he hb=>by
   have h7:=List.all_eq_true.1 hf i (List.mem_range.2 (by simpa using hi));have ho':(l.toArray)[i]?=aB o:=by simpa using ho
   rw [ho'] at h7;have h8:=Array.all_eq_true'.1 h7 e he;rw [hb] at h8;have:e.on<i:=by simpa using h8
   omega
  have lv:∀ e∈o.after,ak .any e=aK->(last e.on=i\/N<=last e.on)->V e.on (vs e.on) x:=fun e he hbd hl=>by
   refine (q1 e.on (hon e he hbd) (lI e he hbd)).2 ?_;rcases hl with hl|hl
   ·rw [hl]; exact hnd
   ·exact I.no _ hl
  have seen:RD i N dst last V base o a x:=⟨fun j u hj hu=>dU (by rw [I.kp j hj]; exact hu),fun e he hbd hl d hd=>by
   rw [dU ((q1 e.on (hon e he hbd) (lI e he hbd)).1 d hd)];exact lv e he hbd hl,fun e he hbd hl=>⟨_,lv e he hbd hl⟩⟩
  refine hop i o hiM ho a x (done L) hnd I.cl lI I.fr seen _ fun v w'' hvw hfw hpr=>?_;refine⟨fun k q hk hq e he hb=>?_,by rw [put_defers]; exact I.df,by rw [Mq]; exact I.sz,fun j hj=>?_,by rw [show done (L.setIfInBounds i aK)=fun j=>j=i\/done L j from funext fun j=>propext (fV vD j)]; exact hfw,fun k hk hd=>?_,fun k=>if k=i then v else vs k,fun k PN hk=>?_⟩
  ·rw [fV vD] at hk ⊢;rcases hk with rfl|hk
   ·rw [hq] at ho;cases ho;exact Or.inr (lI e he hb)
   ·exact Or.inr (I.cl k q hk hq e he hb)
  ·rw [yX _ _ _ _ (hj i hiM)];exact I.kp j hj
  ·rcases (fV vD k).1 hd with h9|h9
   ·omega
   ·exact I.no k hk h9
  ·by_cases e:k=i
   ·subst e;simp only [if_true];refine⟨fun d hd=>?_,fun _=>hvw⟩;have h9:d<a.tmps.size:=by rw [I.sz]; exact hs k d PN hd
    rw [hd];simp [Act.put,h9]
   ·simp only [if_neg e];rcases (fV vD k).1 hk with h9|h9
    ·exact absurd h9 e
    ·obtain⟨p1,p2⟩:=q1 k PN h9;refine⟨fun d hd=>?_,fun hn=>?_⟩
     ·rw [yX _ _ _ _ (fun h=>e (hinj k i d PN hiM hd h))];exact p1 d hd
     ·have n1:last k≠i:=fun e3=>hn ((fV vD _).2 (Or.inl e3));have n2:¬ done L (last k):=fun e3=>hn ((fV vD _).2 (Or.inr e3));exact hpr k _ PN h9 n2 n1 e (p2 n2)
 ·intro L a x I hd;obtain⟨vs,q1⟩:=I.val;exact hend a x I.df I.sz I.kp ⟨vs,fun k hk=>⟨(q1 k hk (hd k (by omega))).1,fun hl=>(q1 k hk (hd k (by omega))).2 (I.no _ hl)⟩⟩ ⟨done L,fun i hi=>hd i (by omega),I.fr⟩
end Rg
namespace Av
open Go.RowKit Go.Sort Rw YtghlpefopidlaaaGreat.Nm Pr Bk
structure mR (W:au) (b:Br) (nv av sv ev ov:Sl):Prop where
 br:ny W b nv av sv ev ov
 no:jm W nv b.near
theorem mR.on {W W':au} {b:Br} {nv av sv ev ov:Sl} (h:mR W b nv av sv ev ov) (hb:Below W.heap.size W W'):mR W' b nv av sv ev ov:=⟨h.br.on hb,h.no.on hb⟩
theorem mR.keep {W W':au} {k:Nat} {me:Int} {s1 s2 s3 s4 s5:Sl} {b:Br} {nv av sv ev ov:Sl} (h:mR W b nv av sv ev ov) (hb:dG W k (nV me s1 s2 s3 s4 s5) 30) (hk:But k W W'):mR W' b nv av sv ev ov:=by
 obtain⟨B,hn⟩:=h.no;have hn2:uH W' B (dQ nv) b.near:=hk.own hn hb (by decide);exact⟨Ja h.br hb hk.1 (Row.dH hn2),B,hn2⟩
theorem sS:∀ {l m:List Int},l.Pairwise (·<·)->m.Pairwise (·<·)->(∀ x,x∈l↔x∈m)->l=m
 | [],[],_,_,_=>rfl
 | [],y::m,_,_,h=>by have:=(h y).2 (by simp); simp at this
 | x::l,[],_,_,h=>by have:=(h x).1 (by simp); simp at this
 | x::l,y::m,hl,hm,h=>by
  have hl':=aQ.1 hl;have hm':=aQ.1 hm;have h1:x=y:=by
   rcases aA.1 ((h x).1 (by simp)) with e|e
   ·exact e
   ·rcases aA.1 ((h y).2 (by simp)) with e2|e2
    ·exact e2.symm
    ·have a1:=hm'.1 x e;have a2:=hl'.1 y e2;omega
  subst h1;rw [sS hl'.2 hm'.2 fun z=>⟨fun hz=>?_,fun hz=>?_⟩]
  ·rcases aA.1 ((h z).1 (aN _ hz)) with e|e
   ·have:=hl'.1 z hz;omega
   ·exact e
  ·rcases aA.1 ((h z).2 (aN _ hz)) with e|e
   ·have:=hm'.1 z hz;omega
   ·exact e
theorem jJ {W W':au} {b:Nat} (h:W.grownBy W' (aB b)):But b W W':=⟨fun k hk hne=>h.block k hk (by simpa using hne),h.size⟩
theorem yY {W0 W W':au} {b B:Nat} (h:Below B W0 W) (hg:W.grownBy W' (aB b)) (hb:B<=b) (hl:b<W.heap.size):Below B W0 W' :=
 h.grown hg (aS (Nat.lt_of_le_of_lt hb hl)) (fun j hj=>by cases hj; exact hb)
end Av
namespace Bk
open Go.RowKit Go.Sort Rw YtghlpefopidlaaaGreat.Nm Pr
end Bk
end Go.Proofs.YtghlpefopidlaaaGreat
