/-
  Name of package tupl. Conditions as told.
-/
import Derived.Test.YtghlpefopidlaaaGreatLQ015
import Derived.Test.YtghlpefopidlaaaGreatLQ014
import Derived.Test.YtghlpefopidlaaaGreatLQ012
set_option maxRecDepth 100000
set_option maxHeartbeats 64000000
open _root_.Bool renaming false->aQ,true->aW
open _root_.Go renaming World->ah,Value->aA,TypeId->aV,Addr->bS,Calls->cO,Act->cZ
open Go.Instr renaming storeAt->bH,sliceAt->bR
open Go.IntKind renaming i64->ak
open Go.Lib renaming hid->J,toList_data->bY
open Go.Obj renaming cells->aP
open Go.Operand renaming tmp->aJ
open Go.Proofs.Tryz renaming prog->aK,ntmps130->aO,func130->aS
open Go.Proofs.YtghlpefopidlaaaGreat.Rg renaming get_put->aD,dG->aY,done->bF,size_put->bN,dP->bZ,gF->cK,dU->dh,dW->dn
open Go.Region renaming binds->aN
open Go.RowKit renaming Below->bg
open Go.RowKit.Below renaming refl->ay,heap_setCell->aL
open Go.Value renaming slice->O,int->aj,pointer->au,string->aB,bool->bO,agg->dw
open _root_.List renaming getElem?_toArray->aC,getElem?_cons_zero->aF,getElem?_cons_succ->aG,getElem?_eq_some_iff->aH,getElem?_eq_getElem->aI,getElem?_map->aR,set_cons_succ->aU,length_map->aX,take_add_one->bf,cons_append->bI,nil_append->bK,length_set->bL,take_length->bV,length_take->bW,length->cB
open _root_.Nat renaming zero_le->aZ,le_refl->bM,lt_or_ge->bU,not_lt_zero->bX,le_of_lt->cu
open _root_.Option renaming some->U,none->Z
open Option.some renaming inj->aT
open _root_.Or renaming inr->aM,inl->bG
namespace Go.Proofs.YtghlpefopidlaaaGreat
namespace Pr
open Go.RowKit Go.Sort Pu Rw Va
theorem Ud (s:ByteArray) (w:ah) (hs:s.size<=maxLen) :
  cO aK 166 #[aB s] w fun e w'=>e=.returned (bO (pK s))/\w=w':=by
 unfold maxLen at hs;go_enter Tryz.func166,Tryz.ntmps166;go_wp2
 go_loop [6] (fun i=>∃ k:Nat,k<=s.size/\i=aj ak k/\∀ (j:Nat) (hj:j<s.size),j<k->Aw s[j]=aW) (fun i=>s.size-(intOf i).toNat)
 case atStart=>exact⟨0,aZ _,rfl,fun j hj h=>by omega⟩
 case round =>
  obtain⟨k,hk,rfl,hall⟩:=hrel;have AL:=J hall;clear hall;by_cases hlt:k<s.size
  ·have hcl:(s[k].toNat:Int)<256:=by have:=s[k].toNat_lt; omega
   by_cases h1:97<=s[k].toNat
   ·by_cases h2:s[k].toNat<=122
    ·have L:=J (show Aw s[k]=aW by simp [Aw,h1,h2]);have d1:decide ((s[k].toNat:Int)<97)=aQ:=by simp; omega
     have d2:decide ((122:Int)<(s[k].toNat:Int))=aQ:=by simp; omega
     clear h1 h2;go_wp2
     go_round
     case rel=>exact⟨k+1,by omega,by go_num,fun j hj h=>by
      rcases bU j k with h3|h3
      ·exact AL.out j hj h3
      ·obtain rfl:j=k:=by omega
       exact L.out⟩
     case measure=>simp [intOf]; omega
    ·have R:=J (show pK s=aQ from Fy s k hlt (by simp [Aw,h2]));have d1:decide ((s[k].toNat:Int)<97)=aQ:=by simp; omega
     have d2:decide ((122:Int)<(s[k].toNat:Int))=aW:=by simp; omega
     clear h1 h2;go_wp2;go_ret;exact⟨eX R.out.symm,rfl⟩
   ·have R:=J (show pK s=aQ from Fy s k hlt (by simp [Aw,h1]));have d1:decide ((s[k].toNat:Int)<97)=aW:=by simp; omega
    clear h1;go_wp2;go_ret;exact⟨eX R.out.symm,rfl⟩
  ·obtain rfl:k=s.size:=by omega
   have R:=J (Tg s (fun j hj=>AL.out j hj hj));by_cases h1:1<=s.size
   ·have R2:=J (show pK s=decide ((s.size:Int)<=12) by rw [R.out]; simp [h1]; omega);go_wp2;go_ret;exact⟨eX R2.out.symm,rfl⟩
   ·have R2:=J (show pK s=aQ by rw [R.out]; simp [h1]);have d1:decide ((1:Int)<=(s.size:Int))=aQ:=by simp; omega
    go_wp2;go_ret;exact⟨eX R2.out.symm,rfl⟩
theorem oB (w:ah) (nm:ByteArray) (k lo hi:Int) (u:ByteArray):Below w.heap.size w (w.alloc (aP #[aB nm,aj ak k,aj ak lo,aj ak hi,aB u] 91)) :=
 (ay w.heap.size w).alloc (bM _) _
theorem abX (c:Cn) (w:ah) (hs:c.1.size<=maxLen):cO aK 130 #[cv (r5 c)] w fun e w'=>e=.returned (bO (wJ c))/\Below w.heap.size w w':=by
 obtain⟨nm,k⟩:=c;have NA:=J (Ud nm (w.alloc (aP #[aB nm,aj ak (kN k),aj ak (kH k),aj ak (kI k),aB (kT k)] 91)) hs);have B:=J (oB w nm (kN k) (kH k) (kI k) (kT k));have R:=J (show wJ (nm,k)=(pK nm && iE k) from rfl);clear hs;generalize wJ (nm,k)=r at *;obtain⟨q,hq⟩:∃ q,pK nm=q:=⟨_,rfl⟩;rw [hq] at NA R;clear hq;cases k with
 | rg lo hi =>
  simp only [r5,kN,kH,kI,kT] at *;cases q
  ·go_enter aS,aO;go_wp2_with fail;refine NA.out.mono ?_;rintro e w' ⟨rfl,rfl⟩;go_wp2;go_ret;exact⟨eX (by rw [R.out]; simp),B.out⟩
  ·by_cases h1:lo<=hi <;> have H1:=J h1
   all_goals
    go_enter aS,aO;go_wp2_with fail;refine NA.out.mono ?_;rintro e w' ⟨rfl,rfl⟩;go_wp2;go_ret;exact⟨eX (by rw [R.out]; have h:=H1.out; simp [iE,h] <;> omega),B.out⟩
 | tx u =>
  simp only [r5,kN,kH,kI,kT] at *;cases q
  ·go_enter aS,aO;go_wp2_with fail;refine NA.out.mono ?_;rintro e w' ⟨rfl,rfl⟩;go_wp2;go_ret;exact⟨eX (by rw [R.out]; simp),B.out⟩
  ·go_enter aS,aO;go_wp2_with fail;refine NA.out.mono ?_;rintro e w' ⟨rfl,rfl⟩;go_wp2;go_ret;exact⟨eX (by rw [R.out]; simp [iE]; omega),B.out⟩
 | pr u =>
  simp only [r5,kN,kH,kI,kT] at *;cases q
  ·go_enter aS,aO;go_wp2_with fail;refine NA.out.mono ?_;rintro e w' ⟨rfl,rfl⟩;go_wp2;go_ret;exact⟨eX (by rw [R.out]; simp),B.out⟩
  ·by_cases h1:u.size<12
   ·have e1:decide ((12:Int)<=(u.size:Int))=aQ:=by simp; omega
    have e2:decide ((u.size:Int)<=12)=aW:=by simp; omega
    have H1:=J h1;clear h1;go_enter aS,aO;go_wp2_with fail;refine NA.out.mono ?_;rintro e w' ⟨rfl,rfl⟩;go_wp2;go_ret;exact⟨eX (by rw [R.out]; have h:=H1.out; simp [iE,h]),B.out⟩
   ·have e1:decide ((12:Int)<=(u.size:Int))=aW:=by simp; omega
    have H1:=J h1;clear h1;go_enter aS,aO;go_wp2_with fail;refine NA.out.mono ?_;rintro e w' ⟨rfl,rfl⟩;go_wp2;go_ret;exact⟨eX (by rw [R.out]; have h:=H1.out; simp [iE]; omega),B.out⟩
end Pr
namespace Av
open Go.RowKit Go.Sort Rw YtghlpefopidlaaaGreat.Nm Pr Bk
abbrev Xn (W:ah) (b:Nat) (a0 a1 a2 a3:aA):ah:=(((W.setCell ⟨b,0,Z⟩ a0).setCell ⟨b,1,Z⟩ a1).setCell ⟨b,2,Z⟩ a2).setCell ⟨b,3,Z⟩ a3
theorem Ck {W:ah} {b:Nat} {t:aV} {z0 z1 z2 z3:aA} (h:dK W b #[z0,z1,z2,z3] t) (a0 a1 a2 a3:aA):dK (Xn W b a0 a1 a2 a3) b #[a0,a1,a2,a3] t:=by
 have h2:=eu (k:=3) (eu (k:=2) (eu (k:=1) (eu (k:=0) h a0) a1) a2) a3;simpa using h2
theorem xg {B:Nat} {W0 W:ah} {b:Nat} (h:Below B W0 W) (hb:B<=b) (a0 a1 a2 a3:aA):Below B W0 (Xn W b a0 a1 a2 a3) :=
 (((h.setCell (p:=⟨b,0,Z⟩) hb a0).setCell (p:=⟨b,1,Z⟩) hb a1).setCell (p:=⟨b,2,Z⟩) hb a2).setCell (p:=⟨b,3,Z⟩) hb a3
theorem Kj {α:Type} {E:Ek α} {W:ah} {B:Nat} {v:aA} {l:List α} (h:Own E W B v l) (b:Nat) (hb:b<B) (a0 a1 a2 a3:aA):Own E (Xn W b a0 a1 a2 a3) B v l :=
 eZ (eZ (eZ (eZ h b 0 a0 hb) b 1 a1 hb) b 2 a2 hb) b 3 a3 hb
theorem Cm (x:kY) (p:List C5) (w:ah) (hp:fI w (dX x.2.2.1) p) (hl:p.length<=900) :
  cO aK 35 #[nD x] w fun e w'=>(∃ v':Sl,e=.returned (nD (x.1,x.2.1,v',x.2.2.2))/\iJ w' w.heap.size (dX v') p)/\Below w.heap.size w w':=by
 obtain⟨a,b,⟨s1,s2,s3⟩,q⟩:=x;obtain⟨h0,X,Y⟩:=iI w #[aj ak a,aj ak b,O s1 s2 s3,aj ak q] #[aj ak 0,aj ak 0,O Z 0 0,aj ak 0] 36 36;have C:=J (nX (s1,s2,s3) p _ (hp.on h0) hl);have B:=J h0;have x2:=X.cell 2;simp only [aC,aF,aG] at x2;have X:=J X;have Y:=J Y;clear h0 hp hl;go_enter Tryz.func35,Tryz.ntmps35;go_wp2_with fail;generalize (w.alloc (aP #[aj ak a,aj ak b,O s1 s2 s3,aj ak q] 36)).alloc (aP #[aj ak 0,aj ak 0,O Z 0 0,aj ak 0] 36)=W at *;refine C.out.mono ?_;rintro e w1 ⟨⟨⟨T,a0,a3⟩,rfl,ho⟩,hb⟩;have X1:=X.out.on hb;have Y1:=Y.out.on hb;have hs:w.heap.size<W.heap.size:=X.out.lt;have O1:=J (eZ ho w.heap.size 2 (O T a0 a3) hs);have XB:=J (show dK _ _ #[aj ak a,aj ak b,O T a0 a3,aj ak q] _ from by simpa using eu (k:=2) X1 (O T a0 a3));have YB:=J (show dK _ _ _ _ from (aL w1 ⟨w.heap.size,2,Z⟩ (O T a0 a3) _ (show w.heap.size+1≠w.heap.size by omega)).trans Y1);have B1:=J ((B.out.trans (hb.mono B.out.size)).setCell (p:=⟨w.heap.size,2,Z⟩) (bM _) (O T a0 a3));have y2:=X1.cell 2;have f2:=X1.fr 2;have z2:=X1.lt;simp only [aC,aF,aG] at y2;clear X1 Y1 ho hb x2 C;go_upto_region 2 with fail;clear y2 f2 z2;generalize w1.setCell ⟨w.heap.size,2,Z⟩ (O T a0 a3)=w2 at *;obtain⟨x0,x1,x2,x3⟩:=XB.out.Bt;obtain⟨r0,r1,r2,r3⟩:=YB.out.Bt;obtain⟨t0,t1,t2,t3⟩:=YB.out.fs4;have zz:=YB.out.lt;have hs2:w.heap.size+1<W.heap.size:=Y.out.lt;have FB:=J (Ck YB.out (aj ak a) (aj ak b) (O T a0 a3) (aj ak q));have BL:=J (xg (b:=w.heap.size+1) B1.out (by omega) (aj ak a) (aj ak b) (O T a0 a3) (aj ak q));have FO:=J (Kj O1.out (w.heap.size+1) hs2 (aj ak a) (aj ak b) (O T a0 a3) (aj ak q));have HS:=J hs;clear hs hs2;go_wp2_with fail;obtain⟨a4,a5,a6,a7⟩:=FB.out.Bt;refine bodyPost_ret (v:=dw #[aj ak a,aj ak b,O T a0 a3,aj ak q]) (by simp [results,Tryz.results35,go_sem,a4,a5,a6,a7]) rfl ?_;exact⟨⟨(T,a0,a3),rfl,dM FO.out (cu HS.out)⟩,BL.out⟩
end Av
namespace Bk
open Go.RowKit Rw YtghlpefopidlaaaGreat.Nm Pr
theorem Co {W:ah} {b:Nat} {cs:Array aA} {t:aV} (hb:dK W b cs t) {a:bS} {v:aA} (h:W.cell? a=U v) (e:a.block=b):cs[a.off]?=U v:=by
 unfold World.cell? at h;unfold dK at hb;rw [e,hb] at h;have h2:a.spot=Z/\cs[a.off]?=U v:=by simpa using h
 exact h2.2
theorem Ue {W W':ah} {b:Nat} (hk:∀ j,j<W.heap.size->j≠b->W'.heap[j]?=W.heap[j]?) {a:bS} {v:aA} (h:W.cell? a=U v) (e:a.block≠b):W'.cell? a=U v:=by
 have hlt:=World.block_lt_of_cell? W _ h;unfold World.cell? at h ⊢;rw [hk _ hlt e];exact h
theorem xW (a:bS) (j:Nat):(a.add j).block=a.block:=by unfold Addr.add; split <;> rfl
theorem jv {α:Type} {E:Ek α} (_K:E.Ok) {W W':ah} {b:Nat} {v:aA} {l:List α} (h:Row E W v l) (hk:∀ j,j<W.heap.size->j≠b->W'.heap[j]?=W.heap[j]?) (hno:∀ (a:bS) (c:α),(∀ j u,(E.cells c)[j]?=U u->W.cell? (a.add j)=U u)->a.block≠b):Row E W' v l:=by
 rcases h with h|⟨a,cap,h1,h2,h3,h4⟩
 ·exact bG h
 ·refine aM ⟨a,cap,h1,h2,h3,fun j u hj=>?_⟩;cases l with
  | nil=>simp [flat] at hj
  | cons c r =>
   have hne:a.block≠b:=hno a c fun j u hj=>h4 j u (by
    rw [flat,List.getElem?_append_left (by exact (aH.1 hj).1)];exact hj)
   exact Ue hk (h4 j u hj) (by rw [xW]; exact hne)
theorem lS {α:Type} {E:Ek α} {W:ah} {b:Nat} {cs:Array aA} {t:aV} (hb:dK W b cs t) (hE:∀ c:α,∃ i j:Int,(E.cells c)[0]?=U (aj ak i)/\(E.cells c)[1]?=U (aj ak j)) (hcs:∀ (k:Nat) (i j:Int),cs[k]?=U (aj ak i)->cs[k+1]?=U (aj ak j)->False) (a:bS) (c:α) (h:∀ j u,(E.cells c)[j]?=U u->W.cell? (a.add j)=U u):a.block≠b:=fun e=>by
 obtain⟨i,j,h0,h1⟩:=hE c;have c0:=Co hb (h 0 _ h0) (by rw [xW]; exact e);have c1:=Co hb (h 1 _ h1) (by rw [xW]; exact e);have o0:(a.add 0).off=a.off:=by rw [Addr.add_zero']
 have o1:(a.add 1).off=a.off+1:=by rw [add_pos _ _ (by decide)]
 rw [o0] at c0;rw [o1] at c1;exact hcs a.off i j c0 c1
theorem tF {W:ah} {b:Nat} {cs:Array aA} {t:aV} (hb:dK W b cs t) (hcs:∀ (k:Nat) (s:ByteArray),cs[k]?≠U (aB s)) (a:bS) (c:C5) (h:∀ j u,(EC.cells c)[j]?=U u->W.cell? (a.add j)=U u):a.block≠b:=fun e=>by
 have c0:=Co hb (h 0 _ rfl) (by rw [xW]; exact e);exact hcs _ _ c0
theorem nI (me:Int) (s1 s2 s3 s4 s5:Sl):∀ (k:Nat) (i j:Int),(ko me s1 s2 s3 s4 s5)[k]?=U (aj ak i)->(ko me s1 s2 s3 s4 s5)[k+1]?=U (aj ak j)->False:=by
 intro k i j h1 h2
 match k with
 | 0=>simp at h2
 | 1=>simp at h1
 | 2=>simp at h1
 | 3=>simp at h1
 | 4=>simp at h1
 | 5=>simp at h1
 | k+6=>simp at h1
theorem tH (me:Int) (s1 s2 s3 s4 s5:Sl):∀ (k:Nat) (s:ByteArray),(ko me s1 s2 s3 s4 s5)[k]?≠U (aB s):=by
 intro k s h
 match k with
 | 0=>simp at h
 | 1=>simp at h
 | 2=>simp at h
 | 3=>simp at h
 | 4=>simp at h
 | 5=>simp at h
 | k+6=>simp at h
theorem fK {W W':ah} {k:Nat} {me:Int} {s1 s2 s3 s4 s5:Sl} {b:Br} {nv av sv ev ov:Sl} (h:jq W b nv av sv ev ov) (hb:dK W k (ko me s1 s2 s3 s4 s5) 30) (hk:∀ j,j<W.heap.size->j≠k->W'.heap[j]?=W.heap[j]?) (hn:uR W' (dX nv) b.near):jq W' b nv av sv ev ov where
 near:=hn
 dO:=by
  obtain⟨l,h1,h2⟩:=h.dO;exact⟨l,jv okD h1 hk (lS hb (fun c=>⟨_,_,rfl,rfl⟩) (nI me s1 s2 s3 s4 s5)),h2.mono fun x a hx=>⟨hx.1,hx.2.1,jv wF hx.2.2 hk (tF hb (tH me s1 s2 s3 s4 s5))⟩⟩
 seen:=jv Ev h.seen hk (lS hb (fun c=>⟨_,_,rfl,rfl⟩) (nI me s1 s2 s3 s4 s5))
 ent:=by
  obtain⟨l,h1,h2⟩:=h.ent;exact⟨l,jv mM h1 hk (lS hb (fun c=>⟨_,_,rfl,rfl⟩) (nI me s1 s2 s3 s4 s5)),h2.mono fun x a hx=>⟨hx.1,hx.2.1,hx.2.2.1,hx.2.2.2.1,jv wF hx.2.2.2.2 hk (tF hb (tH me s1 s2 s3 s4 s5))⟩⟩
 own:=by
  obtain⟨l,h1,h2⟩:=h.own;exact⟨l,jv okW h1 hk (lS hb (fun c=>⟨_,_,rfl,rfl⟩) (nI me s1 s2 s3 s4 s5)),h2.mono fun x a hx=>⟨hx.1,jv wF hx.2 hk (tF hb (tH me s1 s2 s3 s4 s5))⟩⟩
end Bk
namespace Bk
open Go.RowKit Go.Sort Rw YtghlpefopidlaaaGreat.Nm Pr
theorem oD {W:ah} {b:Nat} {z0 z1 z2 z3 z4 z5:aA} (h:dK W b #[z0,z1,z2,z3,z4,z5] 30) (me:Int) (o1 o2 o3 o4 o5:Option bS) (n1 c1 n2 c2 n3 c3 n4 c4 n5 c5:Nat) :
  (bH 30 (au (U ⟨b,0,Z⟩)) (dw #[aj ak me,O o1 n1 c1,O o2 n2 c2,O o3 n3 c3,O o4 n4 c4,O o5 n5 c5])).run aK W=.ok () (gV W b (aj ak me) (O o1 n1 c1) (O o2 n2 c2) (O o3 n3 c3) (O o4 n4 c4) (O o5 n5 c5)):=by
 obtain⟨x0,x1,x2,x3,x4,x5⟩:=h.fD;obtain⟨f0,f1,f2,f3,f4,f5⟩:=h.kK;simp [go_sem,x0,x1,x2,x3,x4,x5,f0,f1,f2,f3,f4,f5]
theorem tJ {W:ah} {b:Nat} {z0 z1 z2 z3 z4 z5:aA} (h:dK W b #[z0,z1,z2,z3,z4,z5] 30):(Instr.loadAt 30 (au (U ⟨b,0,Z⟩))).run aK W=.ok (dw #[z0,z1,z2,z3,z4,z5]) W:=by
 obtain⟨x0,x1,x2,x3,x4,x5⟩:=h.fD;simp [go_sem,x0,x1,x2,x3,x4,x5]
theorem rZ {P:Program} (ρ:Operand->aA) (o:Oper) (x y z:Operand) (t s r:aV) (f:FuncId) (ho:o.op=.call { callee:=.value (.func f),args:=#[x,y,z],argTypes:=#[t,s,r] }) {v u q:aA} (hx:ρ x=v) (hy:ρ y=u) (hz:ρ z=q) (hf:ρ (.func f)=.func (.func f) #[] #[]) (w:ah)
  (hc:(callFunc f #[v,u,q]).run P w=.ok (.enter f #[v,u,q]) w):(execOp ρ o).run P w=.ok (.enter f #[v,u,q]) w:=by
 simp [execOp,ho,resolve,invoke,hx,hy,hz,hf,Deferred.ofValue,hc]
theorem Qj {W:ah} {b:Nat} {c d:Int} (h:dK W b #[aj ak c,aj ak d] 23):∀ j u,(kR (c,d))[j]?=U u->W.cell? ((⟨b,0,Z⟩:bS).add j)=U u:=by
 intro j u hj;rw [lY,h.cell]
 match j with
 | 0=>exact hj
 | 1=>exact hj
 | j+2=>simp at hj
end Bk
namespace Av
open Go.RowKit Go.Sort Rw YtghlpefopidlaaaGreat.Nm Pr Bk
theorem kE {α:Type} {E:Ek α} (K:E.Ok) {W:ah} {B g n cap k:Nat} {l:List α} {x:α} (h:Own E W B (O (U ⟨g,0,Z⟩) n cap) l) (hk:l[k]?=U x):∀ w,Below W.heap.size W w->∀ j u,(E.cells x)[j]?=U u->w.cell? ((⟨g,k * E.n,Z⟩:bS).add j)=U u:=by
 obtain⟨ao,c,hv⟩:=(Row.dJ h).len;obtain⟨rfl,rfl,rfl⟩:U ⟨g,0,Z⟩=ao/\n=l.length/\cap=c:=by simpa using hv
 obtain⟨p,h1,_,h2⟩:=qA K (Row.dJ h) rfl rfl hk;have h3:=nT K g k l.length cap (aH.1 hk).1 W;rw [h1] at h3;injection h3 with h4 _
 injection h4 with h5
 injection h5 with h6
 subst h6;exact h2
theorem jL {α:Type} {E:Ek α} {W:ah} {B g n cap:Nat} {l:List α} (h:Own E W B (O (U ⟨g,0,Z⟩) n cap) l):∃ cur,dK W g cur E.t:=by
 rcases gB h with⟨h1,_⟩|⟨g',c',cur,h1,_,h2,_⟩
 ·cases h1
 ·obtain⟨rfl,_⟩:g=g'/\True:=by simp at h1; exact⟨h1.1,trivial⟩
  exact⟨cur,h2⟩
theorem rM {W:ah} {b g:Nat} {c d:Array aA} {s t:aV} (hb:dK W b c s) (hg:dK W g d t) (hne:(s == t)=aQ):b≠g:=by
 rintro rfl;unfold dK at hb hg;rw [hb] at hg;injection hg with h
 injection h with _ h2
 rw [h2] at hne;simp at hne
def But (g:Nat) (W x:ah):Prop:=(∀ k,k<W.heap.size->k≠g->x.heap[k]?=W.heap[k]?)/\W.heap.size<=x.heap.size
theorem But.box {g b:Nat} {W x:ah} {cs:Array aA} {t:aV} (h:But g W x) (hb:dK W b cs t) (hne:b≠g):dK x b cs t:=(h.1 b hb.lt hne).trans hb
theorem But.own {α:Type} {E:Ek α} {g:Nat} {W x:ah} {B:Nat} {v:aA} {l:List α} {d:Array aA} {t:aV} (h:But g W x) (ho:Own E W B v l) (hg:dK W g d t) (hne:(E.t == t)=aQ):Own E x B v l:=by
 refine⟨ho.1,?_⟩;rcases ho.2 with h2|⟨g',cap,cur,h1,h2,h3,h4⟩
 ·exact bG h2
 ·exact aM ⟨g',cap,cur,h1,h2,by rw [h.1 g' (lt_of_heap h3) (rM (show dK W g' cur E.t from h3) hg hne)]; exact h3,h4⟩
theorem Gr:∀ (l:List kY) (k:Nat) (x:kY),k<l.length->flat ED (l.set k x)=((((flat ED l).set (k * 4) (aj ak x.1)).set (k * 4+1) (aj ak x.2.1)).set (k * 4+2) (dX x.2.2.1)).set (k * 4+3) (aj ak x.2.2.2)
 | [],k,x,h=>by simp at h
 | y::r,0,x,_=>rfl
 | y::r,k+1,x,h=>by
  have ih:=Gr r k x (by simpa using h);rw [show (k+1) * 4+3=(k * 4+3)+1+1+1+1 by omega,show (k+1) * 4+2=(k * 4+2)+1+1+1+1 by omega,show (k+1) * 4+1=(k * 4+1)+1+1+1+1 by omega,show (k+1) * 4=(k * 4)+1+1+1+1 by omega];simp only [aU,flat,ED,cellsD,bI,bK] at ih ⊢;rw [ih]
theorem Gs:∀ (l:List jk) (k:Nat) (x:jk) (s:Sl),l[k]?=U x->flat EN (l.set k (x.1,x.2.1,x.2.2.1,x.2.2.2.1,s,x.2.2.2.2.2.1,x.2.2.2.2.2.2))=(flat EN l).set (k * 7+4) (dX s)
 | [],k,x,s,h=>by simp at h
 | y::r,0,x,s,h=>by
  obtain rfl:y=x:=by simpa using h
  rfl
 | y::r,k+1,x,s,h=>by
  have ih:=Gs r k x s (by simpa using h);rw [show (k+1) * 7+4=(k * 7+4)+1+1+1+1+1+1+1 by omega];simp only [aU,flat,EN,jr,bI,bK] at ih ⊢;rw [ih]
theorem Gt:∀ (l:List ny) (k:Nat) (x:ny) (s:Sl),l[k]?=U x->flat EW (l.set k (x.1,x.2.1,s))=(flat EW l).set (k * 3+2) (dX s)
 | [],k,x,s,h=>by simp at h
 | y::r,0,x,s,h=>by
  obtain rfl:y=x:=by simpa using h
  rfl
 | y::r,k+1,x,s,h=>by
  have ih:=Gt r k x s (by simpa using h);rw [show (k+1) * 3+2=(k * 3+2)+1+1+1 by omega];simp only [aU,flat,EW,lH,bI,bK] at ih ⊢;rw [ih]
def ahP {α:Type} (E:Ek α) (B g:Nat) (v:aA) (l:List α) (w w':ah):Prop:=Own E w' B v l/\But g w w'/\(∀ B' W,B'<=g->Below B' W w->Below B' W w')
theorem eF (w:ah) (g j:Nat) (u:aA):But g w (w.setCell ⟨g,j,Z⟩ u):=⟨fun k _ hk=>aL w ⟨g,j,Z⟩ u k hk,by simp⟩
theorem But.trans {g:Nat} {a b c:ah} (h1:But g a b) (h2:But g b c):But g a c:=⟨fun k hk hne=>(h2.1 k (Nat.lt_of_lt_of_le hk h1.2) hne).trans (h1.1 k hk hne),Nat.le_trans h1.2 h2.2⟩
theorem But.of_below {g:Nat} {a b:ah} (h:Below a.heap.size a b):But g a b:=⟨fun k hk _=>h.block k hk,h.size⟩
theorem ahQ {w:ah} {B g n cap k:Nat} {l:List kY} (x:kY) (h:nk w B (O (U ⟨g,0,Z⟩) n cap) l) (hk:k<l.length) :
  ∃ w',(bH 36 (au (U ⟨g,k * 4,Z⟩)) (nD x)).run aK w=.ok () w'/\ahP ED B g (O (U ⟨g,0,Z⟩) n cap) (l.set k x) w w':=by
 obtain⟨y,hy⟩:∃ y,l[k]?=U y:=⟨_,aI hk⟩;have c:=kE okD h hy w (ay _ _);have c0:=c 0 _ rfl;have c1:=c 1 _ rfl;have c2:=c 2 _ rfl;have c3:=c 3 _ rfl;simp [Addr.add,ED] at c0 c1 c2 c3;obtain⟨cur,hb⟩:=jL h;have f:=fun j=>hb.fr j;obtain⟨ao,c',hv⟩:=(Row.dJ h).len;obtain⟨_,rfl,_⟩:U ⟨g,0,Z⟩=ao/\n=l.length/\cap=c':=by simpa using hv
 have h:w.ownsRow B 36 4 (O (U ⟨g,0,Z⟩) l.length cap) l.length (flat ED l):=h;have s1:=(h.stored (k * 4) (aj ak x.1)).1;have s2:=(s1.stored (k * 4+1) (aj ak x.2.1)).1;have s3:=(s2.stored (k * 4+2) (dX x.2.2.1)).1;have s4:=(s3.stored (k * 4+3) (aj ak x.2.2.2)).1;refine⟨(((w.setCell ⟨g,k * 4,Z⟩ (aj ak x.1)).setCell ⟨g,k * 4+1,Z⟩ (aj ak x.2.1)).setCell ⟨g,k * 4+2,Z⟩ (dX x.2.2.1)).setCell ⟨g,k * 4+3,Z⟩ (aj ak x.2.2.2),?_,?_,((eF _ g _ _).trans (eF _ g _ _)).trans ((eF _ g _ _).trans (eF _ g _ _)),fun B' W hB hb=>(((hb.setCell (p:=⟨g,_,Z⟩) hB _).setCell (p:=⟨g,_,Z⟩) hB _).setCell (p:=⟨g,_,Z⟩) hB _).setCell (p:=⟨g,_,Z⟩) hB _⟩
 ·simp [go_sem,c0,c1,c2,c3,f]
 ·have e:=Gr l k x hk;show World.ownsRow _ B 36 4 _ (l.set k x).length (flat ED (l.set k x));rw [e,bL];exact s4
theorem ahR {w:ah} {B g n cap k:Nat} {l:List jk} {x:jk} (s1:Option bS) (s2 s3:Nat) (h:jH w B (O (U ⟨g,0,Z⟩) n cap) l) (hk:l[k]?=U x) :
  ∃ w',(bH 34 (au (U ⟨g,k * 7+4,Z⟩)) (O s1 s2 s3)).run aK w=.ok () w'/\ahP EN B g (O (U ⟨g,0,Z⟩) n cap) (l.set k (x.1,x.2.1,x.2.2.1,x.2.2.2.1,(s1,s2,s3),x.2.2.2.2.2.1,x.2.2.2.2.2.2)) w w':=by
 have c:=kE mM h hk w (ay _ _);have c4:=c 4 _ rfl;simp [Addr.add,EN] at c4;obtain⟨cur,hb⟩:=jL h;have f:=hb.fr (k * 7+4);obtain⟨ao,c',hv⟩:=(Row.dJ h).len;obtain⟨_,rfl,_⟩:U ⟨g,0,Z⟩=ao/\n=l.length/\cap=c':=by simpa using hv
 have h:w.ownsRow B 67 7 (O (U ⟨g,0,Z⟩) l.length cap) l.length (flat EN l):=h;have t1:=(h.stored (k * 7+4) (O s1 s2 s3)).1;refine⟨w.setCell ⟨g,k * 7+4,Z⟩ (O s1 s2 s3),by simp [go_sem,c4,f],?_,eF _ g _ _,fun B' W hB hb=>hb.setCell (p:=⟨g,_,Z⟩) hB _⟩;have e:=Gs l k x (s1,s2,s3) hk;show World.ownsRow _ B 67 7 _ (cB _) (flat EN _);rw [e,bL];exact t1
theorem ahS {w:ah} {B g n cap k:Nat} {l:List ny} {x:ny} (s1:Option bS) (s2 s3:Nat) (h:nM w B (O (U ⟨g,0,Z⟩) n cap) l) (hk:l[k]?=U x) :
  ∃ w',(bH 34 (au (U ⟨g,k * 3+2,Z⟩)) (O s1 s2 s3)).run aK w=.ok () w'/\ahP EW B g (O (U ⟨g,0,Z⟩) n cap) (l.set k (x.1,x.2.1,(s1,s2,s3))) w w':=by
 have c:=kE okW h hk w (ay _ _);have c2:=c 2 _ rfl;simp [Addr.add,EW] at c2;obtain⟨cur,hb⟩:=jL h;have f:=hb.fr (k * 3+2);obtain⟨ao,c',hv⟩:=(Row.dJ h).len;obtain⟨_,rfl,_⟩:U ⟨g,0,Z⟩=ao/\n=l.length/\cap=c':=by simpa using hv
 have h:w.ownsRow B 88 3 (O (U ⟨g,0,Z⟩) l.length cap) l.length (flat EW l):=h;have t1:=(h.stored (k * 3+2) (O s1 s2 s3)).1;refine⟨w.setCell ⟨g,k * 3+2,Z⟩ (O s1 s2 s3),by simp [go_sem,c2,f],?_,eF _ g _ _,fun B' W hB hb=>hb.setCell (p:=⟨g,_,Z⟩) hB _⟩;have e:=Gt l k x (s1,s2,s3) hk;show World.ownsRow _ B 88 3 _ (cB _) (flat EW _);rw [e,bL];exact t1
theorem eY.set {α β:Type} {R:α->β->Prop}:∀ {l:List α} {m:List β} (k:Nat) (a:α) (b:β),eY R l m->m[k]?=U b->R a b->eY R (l.set k a) m
 | _,_,_,_,_,.nil,h,_=>by simp at h
 | _,_,0,a,b,.cons x t,h,hr=>by
  simp at h;subst h;exact .cons hr t
 | _,_,k+1,a,b,.cons x t,h,hr=>.cons x (eY.set k a b t (by simpa using h) hr)
def PM (w0:ah) (B:Nat) (wr:ah) (v:aA) (p:List C5):Prop:=fI w0 v p\/iJ wr B v p
def Nt (w0:ah) (B:Nat) (wr:ah) (x:kY) (a:Ad):Prop:=(x.1,x.2.1)=a.id/\x.2.2.2=a.par/\PM w0 B wr (dX x.2.2.1) a.p
def tK (w0:ah) (B:Nat) (wr:ah) (x:jk) (a:En):Prop:=(x.1,x.2.1)=a.tree/\(x.2.2.1,x.2.2.2.1)=a.sub/\x.2.2.2.2.2.1=a.from_/\x.2.2.2.2.2.2=a.up/\PM w0 B wr (dX x.2.2.2.2.1) a.p
def Og (w0:ah) (B:Nat) (wr:ah) (x:ny) (a:Ow):Prop:=(x.1,x.2.1)=a.id/\PM w0 B wr (dX x.2.2) a.p
theorem PM.grow {w0 wr x:ah} {B:Nat} {v:aA} {p:List C5} (h:PM w0 B wr v p) (hb:Below wr.heap.size wr x):PM w0 B x v p:=h.imp id fun h=>Bk.dI h hb
theorem PM.but {w0 wr x:ah} {B:Nat} {v:aA} {p:List C5} {g:Nat} {d:Array aA} {t:aV} (h:PM w0 B wr v p) (hb:But g wr x) (hg:dK wr g d t) (hne:(91 == t)=aQ):PM w0 B x v p:=h.imp id fun h=>hb.own h hg hne
theorem PM.row {w0 wr:ah} {B:Nat} {v:aA} {p:List C5} (h:PM w0 B wr v p) (hb:Below w0.heap.size w0 wr):fI wr v p:=h.elim (fun h=>h.on hb) Row.dJ
theorem Nt.grow {w0 wr x:ah} {B:Nat} {y:kY} {a:Ad} (h:Nt w0 B wr y a) (hb:Below wr.heap.size wr x):Nt w0 B x y a:=⟨h.1,h.2.1,h.2.2.grow hb⟩
theorem tK.grow {w0 wr x:ah} {B:Nat} {y:jk} {a:En} (h:tK w0 B wr y a) (hb:Below wr.heap.size wr x):tK w0 B x y a:=⟨h.1,h.2.1,h.2.2.1,h.2.2.2.1,h.2.2.2.2.grow hb⟩
theorem Og.grow {w0 wr x:ah} {B:Nat} {y:ny} {a:Ow} (h:Og w0 B wr y a) (hb:Below wr.heap.size wr x):Og w0 B x y a:=⟨h.1,h.2.grow hb⟩
theorem Nt.but {w0 wr x:ah} {B:Nat} {y:kY} {a:Ad} {g:Nat} {d:Array aA} {t:aV} (h:Nt w0 B wr y a) (hb:But g wr x) (hg:dK wr g d t) (hne:(91 == t)=aQ):Nt w0 B x y a:=⟨h.1,h.2.1,h.2.2.but hb hg hne⟩
theorem tK.but {w0 wr x:ah} {B:Nat} {y:jk} {a:En} {g:Nat} {d:Array aA} {t:aV} (h:tK w0 B wr y a) (hb:But g wr x) (hg:dK wr g d t) (hne:(91 == t)=aQ):tK w0 B x y a:=⟨h.1,h.2.1,h.2.2.1,h.2.2.2.1,h.2.2.2.2.but hb hg hne⟩
theorem Og.but {w0 wr x:ah} {B:Nat} {y:ny} {a:Ow} {g:Nat} {d:Array aA} {t:aV} (h:Og w0 B wr y a) (hb:But g wr x) (hg:dK wr g d t) (hne:(91 == t)=aQ):Og w0 B x y a:=⟨h.1,h.2.but hb hg hne⟩
def vw (w:ah):ah:={ w with heap:=#[] }
theorem Cq {w x:ah} {B:Nat} (h:Below B w x):Below (vw w).heap.size (vw w) x:=⟨h.os,h.tape,h.output,aZ _,fun k hk=>absurd hk (bX k)⟩
theorem abY (w:ah) (a:bS):(vw w).cell? a=Z:=by
 unfold World.cell? vw;simp
theorem Jd {α:Type} {E:Ek α} {w x:ah} {v:aA} {l:List α} (h:Row E (vw w) v l):Row E x v l:=by
 rcases h with h|⟨a,cap,h1,h2,h3,h4⟩
 ·exact bG h
 ·refine aM ⟨a,cap,h1,h2,h3,fun j u hj=>?_⟩;have h5:=h4 j u hj;rw [abY] at h5;cases h5
theorem wO {α:Type}:∀ (l:List α) (k:Nat) (x:α),k<l.length->(l.set k x).take (k+1)=l.take k++[x]
 | [],k,x,h=>absurd h (bX k)
 | _::_,0,_,_=>rfl
 | a::l,k+1,x,h=>by
  rw [aU,List.take_succ_cons,wO l k x (by simpa using h)]
  rfl
theorem zh {α β:Type} {R:α->β->Prop} {l:List α} {m:List β} {k:Nat} {x:α} {y:β} (h:eY R (l.take k) (m.take k)) (hk:k<l.length) (hy:m[k]?=U y) (hx:R x y):eY R ((l.set k x).take (k+1)) (m.take (k+1)):=by
 rw [wO l k x hk,bf,hy];exact h.append (.cons hx .nil)
structure Cp (w0:ah) (B:Nat) (wr:ah) (b:Br) (nv av sv ev ov:Sl):Prop where
 near:Ay wr B (dX nv) b.near
 seen:uE wr B (dX sv) b.seen
 dO:∃ l,nk wr B (dX av) l/\eY (Nt w0 B wr) l b.dO
 ent:∃ l,jH wr B (dX ev) l/\eY (tK w0 B wr) l b.ent
 own:∃ l,nM wr B (dX ov) l/\eY (Og w0 B wr) l b.own
theorem Cp.grow {w0 wr x:ah} {B:Nat} {b:Br} {nv av sv ev ov:Sl} (h:Cp w0 B wr b nv av sv ev ov) (hb:Below wr.heap.size wr x):Cp w0 B x b nv av sv ev ov where
 near:=Bk.dI h.near hb
 seen:=Bk.dI h.seen hb
 dO:=by obtain⟨l,h1,h2⟩:=h.dO; exact⟨l,Bk.dI h1 hb,h2.mono fun _ _ h=>h.grow hb⟩
 ent:=by obtain⟨l,h1,h2⟩:=h.ent; exact⟨l,Bk.dI h1 hb,h2.mono fun _ _ h=>h.grow hb⟩
 own:=by obtain⟨l,h1,h2⟩:=h.own; exact⟨l,Bk.dI h1 hb,h2.mono fun _ _ h=>h.grow hb⟩
theorem Cp.vg {w0 wr x:ah} {B:Nat} {b:Br} {nv av sv ev ov:Sl} (h:Cp w0 B wr b nv av sv ev ov) {g:Nat} {d:Array aA} {t:aV} (hb:But g wr x) (hg:dK wr g d t) (h1:(3 == t)=aQ) (h2:(23 == t)=aQ) (h3:(36 == t)=aQ) (h4:(67 == t)=aQ) (h5:(88 == t)=aQ) (h6:(91 == t)=aQ):Cp w0 B x b nv av sv ev ov where
 near:=hb.own h.near hg h1
 seen:=hb.own h.seen hg h2
 dO:=by obtain⟨l,g1,g2⟩:=h.dO; exact⟨l,hb.own g1 hg h3,g2.mono fun _ _ h=>h.but hb hg h6⟩
 ent:=by obtain⟨l,g1,g2⟩:=h.ent; exact⟨l,hb.own g1 hg h4,g2.mono fun _ _ h=>h.but hb hg h6⟩
 own:=by obtain⟨l,g1,g2⟩:=h.own; exact⟨l,hb.own g1 hg h5,g2.mono fun _ _ h=>h.but hb hg h6⟩
theorem Cp.but {w0 wr x:ah} {B:Nat} {b:Br} {nv av sv ev ov:Sl} (h:Cp w0 B wr b nv av sv ev ov) {g:Nat} {d:Array aA} (hb:But g wr x) (hg:dK wr g d 30):Cp w0 B x b nv av sv ev ov where
 near:=hb.own h.near hg (by decide)
 seen:=hb.own h.seen hg (by decide)
 dO:=by obtain⟨l,h1,h2⟩:=h.dO; exact⟨l,hb.own h1 hg (by decide),h2.mono fun _ _ h=>h.but hb hg (by decide)⟩
 ent:=by obtain⟨l,h1,h2⟩:=h.ent; exact⟨l,hb.own h1 hg (by decide),h2.mono fun _ _ h=>h.but hb hg (by decide)⟩
 own:=by obtain⟨l,h1,h2⟩:=h.own; exact⟨l,hb.own h1 hg (by decide),h2.mono fun _ _ h=>h.but hb hg (by decide)⟩
structure Cs (w0 w wr:ah) (b:Br) (kd kn kw:Nat) (nv av sv ev ov:Sl):Prop where
 wM:Below w.heap.size w wr
 bx:dK wr w.heap.size #[aj ak b.me,dX nv,dX av,dX sv,dX ev,dX ov] 30
 bz:dK wr (w.heap.size+1) #[aj ak 0,O Z 0 0,O Z 0 0,O Z 0 0,O Z 0 0,O Z 0 0] 30
 near:Ay wr w.heap.size (dX nv) b.near
 seen:uE wr w.heap.size (dX sv) b.seen
 dO:∃ l,nk wr w.heap.size (dX av) l/\eY (Nt w0 w.heap.size wr) l b.dO/\eY (Nt (vw w0) w.heap.size wr) (l.take kd) (b.dO.take kd)
 ent:∃ l,jH wr w.heap.size (dX ev) l/\eY (tK w0 w.heap.size wr) l b.ent/\eY (tK (vw w0) w.heap.size wr) (l.take kn) (b.ent.take kn)
 own:∃ l,nM wr w.heap.size (dX ov) l/\eY (Og w0 w.heap.size wr) l b.own/\eY (Og (vw w0) w.heap.size wr) (l.take kw) (b.own.take kw)
theorem Cs.Xn {w0 w wr x:ah} {b:Br} {kd kn kw kd':Nat} {nv sv ev ov:Sl} {g n cap:Nat} {l l':List kY} (h:Cs w0 w wr b kd kn kw nv (U ⟨g,0,Z⟩,n,cap) sv ev ov) (ho:nk wr w.heap.size (O (U ⟨g,0,Z⟩) n cap) l) (hx:nk x w.heap.size (O (U ⟨g,0,Z⟩) n cap) l') (hb:But g wr x) (hw:Below w.heap.size w x) (hA:eY (Nt w0 w.heap.size x) l' b.dO) (hV:eY (Nt (vw w0) w.heap.size x) (l'.take kd') (b.dO.take kd')):Cs w0 w x b kd' kn kw nv (U ⟨g,0,Z⟩,n,cap) sv ev ov:=by
 obtain⟨cur,hg⟩:=jL ho;exact {
  wM:=hw
  bx:=hb.box h.bx (rM h.bx hg (by decide))
  bz:=hb.box h.bz (rM h.bz hg (by decide))
  near:=hb.own h.near hg (by decide)
  seen:=hb.own h.seen hg (by decide)
  dO:=⟨l',hx,hA,hV⟩
  ent:=by obtain⟨l,h1,h2,h3⟩:=h.ent; exact⟨l,hb.own h1 hg (by decide),h2.mono fun _ _ h=>h.but hb hg (by decide),h3.mono fun _ _ h=>h.but hb hg (by decide)⟩
  own:=by obtain⟨l,h1,h2,h3⟩:=h.own; exact⟨l,hb.own h1 hg (by decide),h2.mono fun _ _ h=>h.but hb hg (by decide),h3.mono fun _ _ h=>h.but hb hg (by decide)⟩ }
theorem Cs.amI {w0 w wr x:ah} {b:Br} {kd kn kw kn':Nat} {nv av sv ov:Sl} {g n cap:Nat} {l l':List jk} (h:Cs w0 w wr b kd kn kw nv av sv (U ⟨g,0,Z⟩,n,cap) ov) (ho:jH wr w.heap.size (O (U ⟨g,0,Z⟩) n cap) l) (hx:jH x w.heap.size (O (U ⟨g,0,Z⟩) n cap) l') (hb:But g wr x) (hw:Below w.heap.size w x) (hA:eY (tK w0 w.heap.size x) l' b.ent) (hV:eY (tK (vw w0) w.heap.size x) (l'.take kn') (b.ent.take kn')):Cs w0 w x b kd kn' kw nv av sv (U ⟨g,0,Z⟩,n,cap) ov:=by
 obtain⟨cur,hg⟩:=jL ho;exact {
  wM:=hw
  bx:=hb.box h.bx (rM h.bx hg (by decide))
  bz:=hb.box h.bz (rM h.bz hg (by decide))
  near:=hb.own h.near hg (by decide)
  seen:=hb.own h.seen hg (by decide)
  dO:=by obtain⟨l,h1,h2,h3⟩:=h.dO; exact⟨l,hb.own h1 hg (by decide),h2.mono fun _ _ h=>h.but hb hg (by decide),h3.mono fun _ _ h=>h.but hb hg (by decide)⟩
  ent:=⟨l',hx,hA,hV⟩
  own:=by obtain⟨l,h1,h2,h3⟩:=h.own; exact⟨l,hb.own h1 hg (by decide),h2.mono fun _ _ h=>h.but hb hg (by decide),h3.mono fun _ _ h=>h.but hb hg (by decide)⟩ }
theorem Cs.setW {w0 w wr x:ah} {b:Br} {kd kn kw kw':Nat} {nv av sv ev:Sl} {g n cap:Nat} {l l':List ny} (h:Cs w0 w wr b kd kn kw nv av sv ev (U ⟨g,0,Z⟩,n,cap)) (ho:nM wr w.heap.size (O (U ⟨g,0,Z⟩) n cap) l) (hx:nM x w.heap.size (O (U ⟨g,0,Z⟩) n cap) l') (hb:But g wr x) (hw:Below w.heap.size w x) (hA:eY (Og w0 w.heap.size x) l' b.own) (hV:eY (Og (vw w0) w.heap.size x) (l'.take kw') (b.own.take kw')):Cs w0 w x b kd kn kw' nv av sv ev (U ⟨g,0,Z⟩,n,cap):=by
 obtain⟨cur,hg⟩:=jL ho;exact {
  wM:=hw
  bx:=hb.box h.bx (rM h.bx hg (by decide))
  bz:=hb.box h.bz (rM h.bz hg (by decide))
  near:=hb.own h.near hg (by decide)
  seen:=hb.own h.seen hg (by decide)
  dO:=by obtain⟨l,h1,h2,h3⟩:=h.dO; exact⟨l,hb.own h1 hg (by decide),h2.mono fun _ _ h=>h.but hb hg (by decide),h3.mono fun _ _ h=>h.but hb hg (by decide)⟩
  ent:=by obtain⟨l,h1,h2,h3⟩:=h.ent; exact⟨l,hb.own h1 hg (by decide),h2.mono fun _ _ h=>h.but hb hg (by decide),h3.mono fun _ _ h=>h.but hb hg (by decide)⟩
  own:=⟨l',hx,hA,hV⟩ }
end Av
namespace Rl
open Go.RowKit Pu Rw Pr Va
def zi (x y:Cn):Bool:=decide (y.1=x.1) && fE y.2 x.2
theorem Xo {α:Type} (f:α->Bool) (l:List α) (k:Nat) (y:α) (h:l[k]?=U y):(l.take (k+1)).any f=((l.take k).any f || f y):=by
 rw [bf,h,List.any_append];simp
theorem Kk {α:Type} (f:α->Bool) (l:List α) (k:Nat) (y:α) (h:l[k]?=U y):(l.take (k+1)).all f=((l.take k).all f && f y):=by
 rw [bf,h,List.all_append];simp
theorem Qk {α:Type} (f:α->Bool) (l:List α) (k:Nat) (y:α) (h:l[k]?=U y) (hf:f y=aQ):l.all f=aQ:=by
 rw [List.all_eq_false];exact⟨y,List.mem_of_getElem? h,by simp [hf]⟩
theorem str_eq (a b:ByteArray) (h:a=b):(a.toList == b.toList)=aW:=by simp [h]
theorem ahT (a b:ByteArray) (h:¬ a=b):(a.toList == b.toList)=aQ:=by
 rw [beq_eq_false_iff_ne];intro e;rw [bY,bY] at e;exact h (rV e)
theorem Kl (pO bv:aA) (a b:List Cn) (w:ah) (ha:fI w pO (a.map r5)) (hb:fI w bv (b.map r5)) (hl:a.length<=100) (hm:b.length<=100) :
  cO aK 164 #[pO,bv] w fun e w'=>e=.returned (bO (qV a b))/\bg w.heap.size w w':=by
 have HA:=J ha;have HB:=J hb;have CO:=J (show qV a b=a.all fun x=>b.any (zi x) from rfl);obtain⟨ao,ac,rfl⟩:=ha.len;obtain⟨bo,bc,rfl⟩:=hb.len;clear ha hb;rw [aX] at HA HB ⊢;rw [aX];generalize qV a b=r at *;generalize hn:a.length=n at *;generalize hm':b.length=m at *;have HN:=J hn;have HM:=J hm';clear hn hm';go_enter Tryz.func164,Tryz.ntmps164;go_wp2
 go_loopw [12] (fun i wr=>∃ k:Nat,k<=n/\i=aj ak k/\bg w.heap.size w wr/\(a.take k).all (fun x=>b.any (zi x))=aW) (fun i _=>n-(intOf i).toNat)
 case atStart=>exact⟨0,aZ _,rfl,ay _ _,rfl⟩
 case round =>
  obtain⟨k,hk,rfl,hbe,hall⟩:=hrel;have BE:=J hbe;have AL:=J hall;clear hbe hall;by_cases hlt:k<n
  ·obtain⟨x,hx⟩:∃ x,a[k]?=U x:=⟨_,aI (by rw [HN.out]; exact hlt)⟩;obtain⟨p,ix,px⟩:=elC HA.out rfl (by rw [aX]; exact HN.out) (show (a.map r5)[k]?=U (r5 x) by rw [aR,hx]; rfl);have p0:=(px _ BE.out).1;have p1:=(px _ BE.out).2.1;have p2:=(px _ BE.out).2.2.1;have p3:=(px _ BE.out).2.2.2.1;have p4:=(px _ BE.out).2.2.2.2;have HX:=J hx;have B1:=J (BE.out.alloc BE.out.size (aP #[aB (r5 x).1,aj ak (r5 x).2.1,aj ak (r5 x).2.2.1,aj ak (r5 x).2.2.2.1,aB (r5 x).2.2.2.2] 91));have Z1:=J (show wr.heap.size<(wr.alloc (aP #[aB (r5 x).1,aj ak (r5 x).2.1,aj ak (r5 x).2.2.1,aj ak (r5 x).2.2.2.1,aB (r5 x).2.2.2.2] 91)).heap.size by simp);have e0:(wr.alloc (aP #[aB (r5 x).1,aj ak (r5 x).2.1,aj ak (r5 x).2.2.1,aj ak (r5 x).2.2.2.1,aB (r5 x).2.2.2.2] 91)).cell? ⟨wr.heap.size,0,Z⟩=U (aB (r5 x).1):=by simp [go_sem]
   have e1:(wr.alloc (aP #[aB (r5 x).1,aj ak (r5 x).2.1,aj ak (r5 x).2.2.1,aj ak (r5 x).2.2.2.1,aB (r5 x).2.2.2.2] 91)).cell? ⟨wr.heap.size,1,Z⟩=U (aj ak (r5 x).2.1):=by simp [go_sem]
   have e2:(wr.alloc (aP #[aB (r5 x).1,aj ak (r5 x).2.1,aj ak (r5 x).2.2.1,aj ak (r5 x).2.2.2.1,aB (r5 x).2.2.2.2] 91)).cell? ⟨wr.heap.size,2,Z⟩=U (aj ak (r5 x).2.2.1):=by simp [go_sem]
   have e3:(wr.alloc (aP #[aB (r5 x).1,aj ak (r5 x).2.1,aj ak (r5 x).2.2.1,aj ak (r5 x).2.2.2.1,aB (r5 x).2.2.2.2] 91)).cell? ⟨wr.heap.size,3,Z⟩=U (aj ak (r5 x).2.2.2.1):=by simp [go_sem]
   have e4:(wr.alloc (aP #[aB (r5 x).1,aj ak (r5 x).2.1,aj ak (r5 x).2.2.1,aj ak (r5 x).2.2.2.1,aB (r5 x).2.2.2.2] 91)).cell? ⟨wr.heap.size,4,Z⟩=U (aB (r5 x).2.2.2.2):=by simp [go_sem]
   clear px hx;go_wp2;generalize wr.alloc (aP #[aB (r5 x).1,aj ak (r5 x).2.1,aj ak (r5 x).2.2.1,aj ak (r5 x).2.2.2.1,aB (r5 x).2.2.2.2] 91)=W1 at *;generalize wr.heap.size=bx at *;have E0:=J e0;have E1:=J e1;have E2:=J e2;have E3:=J e3;have E4:=J e4;clear e0 e1 e2 e3 e4 ix p0 p1 p2 p3 p4
   go_loopw [7,18] (fun v i wi=>∃ j:Nat,j<=m/\i=aj ak j/\v=bO ((b.take j).any (zi x))/\bg W1.heap.size W1 wi) (fun _ i _=>m-(intOf i).toNat)
   case atStart=>exact⟨0,aZ _,rfl,rfl,ay _ _⟩
   case round =>
    obtain⟨j,hj,rfl,rfl,hbi⟩:=hrel;have BI:=J hbi;have TK:=J (B1.out.trans (hbi.mono B1.out.size));clear hbi;by_cases hjt:j<m
    ·obtain⟨y,hy⟩:∃ y,b[j]?=U y:=⟨_,aI (by rw [HM.out]; exact hjt)⟩;obtain⟨q,iy,py⟩:=elC HB.out rfl (by rw [aX]; exact HM.out) (show (b.map r5)[j]?=U (r5 y) by rw [aR,hy]; rfl);have q0:=(py _ TK.out).1;have q1:=(py _ TK.out).2.1;have q2:=(py _ TK.out).2.2.1;have q3:=(py _ TK.out).2.2.2.1;have q4:=(py _ TK.out).2.2.2.2;have MO:=J (Xo (zi x) b j y hy);have BI2:=J (BI.out.alloc BI.out.size (aP #[aB (r5 y).1,aj ak (r5 y).2.1,aj ak (r5 y).2.2.1,aj ak (r5 y).2.2.2.1,aB (r5 y).2.2.2.2] 91));have f0:=(BI2.out.cell (p:=⟨bx,0,Z⟩) Z1.out).trans E0.out;have f1:=(BI2.out.cell (p:=⟨bx,1,Z⟩) Z1.out).trans E1.out;have f2:=(BI2.out.cell (p:=⟨bx,2,Z⟩) Z1.out).trans E2.out;have f3:=(BI2.out.cell (p:=⟨bx,3,Z⟩) Z1.out).trans E3.out;have f4:=(BI2.out.cell (p:=⟨bx,4,Z⟩) Z1.out).trans E4.out;clear py hy;cases hv:(b.take j).any (zi x)
     ·rw [hv] at MO;clear hv;by_cases hne:y.1=x.1
      ·have g0:=str_eq (r5 y).1 (r5 x).1 hne;have CV:=J (show zi x y=fE y.2 x.2 by simp [zi,hne]);go_wp2_with fail;refine (Kc y x _).mono ?_;rintro e w2 ⟨rfl,hc⟩;have BC:=J (BI2.out.trans (hc.mono BI2.out.size));clear hc;go_wp2
       go_roundw
       case rel=>exact⟨j+1,by omega,by go_num,by rw [MO.out,CV.out]; rfl,BC.out⟩
       case measure=>simp [intOf]; omega
      ·have g0:=ahT (r5 y).1 (r5 x).1 hne;have CV:=J (show zi x y=aQ by simp [zi,hne]);go_wp2
       go_roundw
       case rel=>exact⟨j+1,by omega,by go_num,by rw [MO.out,CV.out]; rfl,BI2.out⟩
       case measure=>simp [intOf]; omega
     ·rw [hv] at MO;clear hv;go_wp2
      go_roundw
      case rel=>exact⟨j+1,by omega,by go_num,by rw [MO.out]; rfl,BI2.out⟩
      case measure=>simp [intOf]; omega
    ·obtain rfl:j=m:=by omega
     have TA:=J (show (b.take j).any (zi x)=b.any (zi x) by rw [<- HM.out,bV]);have AM:=J (Kk (fun x=>b.any (zi x)) a k x HX.out);rw [TA.out];cases hv:b.any (zi x)
     ·have R:=J (show r=aQ from CO.out.trans (Qk _ a k x HX.out hv));clear hv;go_wp2;go_ret;exact⟨eX R.out.symm,TK.out⟩
     ·have HV:=J hv;clear hv;go_wp2
      go_roundw
      case rel=>exact⟨k+1,by omega,by go_num,TK.out,by rw [AM.out,AL.out,HV.out]; rfl⟩
      case measure=>simp [intOf]; omega
  ·obtain rfl:k=n:=by omega
   have R:=J (show r=aW by rw [CO.out,<- AL.out,<- HN.out,bV]);go_wp2;go_ret;exact⟨eX R.out.symm,BE.out⟩
end Rl
namespace Bk
open Go.RowKit Rw YtghlpefopidlaaaGreat.Nm Pr
def jc {κ:Type} [DecidableEq κ]:List κ->κ->Int
 | [],_=>-1
 | a::l,x=>if a=x then 0 else if jc l x=-1 then -1 else jc l x+1
theorem xq {κ:Type} [DecidableEq κ] (l:List κ) (x:κ) (h:∀ (j:Nat) (y:κ),l[j]?=U y->y≠x):jc l x=-1:=by
 induction l with
 | nil=>rfl
 | cons a l ih=>rw [jc,if_neg (h 0 a rfl),ih fun j y hj=>h (j+1) y (by simpa using hj),if_pos rfl]
theorem Cr {κ:Type} [DecidableEq κ] (l:List κ) (k:Nat) (x:κ) (h:l[k]?=U x) (hall:∀ (j:Nat) (z:κ),j<k->l[j]?=U z->z≠x):jc l x=k:=by
 induction l generalizing k with
 | nil=>simp at h
 | cons a l ih =>
  cases k with
  | zero =>
   obtain rfl:a=x:=by simpa using h
   rw [jc,if_pos rfl]
   rfl
  | succ k =>
   have h2:=ih k (by simpa using h) fun j z hj hz=>hall (j+1) z (by omega) (by simpa using hz);rw [jc,if_neg (hall 0 a (by omega) rfl),h2,if_neg (by omega)];omega
theorem mH {κ:Type} [DecidableEq κ] (l:List κ) (x:κ):jc l x=-1\/∃ k:Nat,jc l x=k/\l[k]?=U x:=by
 induction l with
 | nil=>exact bG rfl
 | cons a l ih =>
  rw [jc];by_cases h:a=x
  ·rw [if_pos h];exact aM ⟨0,rfl,by rw [h]; rfl⟩
  ·rw [if_neg h];rcases ih with h2|⟨k,h2,h3⟩
   ·rw [if_pos h2];exact bG rfl
   ·rw [if_neg (by omega),h2];exact aM ⟨k+1,by omega,by simpa using h3⟩
abbrev jG (e:jk):Id×Id:=((e.1,e.2.1),(e.2.2.1,e.2.2.2.1))
theorem Ct (me:Int) (nv av sv ov:aA) (ev:Sl) (l:List jk) (x z:Id) (w:ah) (hs:mh w (dX ev) l) :
  cO aK 124 #[dw #[aj ak me,nv,av,sv,dX ev,ov],nC x,nC z] w fun e w'=>e=.returned (aj ak (jc (l.map jG) (x,z)))/\bg w.heap.size w w':=by
 obtain⟨c,d⟩:=x;obtain⟨g,h⟩:=z;obtain⟨so,sn,sc⟩:=ev;obtain⟨ao,ac,hv⟩:=hs.len;have hv:O so sn sc=O ao l.length ac:=hv;obtain⟨rfl,rfl,rfl⟩:so=ao/\sn=l.length/\sc=ac:=by simpa using hv
 obtain⟨h0,h1,h2,h3⟩:=gT w #[aj ak me,nv,av,sv,O so l.length sc,ov] #[aj ak c,aj ak d] #[aj ak g,aj ak h] 30 23 23;have B:=J h0;have HS:=J (hs.on h0);have X2:=J h1;have X3:=J h2;have X4:=J h3;have lm:=hs.most;unfold maxLen at lm;obtain⟨n,hn⟩:∃ n,n=l.length:=⟨_,rfl⟩;have q3:=h1.cell 4;simp only [aC,aF,aG] at q3;rw [<- hn] at HS X2 lm q3 B X3 X4 ⊢;have HN:=J hn.symm;clear h0 h1 h2 h3 hs hv hn;go_enter Tryz.func124,Tryz.ntmps124;go_upto_region 1 with fail;generalize ((w.alloc (aP #[aj ak me,nv,av,sv,O so n sc,ov] 30)).alloc (aP #[aj ak c,aj ak d] 23)).alloc (aP #[aj ak g,aj ak h] 23)=W at *;go_wp2
 go_loopw [12] (fun i wr=>∃ k:Nat,k<=n/\i=aj ak k/\bg W.heap.size W wr/\∀ (j:Nat) (y:jk),j<k->l[j]?=U y->jG y≠((c,d),(g,h))) (fun i _=>n-(intOf i).toNat)
 case atStart=>exact⟨0,aZ _,rfl,ay _ _,fun j y h=>by omega⟩
 case round =>
  obtain⟨k,hk,rfl,hbe,hall⟩:=hrel;have BE:=J hbe;have AL:=J hall;clear hbe hall;by_cases hlt:k<n
  ·obtain⟨y,hy⟩:∃ y,l[k]?=U y:=⟨_,aI (by rw [HN.out]; exact hlt)⟩;obtain⟨p,ix,px⟩:=P8 HS.out rfl HN.out hy;obtain⟨p0,p1,p2,p3,p4,p5,p6⟩:=px wr BE.out;obtain⟨y1,y2,y3,y4,⟨yo,yn,yc⟩,y6,y7⟩:=y;simp only at p0 p1 p2 p3 p4 p5 p6;have NB:=J (gN wr (aP #[aj ak y1,aj ak y2,aj ak y3,aj ak y4,O yo yn yc,aj ak y6,bO y7] 67));obtain⟨x0,x1⟩:=((X3.out.on BE.out).on NB.out).cs2;obtain⟨z0,z1⟩:=((X4.out.on BE.out).on NB.out).cs2;have hw3:IntKind.i64.wrap ((k:Int)+1)=(k:Int)+1:=IntWalk.i64_in _ (by omega);obtain⟨r,hr⟩:∃ r,(y1 == c && y2 == d)=r:=⟨_,rfl⟩;obtain⟨t,ht⟩:∃ r,(y3 == g && y4 == h)=r:=⟨_,rfl⟩;have he:=rH y1 y2 c d r hr;have hf:=rH y3 y4 g h t ht;have HY:=J hy;have HR:=J hr;have HT:=J ht;clear px hy hr ht;cases r
   ·go_wp2
    go_roundw
    case rel=>exact⟨k+1,by omega,by go_num,BE.out.trans (NB.out.mono BE.out.size),fun j y' hj h1=>by
     rcases bU j k with h3|h3
     ·exact AL.out j y' h3 h1
     ·obtain rfl:j=k:=by omega
      have e1:=HY.out;rw [h1] at e1;rw [aT e1];intro e;obtain⟨⟨rfl,rfl⟩,_⟩:(y1=c/\y2=d)/\(y3=g/\y4=h):=by simpa [jG] using e
      have:=HR.out;simp at this⟩
    case measure=>simp [intOf]; omega
   ·cases t
    ·go_wp2
     go_roundw
     case rel=>exact⟨k+1,by omega,by go_num,BE.out.trans (NB.out.mono BE.out.size),fun j y' hj h1=>by
      rcases bU j k with h3|h3
      ·exact AL.out j y' h3 h1
      ·obtain rfl:j=k:=by omega
       have e1:=HY.out;rw [h1] at e1;rw [aT e1];intro e;obtain⟨_,rfl,rfl⟩:(y1=c/\y2=d)/\(y3=g/\y4=h):=by simpa [jG] using e
       have:=HT.out;simp at this⟩
     case measure=>simp [intOf]; omega
    ·go_wp2;go_ret;have h8:=HR.out;have h9:=HT.out;obtain⟨rfl,rfl⟩:y1=c/\y2=d:=by simpa using h8
     obtain⟨rfl,rfl⟩:y3=g/\y4=h:=by simpa using h9
     exact⟨by rw [Cr (l.map jG) k ((y1,y2),(y3,y4)) (by rw [aR,HY.out]; rfl) (fun j z hj hz=>by
      rw [aR] at hz;cases hl:l[j]? with
      | none=>rw [hl] at hz; cases hz
      | some q =>
       rw [hl] at hz;have hz:jG q=z:=aT hz;rw [<- hz];exact AL.out j q hj hl)]; rfl,B.out.trans ((BE.out.trans (NB.out.mono BE.out.size)).mono B.out.size)⟩
  ·obtain rfl:k=n:=by omega
   go_wp2;go_ret;have hd:jc (l.map jG) ((c,d),(g,h))=-1:=xq _ _ fun j z hz=>by
    rw [aR] at hz;cases hl:l[j]? with
    | none=>rw [hl] at hz; cases hz
    | some q =>
     rw [hl] at hz;have hz:jG q=z:=aT hz;rw [<- hz];exact AL.out j q (by rw [<- HN.out]; exact (aH.1 hl).1) hl
   exact⟨by rw [hd]; rfl,B.out.trans (BE.out.mono B.out.size)⟩
noncomputable def adH:Code:=((Tryz.f57.body.bind (eO 9)).getD .skip)
structure P9 (base:cZ) (v0 v2:aA) (p:aA) (W W':ah) (L:Array Bool) (a:cZ) (x:ah):Prop where
 df:a.defers=base.defers
 sz:a.tmps.size=base.tmps.size
 kp:∀ j,j≠112->j≠113->j≠114->j≠5->a.tmps[j]?=base.tmps[j]?
 t0:bF L 0->a.tmps[112]?=U v0
 t1:bF L 1->a.tmps[113]?=U p
 t2:bF L 2->a.tmps[114]?=U v2
 t4:bF L 4->a.tmps[5]?=U v2
 w0:¬ bF L 3->x=W.drew
 w1:bF L 3->x=W'
 c3:bF L 3->bF L 0
theorem zk (Q:Exit->cZ->ah->Prop) (W:ah) (b2 b3 b4:Nat) (me:Int) (o1 o2 o3 o4 o5:Option bS) (n1 c1 n2 c2 n3 c3 n4 c4 n5 c5:Nat) (e0 e1 e2 e3 e4 e5 z0 z1 z2 z3 z4 z5:aA) (up:Bool) (T a0 a3 a4 a5 a6 a7 a8 aE b9 bJ bQ c7 c8 c9 cA cC cD cF cG cH cI cJ cL cM cN cP cQ cR cS cT cU cV cW cX cY d1 d3 d4 d5 d7 d9 dA dC dE dS dT e7 e9 eA eB eC eE eI eJ eK eL eM eN eQ eS eV eW f0 f7 f8 f9 fL fN fP fR fS fW fX fY g0 g6 g9 gE gO gR gS hC hG hH hJ hM hO hS hT hU hW hX hY hZ i0 i3 i4 i5 i6 i7 i8 i9 iF iS j0 j5 j6 j7 j8 j9 jV:aA)
  (h2:dK W b2 #[aj ak me,O o1 n1 c1,O o2 n2 c2,O o3 n3 c3,O o4 n4 c4,O o5 n5 c5] 30) (h3:dK W b3 #[e0,e1,e2,e3,e4,e5,bO up] 67) (h4:dK W b4 #[z0,z1,z2,z3,z4,z5] 30) (hne:b3≠b4)
  (hQ:∀ (a:cZ) (x:ah),a.defers=[]->a.tmps[4]?=U (au (U ⟨b4,0,Z⟩))->a.tmps[5]?=U (bO up)->x=gV W.drew b4 (aj ak me) (O o1 n1 c1) (O o2 n2 c2) (O o3 n3 c3) (O o4 n4 c4) (O o5 n5 c5)->Q .normal a x) :
  Code.wp aK adH Q ⟨(T::a0::au (U ⟨b2,0,Z⟩)::au (U ⟨b3,0,Z⟩)::au (U ⟨b4,0,Z⟩)::a3::a4::a5::a6::a7::a8::aE::b9::bJ::bQ::c7::c8::c9::cA::cC::cD::cF::cG::cH::cI::cJ::cL::cM::cN::cP::cQ::cR::cS::cT::cU::cV::cW::cX::cY::d1::d3::d4::d5::d7::d9::dA::dC::dE::dS::dT::e7::e9::eA::eB::eC::eE::eI::eJ::eK::eL::eM::eN::eQ::eS::eV::eW::f0::f7::f8::f9::fL::fN::fP::fR::fS::fW::fX::fY::g0::g6::g9::gE::gO::gR::gS::hC::hG::hH::hJ::hM::hO::hS::hT::hU::hW::hX::hY::hZ::i0::i3::i4::i5::i6::i7::i8::i9::iF::iS::j0::j5::j6::j7::j8::j9::jV::[]).toArray,[]⟩ W:=by
 have HQ:=J hQ;have H2:=J h2.drew;have H3:=J h3.drew;have H4:=J h4.drew;have X3:=J (show dK (gV W.drew b4 (aj ak me) (O o1 n1 c1) (O o2 n2 c2) (O o3 n3 c3) (O o4 n4 c4) (O o5 n5 c5)) b3 #[e0,e1,e2,e3,e4,e5,bO up] 67 from (dN W.drew b4 (aj ak me) (O o1 n1 c1) (O o2 n2 c2) (O o3 n3 c3) (O o4 n4 c4) (O o5 n5 c5) b3 hne).trans h3.drew);clear hQ h2 h3 h4 hne;unfold adH
 conv=>arg 2; whnf
 obtain⟨base,hbase⟩:∃ b:cZ,b=⟨(T::a0::au (U ⟨b2,0,Z⟩)::au (U ⟨b3,0,Z⟩)::au (U ⟨b4,0,Z⟩)::a3::a4::a5::a6::a7::a8::aE::b9::bJ::bQ::c7::c8::c9::cA::cC::cD::cF::cG::cH::cI::cJ::cL::cM::cN::cP::cQ::cR::cS::cT::cU::cV::cW::cX::cY::d1::d3::d4::d5::d7::d9::dA::dC::dE::dS::dT::e7::e9::eA::eB::eC::eE::eI::eJ::eK::eL::eM::eN::eQ::eS::eV::eW::f0::f7::f8::f9::fL::fN::fP::fR::fS::fW::fX::fY::g0::g6::g9::gE::gO::gR::gS::hC::hG::hH::hJ::hM::hO::hS::hT::hU::hW::hX::hY::hZ::i0::i3::i4::i5::i6::i7::i8::i9::iF::iS::j0::j5::j6::j7::j8::j9::jV::[]).toArray,[]⟩:=⟨_,rfl⟩;have b2t:base.tmps[2]?=U (au (U ⟨b2,0,Z⟩)):=by rw [hbase]; rfl
 have b3t:base.tmps[3]?=U (au (U ⟨b3,0,Z⟩)):=by rw [hbase]; rfl
 have b4t:base.tmps[4]?=U (au (U ⟨b4,0,Z⟩)):=by rw [hbase]; rfl
 have bsz:base.tmps.size=115:=by rw [hbase]; rfl
 have bdf:base.defers=[]:=by rw [hbase]
 rw [<- hbase];clear hbase;generalize hW':gV W.drew b4 (aj ak me) (O o1 n1 c1) (O o2 n2 c2) (O o3 n3 c3) (O o4 n4 c4) (O o5 n5 c5)=W' at *;refine Rg.nU (fun L a x=>P9 base (dw #[aj ak me,O o1 n1 c1,O o2 n2 c2,O o3 n3 c3,O o4 n4 c4,O o5 n5 c5]) (bO up) (au (U ⟨b3,6,Z⟩)) W W' L a x) (by kernel_rfl) (by kernel_rfl) ?_ ?_ ?_
 ·exact⟨rfl,rfl,fun _ _ _ _ _=>rfl,fun h=>absurd h (cK _ _),fun h=>absurd h (cK _ _),fun h=>absurd h (cK _ _),fun h=>absurd h (cK _ _),fun _=>rfl,fun h=>absurd h (cK _ _),fun h=>absurd h (cK _ _)⟩
 ·intro L a x i o hsz I ho hnd mP;have hi:i<5:=(aH.1 ho).1;have hL:L.size=5:=hsz;have yY:i<L.size:=by omega
  have k2:a.eval (aJ 2)=au (U ⟨b2,0,Z⟩):=bZ ((I.kp 2 (by decide) (by decide) (by decide) (by decide)).trans b2t);have k3:a.eval (aJ 3)=au (U ⟨b3,0,Z⟩):=bZ ((I.kp 3 (by decide) (by decide) (by decide) (by decide)).trans b3t);have k4:a.eval (aJ 4)=au (U ⟨b4,0,Z⟩):=bZ ((I.kp 4 (by decide) (by decide) (by decide) (by decide)).trans b4t);have asz:a.tmps.size=115:=I.sz.trans bsz;have self:∀ (d:Nat) (v:aA),d<115->(a.put (U d) v).tmps[d]?=U v:=fun d v hd=>by
   have:d<a.tmps.size:=by omega
   simp [Act.put,this]
  have ds:=fun j=>Rg.iw yY j;rcases (by omega:i=0\/i=1\/i=2\/i=3\/i=4) with rfl|rfl|rfl|rfl|rfl
  ·cases ho;have hx:x=W.drew:=I.w0 fun h=>hnd (I.c3 h);exact aY rfl rfl (dh a.eval _ 30 (aJ 2) rfl (by rw [k2,hx]; exact tJ H2.out)) ⟨I.df,(bN a _ _).trans I.sz,fun j j1 j2 j3 j4=>(aD _ _ _ j (by omega)).trans (I.kp j j1 j2 j3 j4),fun _=>self 112 _ (by decide),fun h=>(aD _ _ _ 113 (by decide)).trans (I.t1 (((ds 1).1 h).resolve_left (by decide))),fun h=>(aD _ _ _ 114 (by decide)).trans (I.t2 (((ds 2).1 h).resolve_left (by decide))),fun h=>(aD _ _ _ 5 (by decide)).trans (I.t4 (((ds 4).1 h).resolve_left (by decide))),fun h=>I.w0 fun h3=>h ((ds 3).2 (aM h3)),fun h=>I.w1 (((ds 3).1 h).resolve_left (by decide)),fun h=>(ds 0).2 (bG rfl)⟩
  ·cases ho;exact aY rfl rfl (dn a.eval _ 67 (aJ 3) 4 rfl (by rw [k3]; simp [go_sem])) ⟨I.df,(bN a _ _).trans I.sz,fun j j1 j2 j3 j4=>(aD _ _ _ j (by omega)).trans (I.kp j j1 j2 j3 j4),fun h=>(aD _ _ _ 112 (by decide)).trans (I.t0 (((ds 0).1 h).resolve_left (by decide))),fun _=>self 113 _ (by decide),fun h=>(aD _ _ _ 114 (by decide)).trans (I.t2 (((ds 2).1 h).resolve_left (by decide))),fun h=>(aD _ _ _ 5 (by decide)).trans (I.t4 (((ds 4).1 h).resolve_left (by decide))),fun h=>I.w0 fun h3=>h ((ds 3).2 (aM h3)),fun h=>I.w1 (((ds 3).1 h).resolve_left (by decide)),fun h=>(ds 0).2 (aM (I.c3 (((ds 3).1 h).resolve_left (by decide))))⟩
  ·cases ho;have k113:a.eval (aJ 113)=au (U ⟨b3,6,Z⟩):=bZ (I.t1 (mP ⟨1,.data⟩ (by simp) rfl));have hc:x.cell? ⟨b3,6,Z⟩=U (bO up):=by
    by_cases h3:bF L 3
    ·rw [I.w1 h3]; exact X3.out.cell 6
    ·rw [I.w0 h3]; exact H3.out.cell 6
   exact aY rfl rfl (dh a.eval _ 4 (aJ 113) rfl (by rw [k113]; simp [go_sem,hc])) ⟨I.df,(bN a _ _).trans I.sz,fun j j1 j2 j3 j4=>(aD _ _ _ j (by omega)).trans (I.kp j j1 j2 j3 j4),fun h=>(aD _ _ _ 112 (by decide)).trans (I.t0 (((ds 0).1 h).resolve_left (by decide))),fun h=>(aD _ _ _ 113 (by decide)).trans (I.t1 (((ds 1).1 h).resolve_left (by decide))),fun _=>self 114 _ (by decide),fun h=>(aD _ _ _ 5 (by decide)).trans (I.t4 (((ds 4).1 h).resolve_left (by decide))),fun h=>I.w0 fun h3=>h ((ds 3).2 (aM h3)),fun h=>I.w1 (((ds 3).1 h).resolve_left (by decide)),fun h=>(ds 0).2 (aM (I.c3 (((ds 3).1 h).resolve_left (by decide))))⟩
  ·cases ho;have hx:x=W.drew:=I.w0 hnd;refine Rg.gu 30 (aJ 4) (aJ 112) rfl rfl rfl rfl k4 (bZ (I.t0 (mP ⟨0,.data⟩ (by simp) rfl))) (w':=W') (by rw [hx,<- hW']; exact oD H4.out me _ _ _ _ _ _ _ _ _ _ _ _ _ _ _) ?_;exact⟨I.df,I.sz,I.kp,fun h=>I.t0 (((ds 0).1 h).resolve_left (by decide)),fun h=>I.t1 (((ds 1).1 h).resolve_left (by decide)),fun h=>I.t2 (((ds 2).1 h).resolve_left (by decide)),fun h=>I.t4 (((ds 4).1 h).resolve_left (by decide)),fun h=>absurd ((ds 3).2 (bG rfl)) h,fun _=>rfl,fun _=>(ds 0).2 (aM (mP ⟨0,.data⟩ (by simp) rfl))⟩
  ·cases ho;have k114:a.eval (aJ 114)=bO up:=bZ (I.t2 (mP ⟨2,.data⟩ (by simp) rfl));exact aY rfl rfl (Rg.kP a.eval _ (aJ 114) rfl x) (by rw [k114]; exact⟨I.df,(bN a _ _).trans I.sz,fun j j1 j2 j3 j4=>(aD _ _ _ j (by omega)).trans (I.kp j j1 j2 j3 j4),fun h=>(aD _ _ _ 112 (by decide)).trans (I.t0 (((ds 0).1 h).resolve_left (by decide))),fun h=>(aD _ _ _ 113 (by decide)).trans (I.t1 (((ds 1).1 h).resolve_left (by decide))),fun h=>(aD _ _ _ 114 (by decide)).trans (I.t2 (((ds 2).1 h).resolve_left (by decide))),fun _=>self 5 _ (by decide),fun h=>I.w0 fun h3=>h ((ds 3).2 (aM h3)),fun h=>I.w1 (((ds 3).1 h).resolve_left (by decide)),fun h=>(ds 0).2 (aM (I.c3 (((ds 3).1 h).resolve_left (by decide))))⟩)
 ·intro L a x I hd;exact HQ.out a x (I.df.trans bdf) ((I.kp 4 (by decide) (by decide) (by decide) (by decide)).trans b4t) (I.t4 (hd 4 (by decide))) ((I.w1 (hd 3 (by decide))))
def Ql (B b2 _:Nat) (so:Option bS) (sn sc at_:Nat) (lo hiv:aA) (lt ld:List jk) (i:Nat) (v:aA) (x:ah):Prop :=
 match i with
 | 0=>∃ g,v=O (U ⟨g,0,Z⟩) 0 0/\B<=g/\dK x g #[] 67
 | 1=>v=au (U ⟨b2,4,Z⟩)
 | 2=>v=O so sn sc
 | 3=>v=aj ak (at_:Int)
 | 4=>v=lo
 | 5=>jH x B v lt
 | 6=>v=au (U ⟨b2,4,Z⟩)
 | 7=>v=O so sn sc
 | 8=>v=aj ak (at_:Int)
 | 9=>v=aj ak ((at_:Int)+1)
 | 10=>v=hiv
 | 11=>jH x B v (lt++ld)
 | 12=>v=au (U ⟨b2,4,Z⟩)
 | _=>True
noncomputable def adI:Code:=((Tryz.f126.body.bind (eO 5)).getD .skip)
theorem Xp (B b2 b3:Nat) (so:Option bS) (sn sc at_:Nat) (lo hiv:aA) (lt ld:List jk) (i:Nat) (v:aA) (x x':ah) (h:Ql B b2 b3 so sn sc at_ lo hiv lt ld i v x) (hb:bg x.heap.size x x'):Ql B b2 b3 so sn sc at_ lo hiv lt ld i v x':=by
 by_cases hi:i<13
 ·rcases (by omega:i=0\/i=1\/i=2\/i=3\/i=4\/i=5\/i=6\/i=7\/i=8\/i=9\/i=10\/i=11\/i=12) with rfl|rfl|rfl|rfl|rfl|rfl|rfl|rfl|rfl|rfl|rfl|rfl|rfl
  ·obtain⟨g,h1,h2,h3⟩:=h;exact⟨g,h1,h2,h3.on hb⟩
  ·exact h
  ·exact h
  ·exact h
  ·exact h
  ·exact dI h hb
  ·exact h
  ·exact h
  ·exact h
  ·exact h
  ·exact h
  ·exact dI h hb
  ·exact h
 ·unfold Ql
  split <;> first | omega | trivial
theorem amL (Q:Exit->cZ->ah->Prop) (W:ah) (b2 b3:Nat) (me:Int) (y1 y2 y3 y5:aA) (so:Option bS) (sn sc at_:Nat) (l:List jk) (a0 a3 a4 a5 a6 a7 a8 aE b9 bJ bQ c7 c8 c9 cA cC cD cF cG cH cI cJ cL cM cN cP cQ cR cS cT cU cV cW cX cY d1 i7 i8 i9 iF iS j0 j2 j3 j4 j5 j6 j7 j8 d3 d4 d5 d7 d9 dA dC dE dS dT e7 e9 eA eB eC eE eI eJ eK eL eM eN eQ eS eV eW f0 f7 f8 f9 fL fN fP fR fS fW fX fY g0 g6 g9 gE gO gR gS hC hG hH hJ hL hM hO:aA)
  (h2:dK W b2 #[aj ak me,y1,y2,y3,O so sn sc,y5] 30) (hs:mh W (O so sn sc) l) (hat:at_+1<=l.length) (hlen:l.length<=900)
  (hQ:∀ (x:ah) (hS hT hU hW hX hY hZ i0 i3 i4 i5 T i6:aA),dK x b2 #[aj ak me,y1,y2,y3,T,y5] 30->jH x W.heap.size T (l.take at_++l.drop (at_+1))->(∀ B,B<=b2->bg B W x)->(∀ c cs t,c≠b2->dK W c cs t->dK x c cs t)->(∀ k,k<W.heap.size->k≠b2->x.heap[k]?=W.heap[k]?)->Q .normal ⟨(a0::a3::a4::a5::au (U ⟨b2,0,Z⟩)::au (U ⟨b3,0,Z⟩)::a6::a7::a8::aE::b9::aj ak (at_:Int)::bJ::bQ::c7::c8::c9::cA::cC::cD::cF::cG::cH::cI::cJ::cL::cM::cN::cP::cQ::cR::cS::cT::cU::cV::cW::cX::cY::d1::hS::hT::hU::hW::hX::hY::hZ::i0::i3::i4::i5::T::i6::d3::d4::d5::d7::d9::dA::dC::dE::dS::dT::e7::e9::eA::eB::eC::eE::eI::eJ::eK::eL::eM::eN::eQ::eS::eV::eW::f0::f7::f8::f9::fL::fN::fP::fR::fS::fW::fX::fY::g0::g6::g9::gE::gO::gR::gS::hC::hG::hH::hJ::hL::hM::hO::[]).toArray,[]⟩ x) :
  Code.wp aK adI Q ⟨(a0::a3::a4::a5::au (U ⟨b2,0,Z⟩)::au (U ⟨b3,0,Z⟩)::a6::a7::a8::aE::b9::aj ak (at_:Int)::bJ::bQ::c7::c8::c9::cA::cC::cD::cF::cG::cH::cI::cJ::cL::cM::cN::cP::cQ::cR::cS::cT::cU::cV::cW::cX::cY::d1::i7::i8::i9::iF::iS::j0::j2::j3::j4::j5::j6::j7::j8::d3::d4::d5::d7::d9::dA::dC::dE::dS::dT::e7::e9::eA::eB::eC::eE::eI::eJ::eK::eL::eM::eN::eQ::eS::eV::eW::f0::f7::f8::f9::fL::fN::fP::fR::fS::fW::fX::fY::g0::g6::g9::gE::gO::gR::gS::hC::hG::hH::hJ::hL::hM::hO::[]).toArray,[]⟩ W:=by
 have HQ:=J hQ;have H2:=J h2;have AT1:=J (show at_<=900 by omega);obtain⟨lo,E5,xJ⟩:=wW mM hs at_ (by omega);obtain⟨hiv,E8,za⟩:=qB mM hs (at_+1) hat;have LT:=J (show (l.take at_).length<=1000 by rw [bW]; omega);have Wz:=J (show (l.take at_).length<=900 by rw [bW]; omega);have LD:=J (show (l.drop (at_+1)).length<=1000 by rw [List.length_drop]; omega);generalize l.take at_=lt at *;generalize l.drop (at_+1)=ld at *;have SL:=J E5;have SH:=J (show ∀ w,(bR 27 (O so sn sc) (U (aj ak ((at_:Int)+1))) Z Z).run aK w=.ok hiv w from E8);have RL:=J xJ;have RH:=J za;clear hQ h2 hs E5 E8 xJ za hat hlen;have jW:=Xp W.heap.size b2 b3 so sn sc at_ lo hiv lt ld;unfold adI
 conv=>arg 2; whnf
 have nd:∀ j,(j<39\/52<=j)->∀ i,i<13->(fun i=>39+i) i≠j:=by
  intro j hj i hi h;simp only at h;omega
 refine Rg.gU 14 13 (fun i=>39+i) (fun i=>if i=0 then 5 else if i=5 then 11 else 13) (Ql W.heap.size b2 b3 so sn sc at_ lo hiv lt ld) (by kernel_rfl) (by kernel_rfl) rfl (by decide) (fun i j _ _ h=>by have h2:39+i=39+j:=h; omega) (fun i hi=>by show 39+i<104; omega) ?_ (fun _=>Rg.kL 1 (by kernel_rfl)) (fun kk o h1 h2=>by omega) ?_
 ·intro i o hi ho a x D hnd hc hD hb seen K hK;clear HQ;rcases (by omega:i=0\/i=1\/i=2\/i=3\/i=4\/i=5\/i=6\/i=7\/i=8\/i=9\/i=10\/i=11\/i=12) with rfl|rfl|rfl|rfl|rfl|rfl|rfl|rfl|rfl|rfl|rfl|rfl|rfl
  ·cases ho;exact aY rfl rfl (Rg.iY a.eval _ 27 0 #[] rfl rfl (by simp [go_sem])) (hK (O (U ⟨x.heap.size,0,Z⟩) 0 0) (x.alloc (aP #[] 67)) ⟨x.heap.size,rfl,hb.size,dQ x #[] 67⟩ ((ay _ _).alloc hb.size _) fun j u _ _ _ _ _ h=>jW j u _ _ h ((ay _ _).alloc (bM _) _))
  ·cases ho;have e4:a.eval (aJ 4)=au (U ⟨b2,0,Z⟩):=seen.kp 4 _ (nd 4 (by omega)) rfl;exact aY rfl rfl (dn a.eval _ 30 (aJ 4) 4 rfl (by rw [e4]; simp [go_sem])) (hK _ _ rfl (ay _ _) fun _ _ _ _ _ _ _ h=>h)
  ·cases ho;have e40:a.eval (aJ 40)=au (U ⟨b2,4,Z⟩):=seen.at_ ⟨1,.data⟩ (by simp) rfl (aM (by decide));have y:=(H2.out.on hb).cell 4;simp only [aC,aF,aG] at y;exact aY rfl rfl (dh a.eval _ 27 (aJ 40) rfl (by rw [e40]; simp [go_sem,y])) (hK _ _ rfl (ay _ _) fun _ _ _ _ _ _ _ h=>h)
  ·cases ho;have e11:a.eval (aJ 11)=aj ak (at_:Int):=seen.kp 11 _ (nd 11 (by omega)) rfl;exact aY rfl rfl (Rg.gD a.eval _ (aJ 11) rfl x) (hK _ _ e11 (ay _ _) fun _ _ _ _ _ _ _ h=>h)
  ·cases ho;have e41:a.eval (aJ 41)=O so sn sc:=seen.at_ ⟨2,.data⟩ (by simp) rfl (aM (by decide));have e42:a.eval (aJ 42)=aj ak (at_:Int):=seen.at_ ⟨3,.data⟩ (by simp) rfl (aM (by decide));exact aY rfl rfl (Rg.lJ a.eval _ 27 (aJ 41) Z (U (aJ 42)) Z rfl (by show (bR 27 (a.eval (aJ 41)) Z (U (a.eval (aJ 42))) Z).run aK x=.ok lo x; rw [e41,e42]; exact SL.out x)) (hK _ _ rfl (ay _ _) fun _ _ _ _ _ _ _ h=>h)
  ·cases ho;obtain⟨g,q0,hBg,hbx⟩:=seen.at_ ⟨0,.data⟩ (by simp) rfl (bG rfl);have q0:a.eval (aJ 39)=O (U ⟨g,0,Z⟩) 0 0:=q0;have e43:a.eval (aJ 43)=lo:=seen.at_ ⟨4,.data⟩ (by simp) rfl (aM (by decide));obtain⟨v',x',r,o',gr⟩:=jN mM W.heap.size hbx hBg (RL.out.on hb) LT.out 27;exact aY rfl rfl (Rg.gQ a.eval _ (aJ 39) (aJ 43) 27 rfl q0 e43 r) (hK v' x' o' (gr.mono hb.size) fun j u _ _ _ _ _ h=>jW j u _ _ h gr)
  ·cases ho;have e4:a.eval (aJ 4)=au (U ⟨b2,0,Z⟩):=seen.kp 4 _ (nd 4 (by omega)) rfl;exact aY rfl rfl (dn a.eval _ 30 (aJ 4) 4 rfl (by rw [e4]; simp [go_sem])) (hK _ _ rfl (ay _ _) fun _ _ _ _ _ _ _ h=>h)
  ·cases ho;have e45:a.eval (aJ 45)=au (U ⟨b2,4,Z⟩):=seen.at_ ⟨6,.data⟩ (by simp) rfl (aM (by decide));have y:=(H2.out.on hb).cell 4;simp only [aC,aF,aG] at y;exact aY rfl rfl (dh a.eval _ 27 (aJ 45) rfl (by rw [e45]; simp [go_sem,y])) (hK _ _ rfl (ay _ _) fun _ _ _ _ _ _ _ h=>h)
  ·cases ho;have e11:a.eval (aJ 11)=aj ak (at_:Int):=seen.kp 11 _ (nd 11 (by omega)) rfl;exact aY rfl rfl (Rg.gD a.eval _ (aJ 11) rfl x) (hK _ _ e11 (ay _ _) fun _ _ _ _ _ _ _ h=>h)
  ·cases ho;have e47:a.eval (aJ 47)=aj ak (at_:Int):=seen.at_ ⟨8,.data⟩ (by simp) rfl (aM (by decide));exact aY rfl rfl (Rg.Wn a.eval _ .add 3 (aJ 47) (.const (aj ak 1)) 3 rfl (by rw [e47]; exact add_one _ _ _ _ at_ AT1.out)) (hK _ _ rfl (ay _ _) fun _ _ _ _ _ _ _ h=>h)
  ·cases ho;have e46:a.eval (aJ 46)=O so sn sc:=seen.at_ ⟨7,.data⟩ (by simp) rfl (aM (by decide));have e48:a.eval (aJ 48)=aj ak ((at_:Int)+1):=seen.at_ ⟨9,.data⟩ (by simp) rfl (aM (by decide));exact aY rfl rfl (Rg.lJ a.eval _ 27 (aJ 46) (U (aJ 48)) Z Z rfl (by show (bR 27 (a.eval (aJ 46)) (U (a.eval (aJ 48))) Z Z).run aK x=.ok hiv x; rw [e46,e48]; exact SH.out x)) (hK _ _ rfl (ay _ _) fun _ _ _ _ _ _ _ h=>h)
  ·cases ho;have o44:jH x W.heap.size (a.eval (aJ 44)) (lt):=seen.at_ ⟨5,.data⟩ (by simp) rfl (bG rfl);have e49:a.eval (aJ 49)=hiv:=seen.at_ ⟨10,.data⟩ (by simp) rfl (aM (by decide));have ox:mh x (a.eval (aJ 49)) ld:=by rw [e49]; exact RH.out.on hb
   obtain⟨v',x',r,o',gr⟩:=gZ mM W.heap.size o44 ox (by have:=Wz.out; omega) LD.out hb.size 27;exact aY rfl rfl (Rg.gQ a.eval _ (aJ 44) (aJ 49) 27 rfl rfl rfl r) (hK v' x' o' ((ay _ x).grown gr hb.size fun j hj=>(o44.lt j hj).1) fun j u hj dj nl nx ni h=>by
    rcases (by omega:j=0\/j=1\/j=2\/j=3\/j=4\/j=5\/j=6\/j=7\/j=8\/j=9\/j=10\/j=11\/j=12) with rfl|rfl|rfl|rfl|rfl|rfl|rfl|rfl|rfl|rfl|rfl|rfl|rfl
    ·exact absurd rfl (fun _:(0:Nat)=0=>nl (hD ⟨5,.data⟩ (by simp) rfl))
    ·exact h
    ·exact h
    ·exact h
    ·exact h
    ·exact absurd rfl (fun _:(0:Nat)=0=>nx rfl)
    ·exact h
    ·exact h
    ·exact h
    ·exact h
    ·exact h
    ·exact absurd rfl (fun _:(0:Nat)=0=>ni rfl)
    ·exact h)
  ·cases ho;have e4:a.eval (aJ 4)=au (U ⟨b2,0,Z⟩):=seen.kp 4 _ (nd 4 (by omega)) rfl;exact aY rfl rfl (dn a.eval _ 30 (aJ 4) 4 rfl (by rw [e4]; simp [go_sem])) (hK _ _ rfl (ay _ _) fun _ _ _ _ _ _ _ h=>h)
 ·intro a w' df sz kp ⟨vs,hv⟩ hb;have gr:a.tmps[50]?=U (vs 11):=(hv 11 (by omega)).1;have gp:a.tmps[51]?=U (au (U ⟨b2,4,Z⟩)):=by
   have h:vs 12=au (U ⟨b2,4,Z⟩):=(hv 12 (by omega)).2 (by decide);rw [<- h];exact (hv 12 (by omega)).1
  have oR:jH w' W.heap.size (vs 11) (lt++ld):=(hv 11 (by omega)).2 (by decide);generalize vs 11=xR at *;obtain⟨ca,cp,eR⟩:=(Row.dJ oR).len;have hbx:=H2.out.on hb;have hblt:=H2.out.lt;have c5:=hbx.cell 4;have f5:=hbx.fr 4;simp only [aC,aF,aG] at c5;have hb1:=eu (k:=4) hbx xR;show Rg.fZ _ _ _ 1 13 a w';simp only [Rg.fZ];refine Rg.gu 27 (aJ 51) (aJ 50) rfl rfl rfl rfl (bZ gp) (bZ gr) (w':=w'.setCell ⟨b2,4,Z⟩ xR) (by rw [eR]; simp [go_sem,c5,f5]) ?_;have rJ:∀ j,(j<39\/52<=j)->a.tmps[j]?=(a0::a3::a4::a5::au (U ⟨b2,0,Z⟩)::au (U ⟨b3,0,Z⟩)::a6::a7::a8::aE::b9::aj ak (at_:Int)::bJ::bQ::c7::c8::c9::cA::cC::cD::cF::cG::cH::cI::cJ::cL::cM::cN::cP::cQ::cR::cS::cT::cU::cV::cW::cX::cY::d1::i7::i8::i9::iF::iS::j0::j2::j3::j4::j5::j6::j7::j8::d3::d4::d5::d7::d9::dA::dC::dE::dS::dT::e7::e9::eA::eB::eC::eE::eI::eJ::eK::eL::eM::eN::eQ::eS::eV::eW::f0::f7::f8::f9::fL::fN::fP::fR::fS::fW::fX::fY::g0::g6::g9::gE::gO::gR::gS::hC::hG::hH::hJ::hL::hM::hO::[])[j]?:=fun j hj=>(kp j (nd j hj)).trans aC;obtain⟨mid,hmid,rfl⟩:=Rg.gM 39 13 df sz (by simp) rJ
  match mid,hmid with
  | [hS,hT,hU,hW,hX,hY,hZ,i0,i3,i4,i5,T,i6],_ =>
   have e1:U T=U xR:=gr;obtain rfl:=aT e1;refine HQ.out _ hS hT hU hW hX hY hZ i0 i3 i4 i5 T i6 ?_ ?_ ?_ ?_ ?_
   ·simpa using hb1
   ·exact eZ oR b2 4 _ hblt
   ·exact fun B hB=>(hb.mono (cu (Nat.lt_of_le_of_lt hB hblt))).setCell hB _
   ·intro c cs t hc hbc;exact (aL _ _ _ _ hc).trans (hbc.on hb)
   ·intro k hk hne;exact (aL _ _ _ _ hne).trans (hb.block k hk)
end Bk
namespace Rg
open Go.RowKit Rw
structure adJ (i N A S:Nat) (d last:Nat->Nat) (V:Nat->aA->ah->Prop) (base:cZ) (o:Oper) (a:cZ) (x:ah):Prop where
 kp:∀ j u,(∀ i,i<N->d i≠j)->base.tmps[j]?=U u->a.eval (aJ j)=u
 at_:∀ e∈o.after,aN .any e=aW->e.on≠A->e.on≠S->(last e.on=i\/N<=last e.on)->V e.on (a.eval (aJ (d e.on))) x
structure InX (l:List Oper) (N A S C:Nat) (d last:Nat->Nat) (V:Nat->aA->ah->Prop) (t:aV) (zero:Array aA) (VJ:aA->Array aA) (base:cZ) (W:ah) (L:Array Bool) (a:cZ) (x:ah):Prop where
 cl:∀ i o,done L i->l[i]?=U o->∀ e∈o.after,aN .any e=aW->done L e.on
 no:∀ i,N<=i->¬ done L i
 df:a.defers=base.defers
 sz:a.tmps.size=base.tmps.size
 kp:∀ j,(∀ i,i<N->d i≠j)->a.tmps[j]?=base.tmps[j]?
 wM:bg W.heap.size W x
 val:∃ vs:Nat->aA,∀ i,i<N->i≠S->done L i->a.tmps[d i]?=U (vs i)/\(i≠A->¬ done L (last i)->V i (vs i) x)
 box:done L A->¬ done L S->∃ bb,a.tmps[d A]?=U (au (U ⟨bb,0,Z⟩))/\W.heap.size<=bb/\dK x bb zero t
 fin:done L S->∃ bb v,a.tmps[d A]?=U (au (U ⟨bb,0,Z⟩))/\a.tmps[d C]?=U v/\W.heap.size<=bb/\dK x bb (VJ v) t/\V C v x
theorem vZ {P:Program} {Q:Exit->cZ->ah->Prop} {id:Nat} {base:cZ} {W:ah} {l:List Oper} (N A S C:Nat) (d last:Nat->Nat) (V:Nat->aA->ah->Prop) (t:aV) (zero:Array aA) (VJ:aA->Array aA)
  (hm:P.follows .mixedOrders=aW) (hf:JO l.toArray=aW) (hN:l.length=N) (hA:A<N) (hS:S<N) (hC:C<N) (hAS:A≠S) (hCS:C≠S) (hAC:A≠C) (hlC:N<=last C)
  (hinj:∀ i j,i<N->j<N->i≠S->j≠S->d i=d j->i=j) (hs:∀ i,i<N->d i<base.tmps.size)
  (hV:∀ i v x x',i<N->V i v x->bg x.heap.size x x'->V i v x')
  (hw:∀ o,l[S]?=U o->(∃ e∈o.after,aN .any e=aW/\e.on=A)/\∃ e∈o.after,aN .any e=aW/\e.on=C)
  (hop:∀ i o,i<N->i≠A->i≠S->l[i]?=U o->∀ a x,bg W.heap.size W x->adJ i N A S d last V base o a x->∀ K:cZ->ah->Prop,(∀ v x',V i v x'->bg x.heap.size x x'->K (a.put (U (d i)) v) x')->wpOp P l.toArray Q i K a x)
  (hoA:∀ o,l[A]?=U o->∀ a x,∀ K:cZ->ah->Prop,K (a.put (U (d A)) (au (U ⟨x.heap.size,0,Z⟩))) (x.alloc (aP zero t))->wpOp P l.toArray Q A K a x)
  (hoS:∀ o,l[S]?=U o->∀ a x bb v (D:Nat->Prop),(∀ j oj,D j->l[j]?=U oj->∀ e∈oj.after,aN .any e=aW->D e.on)->(∀ e∈o.after,aN .any e=aW->D e.on)->bg W.heap.size W x->a.eval (aJ (d A))=au (U ⟨bb,0,Z⟩)->a.eval (aJ (d C))=v->V C v x->W.heap.size<=bb->dK x bb zero t->∀ K:cZ->ah->Prop,(∀ x',bg W.heap.size W x'->dK x' bb (VJ v) t->(∀ j u,j<N->j≠A->j≠S->D j->¬ D (last j)->last j≠S->V j u x->V j u x')->K a x')->wpOp P l.toArray Q S K a x)
  (hend:∀ a x bb v,a.defers=base.defers->a.tmps.size=base.tmps.size->(∀ j,(∀ i,i<N->d i≠j)->a.tmps[j]?=base.tmps[j]?)->a.tmps[d A]?=U (au (U ⟨bb,0,Z⟩))->a.tmps[d C]?=U v->W.heap.size<=bb->dK x bb (VJ v) t->V C v x->bg W.heap.size W x->(∃ vs:Nat->aA,∀ i,i<N->i≠S->i≠A->a.tmps[d i]?=U (vs i)/\(N<=last i->V i (vs i) x))->Q .normal a x):(Code.region id l.toArray aW).wp P Q base W:=by
 refine nU (fun L a x=>InX l N A S C d last V t zero VJ base W L a x) hm hf ?_ ?_ ?_
 ·exact⟨fun i o h=>absurd h (gF _ _),fun i _=>gF _ _,rfl,rfl,fun _ _=>rfl,(ay _ _).drew,⟨fun _=>.bool aW,fun i _ _ h=>absurd h (gF _ _)⟩,fun h=>absurd h (gF _ _),fun h=>absurd h (gF _ _)⟩
 ·intro L a x i o hsz I ho hnd mP;have hi:i<l.length:=(aH.1 ho).1;have hiN:i<N:=by omega
  have yY:i<L.size:=by omega
  obtain⟨vs,hvs⟩:=I.val;have hon:∀ e∈o.after,aN .any e=aW->e.on<i:=fun e he hb=>by
   have h7:=List.all_eq_true.1 hf i (List.mem_range.2 (by simpa using hi));have ho':(l.toArray)[i]?=U o:=by simpa using ho
   rw [ho'] at h7;have h8:=Array.all_eq_true'.1 h7 e he;rw [hb] at h8;simpa using h8
  have dd:∀ {k},k≠i->done (L.setIfInBounds i aW) k->done L k:=fun {k} h h5=>((iw yY k).1 h5).resolve_left h;have du:∀ {k},done L k->done (L.setIfInBounds i aW) k:=fun {k} h=>(iw yY k).2 (aM h);have cl':∀ k q,done (L.setIfInBounds i aW) k->l[k]?=U q->∀ e∈q.after,aN .any e=aW->done (L.setIfInBounds i aW) e.on:=fun k q hk hq e he hb=>by
   by_cases e2:k=i
   ·subst e2;rw [hq] at ho;cases ho;exact du (mP e he hb)
   ·exact du (I.cl k q (dd e2 hk) hq e he hb)
  have no':∀ k,N<=k->¬ done (L.setIfInBounds i aW) k:=fun k hk h=>I.no k hk (dd (by omega) h);have seen:adJ i N A S d last V base o a x:=⟨fun j u hj hu=>dP (by rw [I.kp j hj]; exact hu),fun e he hb hA' hS' hl=>by
   obtain⟨h1,h2⟩:=hvs e.on (by have:=hon e he hb; omega) hS' (mP e he hb);rw [dP h1];refine h2 hA' ?_;rcases hl with hl|hl
   ·rw [hl]; exact hnd
   ·exact I.no _ hl⟩
  have ajP:i≠S->∀ v x',bg x.heap.size x x'->(i≠A->V i v x')->(i=A->∃ bb,v=au (U ⟨bb,0,Z⟩)/\W.heap.size<=bb/\dK x' bb zero t)->InX l N A S C d last V t zero VJ base W (L.setIfInBounds i aW) (a.put (U (d i)) v) x':=by
   intro Bl v x' hb hpv hpa;have self:(a.put (U (d i)) v).tmps[d i]?=U v:=by
    have h5:d i<a.tmps.size:=by rw [I.sz]; exact hs i hiN
    simp [Act.put,h5]
   have keep:∀ k,k<N->k≠S->k≠i->(a.put (U (d i)) v).tmps[d k]?=a.tmps[d k]?:=fun k hk Fb hki=>get_put _ _ _ _ (fun e=>hki (hinj _ _ hk hiN Fb Bl e));refine⟨cl',no',I.df,by rw [size_put]; exact I.sz,fun j hj=>?_,I.wM.trans (hb.mono I.wM.size),⟨fun k=>if k=i then v else vs k,fun k hk Fb hdn=>?_⟩,fun h1 h2=>?_,fun h1=>?_⟩
   ·rw [get_put _ _ _ _ (fun e=>hj i hiN e.symm)];exact I.kp j hj
   ·by_cases e:k=i
    ·subst e;simp only [if_true];exact⟨self,fun h3 _=>hpv h3⟩
    ·simp only [if_neg e];obtain⟨h3,h4⟩:=hvs k hk Fb (dd e hdn);exact⟨by rw [keep k hk Fb e]; exact h3,fun h5 h6=>hV k _ _ _ hk (h4 h5 (fun h=>h6 (du h))) hb⟩
   ·by_cases e:A=i
    ·subst e;obtain⟨bb,rfl,h4,h5⟩:=hpa rfl;exact⟨bb,self,h4,h5⟩
    ·obtain⟨bb,h3,h4,h5⟩:=I.box (dd e h1) (fun h=>h2 (du h));exact⟨bb,by rw [keep A hA hAS e]; exact h3,h4,h5.on hb⟩
   ·have h2:=dd (Ne.symm Bl) h1;obtain⟨bb,u,h5,h6,h7,h8,h9⟩:=I.fin h2;obtain⟨oS,Km⟩:∃ oS,l[S]?=U oS:=⟨_,aI (by omega)⟩;obtain⟨⟨ea,k1,k2,k3⟩,ec,k4,k5,k6⟩:=hw oS Km;have dA:=I.cl S oS h2 Km ea k1 k2;have dC:=I.cl S oS h2 Km ec k4 k5;rw [k3] at dA;rw [k6] at dC;have eA:A≠i:=fun e=>hnd (e ▸ dA);have eC:C≠i:=fun e=>hnd (e ▸ dC);exact⟨bb,u,by rw [keep A hA hAS eA]; exact h5,by rw [keep C hC hCS eC]; exact h6,h7,h8.on hb,hV C _ _ _ hC h9 hb⟩
  by_cases Bl:i=S
  ·subst Bl;obtain⟨⟨ea,h1,h2,h3⟩,ec,h4,h5,h6⟩:=hw o ho;have dA:=mP ea h1 h2;have dC:=mP ec h4 h5;rw [h3] at dA;rw [h6] at dC;obtain⟨T,a0⟩:=hvs C hC hCS dC;obtain⟨bb,b1,b2,b3⟩:=I.box dA hnd;have vC:=a0 (Ne.symm hAC) (I.no _ hlC);refine hoS o ho a x bb (vs C) (done L) I.cl mP I.wM (dP b1) (dP T) vC b2 b3 _ (fun x' q1 q2 q3=>⟨cl',no',I.df,I.sz,I.kp,q1,⟨vs,fun k hk Fb hdn=>?_⟩,fun _ hn=>absurd ((iw yY _).2 (bG rfl)) hn,fun _=>⟨bb,vs C,b1,T,b2,q2,?_⟩⟩)
   ·obtain⟨w1,w2⟩:=hvs k hk Fb (dd Fb hdn);refine⟨w1,fun hkA hnl=>?_⟩;have n1:last k≠i:=fun e=>hnl ((iw yY _).2 (bG e));have n2:¬ done L (last k):=fun e=>hnl (du e);exact q3 k _ hk hkA Fb (dd Fb hdn) n2 n1 (w2 hkA n2)
   ·exact q3 C _ hC (Ne.symm hAC) hCS dC (I.no _ hlC) (by omega) vC
  ·by_cases hiA:i=A
   ·subst hiA;refine hoA o ho a x _ (ajP Bl _ _ ((ay _ _).alloc (bM _) _) (fun h=>absurd rfl h) (fun _=>⟨x.heap.size,rfl,I.wM.size,dQ x zero t⟩))
   ·refine hop i o hiN hiA Bl ho a x I.wM seen _ (fun v x' q1 q2=>ajP Bl v x' q2 (fun _=>q1) (fun e=>absurd e hiA))
 ·intro L a x I hd;have dS:=hd S (by omega);obtain⟨bb,v,h1,h2,h3,h4,h5⟩:=I.fin dS;obtain⟨vs,hvs⟩:=I.val;exact hend a x bb v I.df I.sz I.kp h1 h2 h3 h4 h5 I.wM ⟨vs,fun i hi Bl hiA=>by
   obtain⟨k1,k2⟩:=hvs i hi Bl (hd i (by omega));exact⟨k1,fun hl=>k2 hiA (I.no _ hl)⟩⟩
end Rg
end Go.Proofs.YtghlpefopidlaaaGreat
