/-
  inEntries of package. Conditions as told.
-/
import Derived.Test.YtmklifheakemeaaOQ005
import Derived.Test.YtmklifheakemeaaOQ026
import Derived.Test.YtmklifheakemeaaOQ020
import Derived.Test.YtmklifheakemeaaOQ015
set_option maxRecDepth 100000
set_option maxHeartbeats 64000000
open _root_.Bool renaming false->aj,and_eq_true->aC,true->aI
open _root_.Go renaming World->ak,Value->aB,Calls->aK
open Go.Builtin renaming copy_->ay,append_->aG
open Go.Instr renaming sliceAt->Z
open Go.IntKind renaming i64->V,wrap_i64->aD
open Go.Lib renaming hid->ah
open Go.Obj renaming cells->K
open Go.Proofs.Try renaming prog->O,ntmps31->aF,func31->aH
open Go.Value renaming slice->D,int->U,bool->aA
open _root_.Nat renaming le_refl->au,lt_or_ge->aJ
open _root_.Option renaming none->J,some->L
namespace Go.Proofs.Ytmklifheakemeaa
namespace Av
open Go.RowKit Go.Sort Rw Ytmklifheakemeaa.Nm Pr Bk
end Av
namespace Pr
open Go.RowKit Pu Rw Va Kp
def BM (c:Cn):Prop:=c.1.size<=100/\(kT c.2).size<=100/\(-9223372036854775808<=ko c.2/\ko c.2<=9223372036854775807)/\(-9223372036854775808<=kr c.2/\kr c.2<=9223372036854775807)
structure NF (l:List Cn):Prop where
 rise:qL l
 five:l.length<=5
 good:∀ c∈l,qJ c=aI
 small:∀ c∈l,BM c
theorem NF.fU {l:List Cn} (h:NF l):∀ c∈l,Pr.fU c.2=aI:=fun c hc=>by
 have:=h.good c hc;simp only [qJ,aC] at this;exact this.2
theorem BO (i:Nat) (h:i<7):tX (nm i)=aI:=by
 match i,h with
 | 0,_=>decide
 | 1,_=>decide
 | 2,_=>decide
 | 3,_=>decide
 | 4,_=>decide
 | 5,_=>decide
 | 6,_=>decide
theorem FI (i:Nat):(nm i).size=1:=rfl
theorem BP (n:Int):(kT (kM n)).size<=100/\(-9223372036854775808<=ko (kM n)/\ko (kM n)<=9223372036854775807)/\(-9223372036854775808<=kr (kM n)/\kr (kM n)<=9223372036854775807):=by
 have h1:=Wi.iG (n.tdiv 4) 0 9 (by omega);have h2:=Wi.iG (n.tdiv 40) 0 9 (by omega);have ht:(J9 n).size<=3:=uo _;unfold kM Oh
 split
 ·refine⟨by show (0:Nat)<=100; omega,?_,?_⟩ <;> simp only [ko,kr] <;> omega
 ·split
  ·refine⟨by show (J9 n).size<=100; omega,?_,?_⟩ <;> simp only [ko,kr] <;> omega
  ·refine⟨by show (J9 n).size<=100; omega,?_,?_⟩ <;> simp only [ko,kr] <;> omega
theorem nN (has vals:List Int):∀ k,∀ x∈jB has vals k,BM x
 | 0,x,h=>by simp [jB] at h
 | k+1,x,h=>by
  simp only [jB] at h
  split at h
  ·rcases List.mem_append.1 h with h|h
   ·exact nN has vals k x h
   ·simp at h;rw [h];exact⟨by show (nm k).size<=100; rw [FI]; omega,BP _⟩
  ·exact nN has vals k x h
theorem BS (has vals:List Int):NF (jB has vals 7) :=
 ⟨uP has vals 7 (au _),uO has vals 7,fun c hc=>by
  obtain⟨i,h1,h2⟩:=lF has vals 7 c hc;simp only [qJ,aC];exact⟨by rw [h2]; exact BO i h1,pU has vals 7 c hc⟩,nN has vals 7⟩
theorem Jo {a b:Cn} (h:r5 a=r5 b):a=b:=by
 obtain⟨n,a⟩:=a;obtain⟨m,b⟩:=b;simp only [r5,Prod.mk.injEq] at h;obtain⟨rfl,h1,h2,h3,h4⟩:=h;cases a <;> cases b <;> simp [kN,ko,kr,kT] at h1 h2 h3 h4 <;> simp [*]
end Pr
namespace Bk
open Go.RowKit Rw Ytmklifheakemeaa.Nm Pr Rl
def Kc (c:C5):Cn:=(c.1,if c.2.1=1 then .rg c.2.2.1 c.2.2.2.1 else if c.2.1=2 then .tx c.2.2.2.2 else .pr c.2.2.2.2)
theorem Jp (c:Cn):Kc (r5 c)=c:=by
 obtain⟨n,k⟩:=c;cases k <;> simp [Kc,r5,kN,ko,kr,kT]
theorem xU (a:List Cn):(a.map r5).map Kc=a:=by
 rw [List.map_map];have h:Kc∘r5=id:=funext Jp;rw [h,List.map_id]
def eH (p:List C5):Prop:=∃ a:List Cn,NF a/\p=a.map r5
def ji (p q:List C5):Bool:=jA (p.map Kc) (q.map Kc)
def BU (t:Id) (p:List C5) (e:En):Bool:=decide (e.tree=t) && (e.up && ji e.p p)
def dR (m:List En) (t:Id) (p:List C5):Bool:=m.any (BU t p)
end Bk
namespace Bk
open Go.RowKit Go.Sort Rw Ytmklifheakemeaa.Nm Pr
def gJ (a b:Id×Id):Bool:=dP a.1 b.1 || (NK a.1 b.1 && dP a.2 b.2)
def dK (l:List (Id×Id)) (x:Id×Id):Nat:=(l.takeWhile fun a=>gJ a x).length
abbrev dH (e:En):Id×Id:=(e.tree,e.sub)
def dL (b:Br) (e:En):Br×Bool:=match b.fB[(fC (b.fB.map Ad.id) e.tree).toNat]? with
 | none=>(b,aj)
 | some a=>if fC (b.fB.map Ad.id) e.tree=-1 then (b,aj) else if gD (b.ent.map dH) (dH e)≠-1 then (b,aj) else if e.from_≠-1/\e.from_=a.par then (b,aj) else
  ({ b with ent:=fF b.ent (dK (b.ent.map dH) (dH e)) { e with up:=decide (a.par≠-1) && !dR b.ent e.tree e.p } },decide (a.par≠-1) && !dR b.ent e.tree e.p)
end Bk
namespace Bk
open Go.RowKit Go.Sort Rw Ytmklifheakemeaa.Nm Pr
open Av
def xV (e:En):En:={ e with up:=aI }
def kP (t:Id) (s:List En×List En) (k:Nat):List En×List En:=match s.1[k]? with
 | none=>s
 | some e=>if e.tree=t/\e.up=aj/\dR s.1 t e.p=aj then (s.1.set k (xV e),s.2++[xV e]) else s
def l6 (t:Id) (m:List En) (k:Nat):List En×List En:=(List.range k).foldl (kP t) (m,[])
def takeB (b:Br) (t s:Id) (f:Int):Br×List En×Bool:=match b.ent[(gD (b.ent.map dH) (t,s)).toNat]? with
 | none=>(b,[],aj)
 | some e=>if gD (b.ent.map dH) (t,s)=-1 then (b,[],aj) else if e.from_≠f then (b,[],aj) else
  if e.up=aj then ({ b with ent:=cutAt b.ent (gD (b.ent.map dH) (t,s)).toNat },[],aj) else
  ({ b with ent:=(l6 t (cutAt b.ent (gD (b.ent.map dH) (t,s)).toNat) (cutAt b.ent (gD (b.ent.map dH) (t,s)).toNat).length).1 },(l6 t (cutAt b.ent (gD (b.ent.map dH) (t,s)).toNat) (cutAt b.ent (gD (b.ent.map dH) (t,s)).toNat).length).2,aI)
theorem mE (t:Id) (m:List En) (k:Nat):l6 t m (k+1)=kP t (l6 t m k) k:=by
 simp [l6,List.range_succ]
theorem uQ:∀ (l:List fE) (k:Nat) (x:fE),l[k]?=L x->flat EN (l.set k (x.1,x.2.1,x.2.2.1,x.2.2.2.1,x.2.2.2.2.1,x.2.2.2.2.2.1,aI))=(flat EN l).set (k * 7+6) (aA aI)
 | [],k,x,h=>by simp at h
 | y::r,0,x,h=>by
  obtain rfl:y=x:=by simpa using h
  rfl
 | y::r,k+1,x,h=>by
  have ih:=uQ r k x (by simpa using h);rw [show (k+1) * 7+6=(k * 7+6)+1+1+1+1+1+1+1 by omega];simp only [List.set_cons_succ,flat,EN,eY,List.cons_append,List.nil_append] at ih ⊢;rw [ih]
theorem FJ {w:ak} {B g n cap k:Nat} {l:List fE} {x:fE} (h:gF w B (D (L ⟨g,0,J⟩) n cap) l) (hk:l[k]?=L x) :
  gF (w.setCell ⟨g,k * 7+6,J⟩ (aA aI)) B (D (L ⟨g,0,J⟩) n cap) (l.set k (x.1,x.2.1,x.2.2.1,x.2.2.2.1,x.2.2.2.2.1,x.2.2.2.2.2.1,aI))/\w.cell? ⟨g,k * 7+6,J⟩=L (aA x.2.2.2.2.2.2)/\w.frozen? ⟨g,k * 7+6,J⟩=aj:=by
 have c:=gM iO h hk w (Below.refl _ _);have c6:=c 6 _ rfl;simp [Addr.add,EN] at c6;obtain⟨cur,hb⟩:=fP h;obtain⟨ao,c',hv⟩:=(Row.dG h).len;obtain⟨_,rfl,_⟩:L ⟨g,0,J⟩=ao/\n=l.length/\cap=c':=by simpa using hv
 have h:w.ownsRow B 43 7 (D (L ⟨g,0,J⟩) l.length cap) l.length (flat EN l):=h;have t1:=(h.stored (k * 7+6) (aA aI)).1;refine⟨?_,c6,hb.fr _⟩;have e:=uQ l k x hk;show World.ownsRow _ B 43 7 _ (List.length _) (flat EN _);rw [e,List.length_set];exact t1
theorem dV.set2 {α β:Type} {R:α->β->Prop}:∀ {l:List α} {m:List β} (k:Nat) {a:α} {b:β},dV R l m->R a b->dV R (l.set k a) (m.set k b)
 | _,_,_,_,_,.nil,_=>.nil
 | _,_,0,_,_,.cons _ t,hr=>.cons hr t
 | _,_,k+1,_,_,.cons x t,hr=>.cons x (dV.set2 k t hr)
theorem uR (w:ak) (c d e f:Array aB) (r s t u:TypeId):Below w.heap.size w ((((w.alloc (K c r)).alloc (K d s)).alloc (K e t)).alloc (K f u))/\dz ((((w.alloc (K c r)).alloc (K d s)).alloc (K e t)).alloc (K f u)) w.heap.size c r/\dz ((((w.alloc (K c r)).alloc (K d s)).alloc (K e t)).alloc (K f u)) (w.heap.size+1) d s/\dz ((((w.alloc (K c r)).alloc (K d s)).alloc (K e t)).alloc (K f u)) (w.heap.size+1+1) e t/\dz ((((w.alloc (K c r)).alloc (K d s)).alloc (K e t)).alloc (K f u)) (w.heap.size+1+1+1) f u:=by
 obtain⟨h0,h1,h2,h3⟩:=lC w c d e r s t;refine⟨h0.alloc h0.size _,h1.more _,h2.more _,h3.more _,?_⟩;have h:=dI (((w.alloc (K c r)).alloc (K d s)).alloc (K e t)) f u;have e2:(((w.alloc (K c r)).alloc (K d s)).alloc (K e t)).heap.size=w.heap.size+1+1+1:=by simp
 rw [e2] at h;exact h
end Bk
namespace Sb
open Go.RowKit Go.Sort Rw Ytmklifheakemeaa.Nm Pr Bk Av
abbrev uS (W:ak) (b:Nat) (a0 a1 a2 a3 a4 a5 a6:aB):ak:=((((((W.setCell ⟨b,0,J⟩ a0).setCell ⟨b,1,J⟩ a1).setCell ⟨b,2,J⟩ a2).setCell ⟨b,3,J⟩ a3).setCell ⟨b,4,J⟩ a4).setCell ⟨b,5,J⟩ a5).setCell ⟨b,6,J⟩ a6
theorem kQ {W:ak} {b:Nat} {t:TypeId} {z0 z1 z2 z3 z4 z5 z6:aB} (h:dz W b #[z0,z1,z2,z3,z4,z5,z6] t) (a0 a1 a2 a3 a4 a5 a6:aB):dz (uS W b a0 a1 a2 a3 a4 a5 a6) b #[a0,a1,a2,a3,a4,a5,a6] t:=by
 have h2:=dX (k:=6) (dX (k:=5) (dX (k:=4) (dX (k:=3) (dX (k:=2) (dX (k:=1) (dX (k:=0) h a0) a1) a2) a3) a4) a5) a6;simpa using h2
theorem jq {B:Nat} {W0 W:ak} {b:Nat} (h:Below B W0 W) (hb:B<=b) (a0 a1 a2 a3 a4 a5 a6:aB):Below B W0 (uS W b a0 a1 a2 a3 a4 a5 a6):=(((((((h).setCell (p:=⟨b,0,J⟩) hb a0).setCell (p:=⟨b,1,J⟩) hb a1).setCell (p:=⟨b,2,J⟩) hb a2).setCell (p:=⟨b,3,J⟩) hb a3).setCell (p:=⟨b,4,J⟩) hb a4).setCell (p:=⟨b,5,J⟩) hb a5).setCell (p:=⟨b,6,J⟩) hb a6
theorem uT {α:Type} {E:Ek α} {W:ak} {B:Nat} {v:aB} {l:List α} (h:Own E W B v l) (b:Nat) (hb:b<B) (a0 a1 a2 a3 a4 a5 a6:aB):Own E (uS W b a0 a1 a2 a3 a4 a5 a6) B v l :=
 dQ (dQ (dQ (dQ (dQ (dQ (dQ (h) b 0 a0 hb) b 1 a1 hb) b 2 a2 hb) b 3 a3 hb) b 4 a4 hb) b 5 a5 hb) b 6 a6 hb
theorem uU (w:ak) (b:Nat) (a0 a1 a2 a3 a4 a5 a6:aB):But b w (uS w b a0 a1 a2 a3 a4 a5 a6) :=
 ((((((dN _ b _ _).trans (dN _ b _ _)).trans (dN _ b _ _)).trans (dN _ b _ _)).trans (dN _ b _ _)).trans (dN _ b _ _)).trans (dN _ b _ _)
theorem ng (x:fE) (p:List C5) (w:ak) (hp:ig w (dO x.2.2.2.2.1) p) (hl:p.length<=900) :
  aK O 30 #[iY x] w fun e w'=>(∃ v':Sl,e=.returned (iY (x.1,x.2.1,x.2.2.1,x.2.2.2.1,v',x.2.2.2.2.2.1,x.2.2.2.2.2.2))/\kE w' w.heap.size (dO v') p)/\Below w.heap.size w w':=by
 obtain⟨y1,y2,y3,y4,⟨s1,s2,s3⟩,y6,y7⟩:=x;obtain⟨h0,X,Y⟩:=iC w #[U V y1,U V y2,U V y3,U V y4,D s1 s2 s3,U V y6,aA y7] #[U V 0,U V 0,U V 0,U V 0,D J 0 0,U V 0,aA aj] 43 43;have C:=ah (jT (s1,s2,s3) p _ (hp.on h0) hl);have B:=ah h0;have x4:=X.cell 4;simp only [List.getElem?_toArray,List.getElem?_cons_zero,List.getElem?_cons_succ] at x4;have X:=ah X;have Y:=ah Y;clear h0 hp hl;go_enter Try.func30,Try.ntmps30;go_wp2_with fail;generalize (w.alloc (K #[U V y1,U V y2,U V y3,U V y4,D s1 s2 s3,U V y6,aA y7] 43)).alloc (K #[U V 0,U V 0,U V 0,U V 0,D J 0 0,U V 0,aA aj] 43)=W at *;refine C.out.mono ?_;rintro e w1 ⟨⟨⟨u1,u2,u3⟩,rfl,ho⟩,hb⟩;have X1:=X.out.on hb;have Y1:=Y.out.on hb;have hs:w.heap.size<W.heap.size:=X.out.lt;have O1:=ah (dQ ho w.heap.size 4 (D u1 u2 u3) hs);have XB:=ah (show dz _ _ #[U V y1,U V y2,U V y3,U V y4,D u1 u2 u3,U V y6,aA y7] _ from by simpa using dX (k:=4) X1 (D u1 u2 u3));have YB:=ah (show dz _ _ _ _ from (RowKit.Below.heap_setCell w1 ⟨w.heap.size,4,J⟩ (D u1 u2 u3) _ (show w.heap.size+1≠w.heap.size by omega)).trans Y1);have B1:=ah ((B.out.trans (hb.mono B.out.size)).setCell (p:=⟨w.heap.size,4,J⟩) (au _) (D u1 u2 u3));have Qf:=X1.cell 4;have f4:=X1.fr 4;have z4:=X1.lt;simp only [List.getElem?_toArray,List.getElem?_cons_zero,List.getElem?_cons_succ] at Qf;clear X1 Y1 ho hb x4 C;go_upto_region 2 with fail;clear Qf f4 z4;generalize w1.setCell ⟨w.heap.size,4,J⟩ (D u1 u2 u3)=w2 at *;obtain⟨x0,x1,x2,x3,x4,x5,x6⟩:=XB.out.qx;obtain⟨r0,r1,r2,r3,r4,r5,r6⟩:=YB.out.qx;obtain⟨t0,t1,t2,t3,t4,t5,t6⟩:=YB.out.Ko;have zz:=YB.out.lt;have hs2:w.heap.size+1<W.heap.size:=Y.out.lt;have FB:=ah (kQ YB.out (U V y1) (U V y2) (U V y3) (U V y4) (D u1 u2 u3) (U V y6) (aA y7));have BL:=ah (jq (b:=w.heap.size+1) B1.out (by omega) (U V y1) (U V y2) (U V y3) (U V y4) (D u1 u2 u3) (U V y6) (aA y7));have FO:=ah (uT O1.out (w.heap.size+1) hs2 (U V y1) (U V y2) (U V y3) (U V y4) (D u1 u2 u3) (U V y6) (aA y7));have HS:=ah hs;clear hs hs2;go_wp2_with fail;obtain⟨v0,v1,v2,v3,v4,v5,v6⟩:=FB.out.qx;refine bodyPost_ret (v:=.agg #[U V y1,U V y2,U V y3,U V y4,D u1 u2 u3,U V y6,aA y7]) (by simp [results,Try.results30,go_sem,v0,v1,v2,v3,v4,v5,v6]) rfl ?_;exact⟨⟨(u1,u2,u3),rfl,dF FO.out (Nat.le_of_lt HS.out)⟩,BL.out⟩
end Sb
namespace Av
open Go.RowKit Rw Ytmklifheakemeaa.Nm Pr Bk
theorem Ca {W:ak} {b:Nat} {c:fE} (h:dz W b (eY c).toArray 43):iZ W (D (L ⟨b,0,J⟩) 1 1) [c] :=
 Or.inr ⟨⟨b,0,J⟩,1,rfl,by simp,by decide,mJ h (by simp [EN])⟩
def pV (B:Nat) (l:List fE) (k:Nat) (c:fE) (vv:aB) (W:ak) (e:Ending) (w':ak):Prop:=∃ v',e=.returned v'/\gF w' B v' (l.take k++c::l.drop k)/\Below B W w'/\(∀ j,j<W.heap.size->L j≠vv.ownBlock->w'.heap[j]?=W.heap[j]?)
theorem uV (B:Nat) (v:aB) (l:List fE) (c:fE) (b:Nat) (W:ak) (ho:gF W B v l) (hx:dz W b (eY c).toArray 43) (hl:l.length<=900) (hB:B<=W.heap.size) :
  aK O 31 #[v,U V (l.length:Nat),D (L ⟨b,0,J⟩) 1 1] W (pV B l l.length c v W):=by
 obtain⟨v',w',hr,ho2,hg⟩:=jg iO B ho (Ca hx) (by omega) (by simp) hB 28;have hr:(aG #[28,28] 28 #[v,D (L ⟨b,0,J⟩) 1 1]).run O W=.ok v' w':=hr;have Q:=ah (show pV B l l.length c v W (.returned v') w' from ⟨v',rfl,by rw [List.take_of_length_le (au _),List.drop_of_length_le (au _)]; exact ho2,(Below.refl B W).grown hg hB (fun j hj=>(ho.lt j hj).1),fun j hj hne=>hg.block j hj hne⟩);obtain⟨sx,hs,_⟩:=sK iO (Row.dG ho) l.length (au _);have hs:∀ w,(Z 28 v (L (U V l.length)) J J).run O w=.ok sx w:=hs;obtain⟨ao,ac,rfl⟩:=(Row.dG ho).len;clear ho ho2 hg;generalize hn:l.length=n at *;clear hn;go_enter aH,aF;go_wp2_with (first | (at_builtin; refine wpList_append_run rfl _ _ 28 rfl rfl rfl hr ?_) | fail);go_ret;exact Q.out
theorem Cb (w:ak) (g b k la lb cb:Nat) (cur cs:Array aB) (hb:dz w b cs 43) (hg:dz w g cur 43) (hne:b≠g) (h0:0<cur.size):(callFunc 60 #[D (L ⟨b,0,J⟩) la 1,D (L ⟨g,k,J⟩) lb cb]).run O w=.ok (.value (aA aj)) w:=by
 rw [run_callFunc_extern Try.func60 (by kernel_rfl) (by kernel_rfl) (by kernel_rfl) (e:=Extern.SlicesOverlaps.overlaps #[28,28] #[4]) (by kernel_rfl),
  Lib.run_overlaps_apart w 28 4 43 Try.underlying28 7 Try.sizeOf43 ⟨b,0,J⟩ ⟨g,k,J⟩ la 1 lb cb hne 43 43 cs.size cur.size hb.shape hg.shape (by omega) (hb.fr 0) (hb.fr _)]
 rfl
theorem qE (B g n cap:Nat) (cur:Array aB) (l:List fE) (k:Nat) (c:fE) (b:Nat) (W:ak) (hn:n=l.length) (hBg:B<=g) (hg:dz W g cur 43) (hcm:cap<=maxLen) (hsz:cur.size=cap * 7) (ht:cur.toList.take (n * 7)=flat EN l) (hx:dz W b (eY c).toArray 43) (hne:b≠g) (hk:k<n) (hroom:n+1<=cap) (hl:n<=900) :
  aK O 31 #[D (L ⟨g,0,J⟩) n cap,U V k,D (L ⟨b,0,J⟩) 1 1] W (pV B l k c (D (L ⟨g,0,J⟩) n cap) W):=by
 obtain⟨R1,R2,r1,r2,ow⟩:=nD (E:=EN) (l:=l) (k:=k) (cap:=cap) (cur:=cur) (cs:=(eY c).toArray) (c:=c) iO (by omega) (by omega) hsz (by rw [<- hn]; exact ht) g b hne;have hov:=fun lb cb=>Cb W g b ((k+1) * 7) 1 lb cb cur (eY c).toArray hx hg hne (by omega);have s0:=gB (E:=EN) iO g k n cap (by omega) (by omega);have s1:=iU (E:=EN) iO ⟨g,0,J⟩ (n+1) n cap (by omega);have s2:=gB (E:=EN) iO g (k+1) (n+1) cap (by omega) (by omega);have s3:=gB (E:=EN) iO g k (n+1) cap (by omega) (by omega);have q1:=r1 W.drew 3 (n+1-(k+1)) (cap-(k+1)) (n+1-k) (cap-k) hg (by omega);have q2:=r2 (W.drew.setRow g R1) 3 (n+1-k) (cap-k) (dz.set (show dz W.drew g cur 43 from hg) R1) (dz.other (show dz W.drew b _ 43 from hx) hne R1) rfl (by omega);have Q:=ah (show pV B l k c (D (L ⟨g,0,J⟩) n cap) W (.returned (D (L ⟨g,0,J⟩) (n+1) cap)) ((W.drew.setRow g R1).setRow g R2) from ⟨_,rfl,by rw [hn]; exact ow _ B hBg hcm (dz.set (dz.set (show dz W.drew g cur 43 from hg) R1) R2),below_setRow (below_setRow (Below.refl B W).drew hBg _) hBg _,fun j hj hne=>(setRow_other _ g j _ (fun e=>hne (by rw [e]; rfl))).trans (setRow_other _ g j _ (fun e=>hne (by rw [e]; rfl)))⟩);clear r1 r2 ow hg ht hx hsz hBg hcm;change ∀ w,(Z 28 (D (L ⟨g,0,J⟩) n cap) (L (U V k)) J J).run O w=.ok (D (L ⟨g,k * 7,J⟩) (n-k) (cap-k)) w at s0;change ∀ w,(Z 28 (D (L ⟨g,0,J⟩) n cap) J (L (U V ((n:Int)+1))) J).run O w=.ok (D (L ⟨g,0,J⟩) (n+1) cap) w at s1;change ∀ w,(Z 28 (D (L ⟨g,0,J⟩) (n+1) cap) (L (U V ((k:Int)+1))) J J).run O w=.ok (D (L ⟨g,(k+1) * 7,J⟩) (n+1-(k+1)) (cap-(k+1))) w at s2;change ∀ w,(Z 28 (D (L ⟨g,0,J⟩) (n+1) cap) (L (U V k)) J J).run O w=.ok (D (L ⟨g,k * 7,J⟩) (n+1-k) (cap-k)) w at s3;have e1:((k:Int) == (n:Int))=aj:=by rw [beq_eq_false_iff_ne]; omega
 have e2:decide ((cap:Int)<(n:Int)+1)=aj:=by simp; omega
 change (ay #[28,28] 3 #[D (L ⟨g,(k+1) * 7,J⟩) (n+1-(k+1)) (cap-(k+1)),D (L ⟨g,k * 7,J⟩) (n+1-k) (cap-k)]).run O W.drew=.ok (U V ((l.length-k:Nat):Int)) (W.drew.setRow g R1) at q1;change (ay #[28,28] 3 #[D (L ⟨g,k * 7,J⟩) (n+1-k) (cap-k),D (L ⟨b,0,J⟩) 1 1]).run O (W.drew.setRow g R1)=.ok (U V 1) ((W.drew.setRow g R1).setRow g R2) at q2;clear hn;go_enter aH,aF;go_wp2_with (first | (simp only [hov]) | fail);clear hov s0 s1 s2 s3;have hw1:IntKind.i64.wrap ((k:Int)+1)=(k:Int)+1:=by rw [aD]; omega
 have hb1:(0:Int)<=(k:Int)+1:=by omega
 have hb0:(k:Int)+1<=(n:Int)+1:=by omega
 have htn:((k:Int)+1).toNat=k+1:=by omega
 have hb2:¬ (cap=k+1):=by omega
 have hb3:(k:Int)<=(n:Int)+1:=by omega
 have hb4:¬ (cap=k):=by omega
 have h81:n+1-(k+1)=n-k:=by omega
 rw [h81] at q1;clear h81
 go_region_law (refine gP rfl (.tmp 73) (.tmp 76) 28 rfl (v:=D (L ⟨g,(k+1) * 7,J⟩) (n-k) (cap-(k+1))) (xv:=D (L ⟨g,k * 7,J⟩) (n+1-k) (cap-k)) (by simp [Act.eval,Act.put]) (by simp [Act.eval,Act.put]) q1 ?_)
 all_goals simp only [Exit.then]
 all_goals apply_assumption
 clear q1 hw1 hb1 hb0 htn hb2 hb3 hb4;have s3:=gB (E:=EN) iO g k (n+1) cap (by omega) (by omega);change ∀ w,(Z 28 (D (L ⟨g,0,J⟩) (n+1) cap) (L (U V k)) J J).run O w=.ok (D (L ⟨g,k * 7,J⟩) (n+1-k) (cap-k)) w at s3;go_wp2_with (first | (at_builtin; refine wpList_copy_run rfl _ _ 28 rfl rfl rfl q2 ?_) | fail);go_ret;exact Q.out
theorem tK (B g n cap:Nat) (cur:Array aB) (l:List fE) (k:Nat) (c:fE) (b:Nat) (W:ak) (hn:n=l.length) (hg:dz W g cur 43) (hcm:cap<=maxLen) (hnc:n<=cap) (ht:cur.toList.take (n * 7)=flat EN l) (hx:dz W b (eY c).toArray 43) (hk:k<n) (hroom:cap<n+1) (hl:n<=900) (hB:B<=W.heap.size) :
  aK O 31 #[D (L ⟨g,0,J⟩) n cap,U V k,D (L ⟨b,0,J⟩) 1 1] W (pV B l k c (D (L ⟨g,0,J⟩) n cap) W):=by
 have hgw:=hg.lt;have hbw:=hx.lt;obtain⟨G,R1,R2,R3,hG1,hG2,r1,r2,r3,ow⟩:=oM (E:=EN) (l:=l) (k:=k) (cap:=cap) (cur:=cur) (cs:=(eY c).toArray) (c:=c) iO 3 Try.underlying3 (by omega) (by omega) (by omega) (by omega) (by rw [<- hn]; exact ht) W g b hg hbw;unfold maxLen at hcm hG2;have s0:=gB (E:=EN) iO g k n cap (by omega) (by omega);have s1:=iU (E:=EN) iO ⟨g,0,J⟩ k n cap (by omega);have s2:=gB (E:=EN) iO W.heap.size k (n+1) G (by omega) (by omega);have s3:=gB (E:=EN) iO W.heap.size (k+1) (n+1) G (by omega) (by omega);have a1:=r1 28;have n1:=dI W.drew R1 43;have bl:W.drew.heap.size=W.heap.size:=rfl;rw [bl] at n1;have g1:dz (W.drew.alloc (K R1 43)) g cur 43:=dz.more (show dz W.drew g cur 43 from hg) _;have x1:dz (W.drew.alloc (K R1 43)) b (eY c).toArray 43:=dz.more (show dz W.drew b _ 43 from hx) _;have q2:=r2 (W.drew.alloc (K R1 43)) 3 (n+1-k) (G-k) n1 x1 rfl (by omega);have q3:=r3 ((W.drew.alloc (K R1 43)).setRow W.heap.size R2).drew 3 (n+1-(k+1)) (G-(k+1)) (n-k) (cap-k) (dz.set n1 R2) (dz.other g1 (by omega) R2) (by omega);have Q:=ah (show pV B l k c (D (L ⟨g,0,J⟩) n cap) W (.returned (D (L ⟨W.heap.size,0,J⟩) (n+1) G)) (((W.drew.alloc (K R1 43)).setRow W.heap.size R2).drew.setRow W.heap.size R3) from ⟨_,rfl,by rw [hn]; exact ow _ B hB (dz.set (dz.set n1 R2) R3),below_setRow (below_setRow ((Below.refl B W).drew.alloc hB _) hB _).drew hB _,fun j hj _=>(setRow_other _ W.heap.size j _ (by omega)).trans ((setRow_other _ W.heap.size j _ (by omega)).trans (Array.getElem?_push_lt hj |>.trans (Array.getElem?_eq_getElem hj).symm))⟩);have l1:l.length+1=n+1:=by rw [hn]
 rw [l1,<- hn] at a1;clear r1 r2 r3 ow hg ht hx g1 x1 n1 bl l1;change ∀ w,(Z 28 (D (L ⟨g,0,J⟩) n cap) (L (U V k)) J J).run O w=.ok (D (L ⟨g,k * 7,J⟩) (n-k) (cap-k)) w at s0;change ∀ w,(Z 28 (D (L ⟨g,0,J⟩) n cap) J (L (U V k)) J).run O w=.ok (D (L ⟨g,0,J⟩) k cap) w at s1;change ∀ w,(Z 28 (D (L ⟨W.heap.size,0,J⟩) (n+1) G) (L (U V k)) J J).run O w=.ok (D (L ⟨W.heap.size,k * 7,J⟩) (n+1-k) (G-k)) w at s2;change ∀ w,(Z 28 (D (L ⟨W.heap.size,0,J⟩) (n+1) G) (L (U V ((k:Int)+1))) J J).run O w=.ok (D (L ⟨W.heap.size,(k+1) * 7,J⟩) (n+1-(k+1)) (G-(k+1))) w at s3;change (aG #[28,3] 28 #[D (L ⟨g,0,J⟩) k cap,U V ((n:Int)+1-k)]).run O W=.ok (D (L ⟨W.heap.size,0,J⟩) (n+1) G) (W.drew.alloc (K R1 43)) at a1;change (ay #[28,28] 3 #[D (L ⟨W.heap.size,k * 7,J⟩) (n+1-k) (G-k),D (L ⟨b,0,J⟩) 1 1]).run O (W.drew.alloc (K R1 43))=.ok (U V 1) ((W.drew.alloc (K R1 43)).setRow W.heap.size R2) at q2;change (ay #[28,28] 3 #[D (L ⟨W.heap.size,(k+1) * 7,J⟩) (n+1-(k+1)) (G-(k+1)),D (L ⟨g,k * 7,J⟩) (n-k) (cap-k)]).run O ((W.drew.alloc (K R1 43)).setRow W.heap.size R2).drew=.ok (U V ((l.length-k:Nat):Int)) (((W.drew.alloc (K R1 43)).setRow W.heap.size R2).drew.setRow W.heap.size R3) at q3;have e1:((k:Int) == (n:Int))=aj:=by rw [beq_eq_false_iff_ne]; omega
 have e2:decide ((cap:Int)<(n:Int)+1)=aI:=by simp; omega
 have hGn:n+1<=G:=by omega
 clear hn;generalize W.heap.size=N at *;generalize W.drew.alloc (K R1 43)=W1 at *;generalize W1.setRow N R2=W2 at *;go_enter aH,aF;go_wp2_with (first | (at_builtin; refine iD rfl _ _ 28 3 rfl rfl rfl a1 ?_) | (at_builtin; refine wpList_copy_run rfl _ _ 28 rfl rfl rfl q2 ?_) | fail);clear a1 q2 s0 s1 s2 s3;have hw1:IntKind.i64.wrap ((k:Int)+1)=(k:Int)+1:=by rw [aD]; omega
 have hb1:(0:Int)<=(k:Int)+1:=by omega
 have hb0:(k:Int)+1<=(n:Int)+1:=by omega
 have htn:((k:Int)+1).toNat=k+1:=by omega
 have hb2:¬ (G=k+1):=by omega
 have hb3:(k:Int)<=(n:Int):=by omega
 have hb4:¬ (cap=k):=by omega
 have h81:n+1-(k+1)=n-k:=by omega
 rw [h81] at q3;clear h81
 go_region_law (refine gP rfl (.tmp 50) (.tmp 53) 28 rfl (v:=D (L ⟨N,(k+1) * 7,J⟩) (n-k) (G-(k+1))) (xv:=D (L ⟨g,k * 7,J⟩) (n-k) (cap-k)) (by simp [Act.eval,Act.put]) (by simp [Act.eval,Act.put]) q3 ?_)
 all_goals simp only [Exit.then]
 all_goals apply_assumption
 go_wp2;go_ret;exact Q.out
theorem nY (B:Nat) (v:aB) (l:List fE) (k:Nat) (c:fE) (b:Nat) (W:ak) (ho:gF W B v l) (hx:dz W b (eY c).toArray 43) (hne:v.ownBlock≠L b) (hk:k<=l.length) (hl:l.length<=900) (hB:B<=W.heap.size) :
  aK O 31 #[v,U V k,D (L ⟨b,0,J⟩) 1 1] W (pV B l k c v W):=by
 rcases aJ k l.length with h|h
 ·rcases eX ho with⟨_,h2⟩|⟨g,cap,cur,rfl,h1,h2,h3,h4,h5,h6⟩
  ·rw [h2] at h; simp at h
  ·rcases aJ cap (l.length+1) with h7|h7
   ·exact tK B g _ cap cur l k c b W rfl h2 h4 h3 h6 hx h h7 hl hB
   ·exact qE B g _ cap cur l k c b W rfl h1 h2 h4 h5 h6 hx (fun e=>hne (by simp [Value.ownBlock,e])) h h7 hl
 ·obtain rfl:k=l.length:=by omega
  exact uV B v l c b W ho hx hl hB
end Av
end Go.Proofs.Ytmklifheakemeaa
