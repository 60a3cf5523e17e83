/-
  join of package pred. Conditions as told.
-/
import Derived.Test.YtmklifheakemeaaGreatLQ007
import Derived.Test.YtmklifheakemeaaGreatLQ018
import Derived.Test.YtmklifheakemeaaGreatLQ009
set_option maxRecDepth 100000
set_option maxHeartbeats 64000000
open _root_.Go renaming World->Z,Value->au
open Go.IntKind renaming i64->Y
open Go.Lib renaming hid->D
open Go.Value renaming string->O,int->X,slice->ah,pointer->aA
open Go.World.ownsRow renaming stored->J,cellAt->ay
open _root_.List renaming length_map->L,length_set->ak
open _root_.Nat renaming le_refl->V
open _root_.Option renaming none->U,some->aj
namespace Go.Proofs.YtmklifheakemeaaGreat.Pr
open Go.RowKit Go.Sort Pu Rw Va
def kR (m:List Cn) (c:Cn):Except Int (List Cn):=match lg m c with
 | none=>.error 5
 | some m'=>if 5<m'.length then .error 7 else .ok m'
def LJ (B:Nat) (r:Except Int (List Cn)) (W:Z) (e:Ending) (w':Z):Prop:=Below B W w'/\(match r with
 | .ok m'=>∃ v',e=.returned (.tuple #[v',.nilIface])/\gG w' B v' (m'.map r5)
 | .error k=>e=.returned (.tuple #[ah U 0 0,.iface 205 (X Y k)]))
theorem JA {m:List Cn} {c:Cn} (h:iY m c.1=false) (h5:m.length=5):kR m c=.error 7:=by
 unfold kR;rw [uJ h];have:=qI m c.1;simp only;rw [if_pos (by simp; omega)]
theorem JC {m:List Cn} {c:Cn} (h:iY m c.1=false) (h5:m.length<5):kR m c=.ok (m.take (iU m c.1)++c::m.drop (iU m c.1)):=by
 unfold kR;rw [uJ h];have:=qI m c.1;simp only;rw [if_neg (by simp; omega)]
theorem yK:∀ (l:List C5) (k:Nat) (x:C5),k<l.length->flat EC (l.set k x)=((((( flat EC l).set (k * 5) (O x.1)).set (k * 5+1) (X Y x.2.1)).set (k * 5+2) (X Y x.2.2.1)).set (k * 5+3) (X Y x.2.2.2.1)).set (k * 5+4) (O x.2.2.2.2)
 | [],k,x,h=>by simp at h
 | y::r,0,x,_=>by simp [flat,EC,cells5]
 | y::r,k+1,x,h=>by
  have h2:=yK r k x (by simpa using h);have e:∀ j u (zs:List au),(cells5 y++zs).set (5+j) u=cells5 y++zs.set j u:=fun j u zs=>by simp [cells5,Nat.add_comm 5 j]
  simp only [List.set_cons_succ,flat,h2];show cells5 y++_=_;rw [show (k+1) * 5=5+k * 5 by omega,show 5+k * 5+1=5+(k * 5+1) by omega,show 5+k * 5+2=5+(k * 5+2) by omega,show 5+k * 5+3=5+(k * 5+3) by omega,show 5+k * 5+4=5+(k * 5+4) by omega];show _=((((( cells5 y++flat EC r).set _ _).set _ _).set _ _).set _ _).set _ _;rw [e,e,e,e,e]
theorem yL {W:Z} {B g n cap k:Nat} {l:List C5} {x:C5} (h:gG W B (ah (aj ⟨g,0,U⟩) n cap) l) (hn:n=l.length) (hk:k<n) :
  gG (((((W.setCell ⟨g,k * 5,U⟩ (O x.1)).setCell ⟨g,k * 5+1,U⟩ (X Y x.2.1)).setCell ⟨g,k * 5+2,U⟩ (X Y x.2.2.1)).setCell ⟨g,k * 5+3,U⟩ (X Y x.2.2.2.1)).setCell ⟨g,k * 5+4,U⟩ (O x.2.2.2.2)) B (ah (aj ⟨g,0,U⟩) n cap) (l.set k x):=by
 subst hn;have o1:=(J h (k * 5) (O x.1)).1;have o2:=(J o1 (k * 5+1) (X Y x.2.1)).1;have o3:=(J o2 (k * 5+2) (X Y x.2.2.1)).1;have o4:=(J o3 (k * 5+3) (X Y x.2.2.2.1)).1;have o5:=(J o4 (k * 5+4) (O x.2.2.2.2)).1;rw [<- yK l k x hk] at o5;show World.ownsRow _ _ _ _ _ (l.set k x).length _;rw [ak];exact o5
theorem qN {B:Nat} {W w:Z} (h:Below B W w) (g:Nat) (hB:B<=g) (o:Nat) (v0 v1 v2 v3 v4:au):Below B W (((((w.setCell ⟨g,o,U⟩ v0).setCell ⟨g,o+1,U⟩ v1).setCell ⟨g,o+2,U⟩ v2).setCell ⟨g,o+3,U⟩ v3).setCell ⟨g,o+4,U⟩ v4) :=
 ((((h.setCell hB _).setCell hB _).setCell hB _).setCell hB _).setCell hB _
theorem o9 {W:Z} {b:Nat} {z:C5} (h:dI W b (cells5 z).toArray 70) (x:C5):dI (((((W.setCell ⟨b,0,U⟩ (O x.1)).setCell ⟨b,1,U⟩ (X Y x.2.1)).setCell ⟨b,2,U⟩ (X Y x.2.2.1)).setCell ⟨b,3,U⟩ (X Y x.2.2.2.1)).setCell ⟨b,4,U⟩ (O x.2.2.2.2)) b (cells5 x).toArray 70:=by
 have h1:=heap_setCell_same W b 0 _ 70 (O x.1) h;have h2:=heap_setCell_same _ b 1 _ 70 (X Y x.2.1) h1;have h3:=heap_setCell_same _ b 2 _ 70 (X Y x.2.2.1) h2;have h4:=heap_setCell_same _ b 3 _ 70 (X Y x.2.2.2.1) h3;have h5:=heap_setCell_same _ b 4 _ 70 (O x.2.2.2.2) h4;unfold dI;rw [h5];simp [cells5]
theorem QT {W:Z} {B:Nat} {v:au} {l:List C5} (h:gG W B v l) {b:Nat} (hb:W.heap.size<=b):v.ownBlock≠aj b:=by
 intro e;have:=(h.lt b e).2;omega
theorem LK (B:Nat) (v:au) (m:List Cn) (c:Cn) (W:Z) (ho:gG W B v (m.map r5)) (hr:iP m) (h5:m.length<=5) (hB:B<=W.heap.size) (ht:iY m c.1=false) :
  Calls Tryz.prog 158 #[v,cv (r5 c)] W (LJ B (kR m c) W):=by
 have BX:=D (dL W (cells5 (r5 c)).toArray 70);have B1:=D ((Below.refl W.heap.size W).alloc (V _) (.cells (cells5 (r5 c)).toArray 70));have BS:=D (KZ v m c (W.alloc (.cells (cells5 (r5 c)).toArray 70)) ((Row.dG ho).on B1.out) hr (by omega));have OW:=D ho;have LN:=D (show (m.map r5).length=m.length from L ..);have CL:=D (qI m c.1);obtain⟨ao,ac,rfl⟩:=(Row.dG ho).len;rw [LN.out] at *;rw [ht] at BS;have hbw:W.heap.size<(W.alloc (.cells (cells5 (r5 c)).toArray 70)).heap.size:=by simp
 by_cases hf:m.length=5
 ·have Q:=D (JA ht hf);generalize kR m c=q at *;have e5:((m.length:Int) == (5:Int))=true:=by simp; omega
  clear ho hf;simp only [r5] at BS ⊢;go_enter Tryz.func158,Tryz.ntmps158;go_wp2_with fail;refine BS.out.mono ?_;rintro e2 w2 ⟨rfl,hb2⟩;have B2:=D (B1.out.trans (hb2.mono B1.out.size));clear hb2 BS B1 BX;go_wp2
  go_ret2
  exact⟨B2.out.mono hB,by rw [Q.out]; rfl⟩
 ·have Q:=D (JC ht (show m.length<5 by omega));have IN:=D (fun (w2:Z) (h2:gG w2 B (ah ao m.length ac) (m.map r5)) (hB2:B<=w2.heap.size)=>Ei B (ah ao m.length ac) (m.map r5) (iU m c.1) (r5 c) w2.heap.size (w2.alloc (.cells (cells5 (r5 c)).toArray 70)) (dJ h2 ((Below.refl _ _).alloc (V _) _)) (dL w2 _ _) (QT h2 (V _)) (by rw [L]; exact CL.out) (by rw [L]; omega) (by simp; omega));generalize kR m c=q at *;have e5:((m.length:Int) == (5:Int))=false:=by rw [beq_eq_false_iff_ne]; omega
  clear ho hf;simp only [r5] at BS ⊢;go_enter Tryz.func158,Tryz.ntmps158;go_wp2_with fail;refine BS.out.mono ?_;rintro e2 w2 ⟨rfl,hb2⟩;have B2:=D (B1.out.trans (hb2.mono B1.out.size));have O2:=D (dJ OW.out B2.out);obtain⟨x0,x1,x2,x3,x4⟩:=eH (BX.out.on hb2);simp only [r5] at x0 x1 x2 x3 x4;clear hb2 BS B1 BX;go_wp2_with fail;have C:=IN.out w2 O2.out (by have:=B2.out.size; omega);refine C.mono ?_;rintro e3 w3 ⟨v',rfl,ho3,hb3⟩;have B3:=D (((B2.out.mono hB).alloc (by have:=B2.out.size; omega) (.cells (cells5 (r5 c)).toArray 70)).trans hb3);have O3:=D ho3;clear ho3 hb3 C IN O2 x0 x1 x2 x3 x4;go_wp2
  go_ret2
  exact⟨B3.out,by rw [Q.out]; exact⟨v',rfl,by rw [List.map_append,List.map_cons,List.map_take,List.map_drop]; exact O3.out⟩⟩
theorem LM (B:Nat) (v:au) (m:List Cn) (c:Cn) (W:Z) (ho:gG W B v (m.map r5)) (hr:iP m) (h5:m.length<=5) (hB:B<=W.heap.size) (ht:iY m c.1=true) :
  Calls Tryz.prog 158 #[v,cv (r5 c)] W (LJ B (kR m c) W):=by
 obtain⟨x,hx,hn,hi⟩:=yh ht;have BX:=D (dL W (cells5 (r5 c)).toArray 70);have B1:=D ((Below.refl W.heap.size W).alloc (V _) (.cells (cells5 (r5 c)).toArray 70));have BS:=D (KZ v m c (W.alloc (.cells (cells5 (r5 c)).toArray 70)) ((Row.dG ho).on B1.out) hr (by omega));rw [ht] at BS;have CB:=D (fun w=>Bg x c w hn);have Q:=D (show kR m c=match eX x.2 c.2 with
  | some k=>.ok (m.set (iU m c.1) (x.1,k))
  | none=>.error 5 by
   unfold kR;rw [hi];cases eX x.2 c.2 with
   | none=>rfl
   | some k=>simp only [Option.map_some]; rw [if_neg (by rw [ak]; omega)])
 generalize kR m c=q at *;generalize eX x.2 c.2=r at *;have hkl:iU m c.1<m.length:=(List.getElem?_eq_some_iff.1 hx).1;generalize hk:iU m c.1=k at *;have HK:=D hkl;have ML:=D (show (m.map r5).length=m.length from L ..);rcases gq ho with⟨_,h2⟩|⟨g,cap,cur,rfl,hBg,hg,hlc,hcm,hsz,htk⟩
 ·have:=List.map_eq_nil_iff.1 h2;subst this;simp at hkl
 ·have fl:=uH p9 (m.map r5) k (r5 x) (by rw [List.getElem?_map,hx]; rfl);have cl:∀ j u,j<5->(cells5 (r5 x))[j]?=aj u->W.cell? ⟨g,k * 5+j,U⟩=aj u:=fun j u hj hu=>(ay ho (k * 5+j) (by rw [L]; show _<m.length * 5; omega)).trans ((fl j hj).trans hu);have GC:=D (fun (w2:Z) (hb:Below W.heap.size W w2)=>show w2.cell? ⟨g,k * 5,U⟩=aj (O x.1)/\w2.cell? ⟨g,k * 5+1,U⟩=aj (X Y (kN x.2))/\w2.cell? ⟨g,k * 5+2,U⟩=aj (X Y (iJ x.2))/\w2.cell? ⟨g,k * 5+3,U⟩=aj (X Y (iK x.2))/\w2.cell? ⟨g,k * 5+4,U⟩=aj (O (kT x.2)) from
   ⟨(hb.cell (show g<W.heap.size from hg.lt)).trans (cl 0 _ (by decide) rfl),(hb.cell (show g<W.heap.size from hg.lt)).trans (cl 1 _ (by decide) rfl),(hb.cell (show g<W.heap.size from hg.lt)).trans (cl 2 _ (by decide) rfl),(hb.cell (show g<W.heap.size from hg.lt)).trans (cl 3 _ (by decide) rfl),(hb.cell (show g<W.heap.size from hg.lt)).trans (cl 4 _ (by decide) rfl)⟩)
  have OW:=D ho;have GL:=D hg.lt;have BG:=D hBg;have GBX:=D (show dI W g cur 70 from hg);rw [L] at OW BS ⊢;generalize m.length=n at *;have ix:=jV p9 g k n cap (by omega);change ∀ w,(Instr.indexAt 32 (ah (aj ⟨g,0,U⟩) n cap) (X Y k)).run Tryz.prog w=.ok (aA (aj ⟨g,k * 5,U⟩)) w at ix;clear ho hr ht hx hi hk hg hlc hcm hsz htk fl cl hBg hn;simp only [r5] at BS CB ⊢;go_enter Tryz.func158,Tryz.ntmps158;go_wp2_with fail;refine BS.out.mono ?_;rintro e2 w2 ⟨rfl,hb2⟩;have B2:=D (B1.out.trans (hb2.mono B1.out.size));obtain⟨x0,x1,x2,x3,x4⟩:=eH (BX.out.on hb2);obtain⟨p0,p1,p2,p3,p4⟩:=GC.out w2 B2.out;have hw2:W.heap.size<w2.heap.size:=by have:=hb2.size; simp at this; omega
  have hg2:g<w2.heap.size:=by have:=GL.out; omega
  have gc1:∀ o,(w2.drew.alloc o).cell? ⟨g,k * 5,U⟩=aj (O x.1):=fun o=>((Below.refl w2.heap.size w2.drew).alloc (V _) o).cell hg2 |>.trans p0;simp only [r5] at x0 x1 x2 x3 x4;clear hb2 BS B1 BX gc1;go_wp2_with fail
  rename_i K hK
  have TAIL:∀ (pb:Nat) (wf:Z) (y:C5) (u10 u11 u12 u13 u14 u15 u16 u17 u18 u19 u20 u21 u22 u23 u24 u25 u26 u27 u28 u29 u30 u31 u32 u33 u34 u35 u36 u37 u38 u39 u40 u41 u42 u43:au),dI wf pb (cells5 y).toArray 70->Below W.heap.size W wf->(∀ k',r=aj k'->y=r5 (x.1,k'))->K ⟨#[ah (aj ⟨g,0,U⟩) n cap,cv (c.1,kN c.2,iJ c.2,iK c.2,kT c.2),undef,aA (aj ⟨W.heap.size,0,U⟩),ah U 0 0,.nilIface,X Y k,.bool true,aA (aj ⟨pb,0,U⟩),.bool r.isSome,u10,u11,u12,u13,u14,u15,u16,u17,u18,u19,u20,u21,u22,u23,u24,u25,u26,u27,u28,u29,u30,u31,u32,u33,u34,u35,u36,u37,u38,u39,u40,u41,u42,u43],[]⟩ wf:=by
   clear x0 x1 x2 x3 x4 p0 p1 p2 p3 p4 CB B2 hw2 hg2;intro pb wf y u10 u11 u12 u13 u14 u15 u16 u17 u18 u19 u20 u21 u22 u23 u24 u25 u26 u27 u28 u29 u30 u31 u32 u33 u34 u35 u36 u37 u38 u39 u40 u41 u42 u43 hyb hbw hyk;obtain⟨y0,y1,y2,y3,y4⟩:=eH hyb;have OF:=dJ OW.out hbw;have fz:=fun j=>(GBX.out.on hbw).fr j;obtain⟨p0,p1,p2,p3,p4⟩:=GC.out wf hbw;have HB:=D hbw;have HO:=D OF;have HY:=D hyk;clear hyb hbw OF GC OW hyk;apply hK;clear hK;rcases r with _|k'
   ·have QQ:=D (show q=.error 5 from Q.out);clear Q;go_wp2
    go_ret2
    exact⟨HB.out.mono hB,by rw [QQ.out]; rfl⟩
   ·have QQ:=D (show q=.ok (m.set k (x.1,k')) from Q.out);clear Q;go_wp2
    go_ret2
    refine⟨qN (HB.out.mono hB) g BG.out _ _ _ _ _ _,?_⟩;rw [QQ.out];refine⟨ah (aj ⟨g,0,U⟩) n cap,rfl,?_⟩;rw [List.map_set,<- HY.out k' rfl];exact yL HO.out ML.out.symm HK.out
  clear hK
  go_region_with (go_at_call 181; refine (CB.out _).mono ?_; rintro e w3 ⟨⟨y,rfl,hy⟩,hb3⟩; (try (have ZB:=D ((dL w2.drew (cells5 (⟨#[]⟩,0,0,0,⟨#[]⟩)).toArray 70).on hb3); obtain⟨z0,z1,z2,z3,z4⟩:=eH ZB.out; have fz:=fun k=>ZB.out.fr k; simp only [World.size_drew] at z0 z1 z2 z3 z4 fz)))
  all_goals simp only [Exit.then]
  all_goals first
   | exact TAIL w3.heap.size _ y _ _ _ _ _ _ _ _ _ _ _ _ _ _ _ _ _ _ _ _ _ _ _ _ _ _ _ _ _ _ _ _ _ _ (dL w3 _ _) (((B2.out.drew).trans (hb3.mono (by have:=B2.out.size; simp; omega))).alloc (by have:=hb3.size; have:=B2.out.size; simp at *; omega) _) hy
   | exact TAIL w2.heap.size _ y _ _ _ _ _ _ _ _ _ _ _ _ _ _ _ _ _ _ _ _ _ _ _ _ _ _ _ _ _ _ _ _ _ _ (o9 ((dL w2.drew (cells5 (⟨#[]⟩,0,0,0,⟨#[]⟩)).toArray 70).on hb3) y) (gL (((B2.out.drew).alloc (by have:=B2.out.size; simp; omega) _).trans (hb3.mono (by have:=B2.out.size; simp; omega))) w2.heap.size (by have:=B2.out.size; omega) _ _ _ _ _) hy
theorem vQ (B:Nat) (v:au) (m:List Cn) (c:Cn) (W:Z) (ho:gG W B v (m.map r5)) (hr:iP m) (h5:m.length<=5) (hB:B<=W.heap.size) :
  Calls Tryz.prog 158 #[v,cv (r5 c)] W (LJ B (kR m c) W):=by
 cases h:iY m c.1
 ·exact LK B v m c W ho hr h5 hB h
 ·exact LM B v m c W ho hr h5 hB h
end Go.Proofs.YtmklifheakemeaaGreat.Pr
