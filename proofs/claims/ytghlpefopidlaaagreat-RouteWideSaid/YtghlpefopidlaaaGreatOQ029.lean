/-
  Match and Covers of . Conditions as told.
-/
import Derived.Test.YtghlpefopidlaaaGreatOQ028
import Derived.Test.YtghlpefopidlaaaGreatOQ026
import Derived.Test.YtghlpefopidlaaaGreatOQ023
set_option maxRecDepth 100000
set_option maxHeartbeats 64000000
open _root_.Bool renaming true->aG,false->aJ
open _root_.Go renaming World->U,Value->aj,TypeId->aR
open Go.IntKind renaming i64->ah
open Go.Lib renaming hid->D
open Go.Proofs.Tryz renaming prog->X,ntmps171->aN,func171->aP
open Go.Region renaming binds->aA
open Go.Value renaming int->ak,string->ay,slice->aC
open _root_.List renaming getElem?_eq_getElem->O,length_append->Z,mem_of_getElem?->au,getElem?_map->aB,length_map->aD,mem_append->aM
open _root_.Nat renaming le_trans->J,mul_le_mul->aH,lt_of_lt_of_le->aI,zero_le->aK,le_refl->aL,zero_add->aO,add_mul->aQ
open _root_.Option renaming some->Y,none->aF
namespace Go.Proofs.YtghlpefopidlaaaGreat
namespace Rl
open Go.RowKit Go.Sort Pu Rw Pr Va
theorem Ob {α:Type} (f:α->Bool) (l:List α) (m:Nat) (h:l.length=m):(l.take m).all f=l.all f:=by rw [<- h,List.take_length]
theorem DU (pv qv:aj) (p b:List Cn) (w:U) (hp:gq w pv (p.map r5)) (hl:gq w qv (b.map r5)) (np:NF p) (nb:NF b) :
  Calls X 27 #[pv,qv] w fun e w'=>e=.returned (.bool (qx p b))/\Below w.heap.size w w':=by
 have CO:=D (Hw (a:=p) nb.rise);have HP:=D hp;have HL:=D hl;have h5:b.length<=100:=by have:=nb.five; omega
 have GP:=D np.fD;have GB:=D nb.fD;have m5:p.length<=5:=np.five;obtain⟨ao,ac,rfl⟩:=hp.len;rw [aD] at HP ⊢;generalize hm:p.length=m at *;have HM:=D hm;generalize qx p b=r at *;clear hp hl hm np nb;go_enter Tryz.func27,Tryz.ntmps27;go_wp2
 go_loopw [11] (fun i wr=>∃ k:Nat,k<=m/\i=ak ah k/\Below w.heap.size w wr/\(p.take k).all (Du b)=aG) (fun i _=>m-(intOf i).toNat)
 case atStart=>exact⟨0,aK _,rfl,Below.refl _ _,rfl⟩
 case round =>
  obtain⟨k,hk,rfl,hb,hall⟩:=hrel;have HB:=D hb;have AL:=D hall;clear hb hall;by_cases hlt:k<m
  ·obtain⟨⟨xn,xk⟩,hx⟩:∃ x,p[k]?=Y x:=⟨_,O (by rw [HM.out]; exact hlt)⟩;obtain⟨q,ix,px⟩:=Ue (x:=r5 (xn,xk)) HP.out rfl (by rw [aD]; exact HM.out) (by rw [aB,hx]; rfl);obtain⟨p0,p1,p2,p3,p4⟩:=px _ HB.out;have MO:=D (J5 (Du b) p k (xn,xk) hx);have NO:=D (fun h=>Nv (Du b) p k (xn,xk) hx h);have GX:=D (GP.out _ (au hx));have BX:=D (show dx (wr.alloc (.cells #[ay xn,ak ah (kN xk),ak ah (lN xk),ak ah (lQ xk),ay (kT xk)] 91)) wr.heap.size (cells5 (xn,kN xk,lN xk,lQ xk,kT xk)).toArray 91 from dK wr _ _);have B1:=D (HB.out.alloc HB.out.size (.cells #[ay xn,ak ah (kN xk),ak ah (lN xk),ak ah (lQ xk),ay (kT xk)] 91));have G:=D (RH qv b xn (wr.alloc (.cells #[ay xn,ak ah (kN xk),ak ah (lN xk),ak ah (lQ xk),ay (kT xk)] 91)) (HL.out.on B1.out) h5);have GC:=D (show Du b (xn,xk)=match Na b xn with
    | some y=>iU y.2 xk
    | none=>aJ from rfl)
   obtain⟨gg,hgg⟩:∃ g,Du b (xn,xk)=g:=⟨_,rfl⟩;rw [hgg] at GC MO NO;simp only [r5] at p0 p1 p2 p3 p4;clear hx px hgg;go_wp2_with fail;refine G.out.mono ?_;rintro e2 w2 ⟨he2,hb2⟩;have B2:=D (B1.out.trans (hb2.mono B1.out.size));obtain⟨x0,x1,x2,x3,x4⟩:=fU (BX.out.on hb2);simp only at x0 x1 x2 x3 x4;have hwl:wr.heap.size<w2.heap.size:=by have:=hb2.size; simp at this; omega
   rcases hg:Na b xn with _|⟨yn,yk⟩
   ·rw [hg] at he2 GC;subst he2;have R:=D (show r=aJ by rw [CO.out]; exact NO.out GC.out);clear hb2 G B1 BX ix p0 p1 p2 p3 p4 hg;unfold RF;go_wp2;go_ret;exact⟨eO R.out.symm,B2.out.alloc B2.out.size _⟩
   ·obtain⟨hm1,hm2⟩:=Kr hg;obtain rfl:yn=xn:=hm2;rw [hg] at he2 GC;subst he2;have WC:=D (fun W=>Il yn xk yk W GX.out (GB.out _ hm1));simp only [r5] at WC;clear hb2 G B1 BX ix p0 p1 p2 p3 p4 hg hm1;unfold RF;simp only [r5];go_wp2_with fail;refine (WC.out _).mono ?_;rintro e3 w3 ⟨rfl,hb3⟩;have B3:=D ((B2.out.alloc B2.out.size (.cells #[ay yn,ak ah (kN yk),ak ah (lN yk),ak ah (lQ yk),ay (kT yk)] 91)).trans (hb3.mono (B2.out.alloc B2.out.size (.cells #[ay yn,ak ah (kN yk),ak ah (lN yk),ak ah (lQ yk),ay (kT yk)] 91)).size));rw [<- GC.out];clear hb3 B2 x0 x1 x2 x3 x4 hwl WC;cases gg
    ·have R:=D (show r=aJ by rw [CO.out]; exact NO.out rfl);go_wp2;go_ret;exact⟨eO R.out.symm,B3.out⟩
    ·go_wp2
     go_roundw
     case rel=>exact⟨k+1,by omega,by go_num,B3.out,by rw [MO.out,AL.out]; rfl⟩
     case measure=>simp [intOf]; omega
  ·obtain rfl:k=m:=by omega
   have R:=D (show r=aG by rw [CO.out,<- Ob _ p _ HM.out]; exact AL.out);go_wp2;go_ret;exact⟨eO R.out.symm,HB.out⟩
end Rl
namespace Bk
open Go.RowKit Go.Sort Rw YtghlpefopidlaaaGreat.Nm Pr
theorem Io (l:List Id) (x:Id) (h:x∈l):∃ k:Nat,fC l x=k/\l[k]?=Y x:=by
 induction l with
 | nil=>simp at h
 | cons a r ih =>
  by_cases e:a=x
  ·subst e;exact⟨0,by simp [fC],rfl⟩
  ·have hr:x∈r:=by
    rcases List.mem_cons.1 h with h1|h1
    ·exact absurd h1.symm e
    ·exact h1
   obtain⟨k,h1,h2⟩:=ih hr;refine⟨k+1,?_,by simpa using h2⟩;rw [fC,if_neg e,h1,if_neg (by omega)];omega
theorem rV {t:Id} {m:List En} (R:En->Prop) (hR:∀ e,e.tree=t->R e->R (tV e)) (h:∀ e∈m,R e):∀ k,(∀ e∈(gJ t m k).1,R e)/\∀ e∈(gJ t m k).2,R e
 | 0=>⟨h,fun e he=>by simp [gJ] at he⟩
 | k+1=>by
  have ih:=rV (t:=t) R hR h k;rw [iK];unfold fM
  split
  ·exact ih
  ·rename_i e he
   split
   ·rename_i hcond
    have hu:=hR e hcond.1 (ih.1 e (au he));refine⟨fun x hx=>?_,fun x hx=>?_⟩
    ·rcases List.mem_or_eq_of_mem_set hx with h1|h1
     ·exact ih.1 x h1
     ·rw [h1];exact hu
    ·rcases aM.1 hx with h1|h1
     ·exact ih.2 x h1
     ·rw [List.mem_singleton.1 h1];exact hu
   ·exact ih
theorem oU {α:Type} {l:List α} {k:Nat} {x:α} (h:x∈cutAt l k):x∈l:=by
 rcases aM.1 h with h|h
 ·exact List.mem_of_mem_take h
 ·exact List.mem_of_mem_drop h
structure Ou where
 TN:Int
 kind:Int
 tree:Id
 id:Id
 p:List C5
def KS (W:U) (x:nP) (o:Ou):Prop:=x.1=o.TN/\x.2.1=o.kind/\(x.2.2.1,x.2.2.2.1)=o.tree/\(x.2.2.2.2.1,x.2.2.2.2.2.1)=o.id/\gq W (dN x.2.2.2.2.2.2.1) o.p/\x.2.2.2.2.2.2.2=(aF,0,0)
theorem KS.on {W W':U} {x:nP} {o:Ou} (h:KS W x o) (hb:Below W.heap.size W W'):KS W' x o:=⟨h.1,h.2.1,h.2.2.1,h.2.2.2.1,h.2.2.2.2.1.on hb,h.2.2.2.2.2⟩
def kV (W:U) (s:Sl) (l:List Ou):Prop:=∃ xs,Uw W (dN s) xs/\eG (KS W) xs l
theorem kV.on {W W':U} {s:Sl} {l:List Ou} (h:kV W s l) (hb:Below W.heap.size W W'):kV W' s l:=by
 obtain⟨xs,h1,h2⟩:=h;exact⟨xs,h1.on hb,h2.mono fun _ _ h=>h.on hb⟩
def lJ (TN:Int) (e:En):Ou:=⟨TN,3,e.tree,e.sub,e.p⟩
def jF (b:Br) (t x:Id) (f:Int):Br×List Ou:=if (takeB b t x f).2.2=aJ then ((takeB b t x f).1,[]) else
 match b.dG[(fC (b.dG.map Ad.id) t).toNat]? with
 | none=>((takeB b t x f).1,[])
 | some a=>((takeB b t x f).1,(takeB b t x f).2.1.map (lJ a.par)++[⟨a.par,4,t,x,[]⟩])
theorem rW (b:Br) (t x:Id) (f:Int):(takeB b t x f).1.dG=b.dG/\(takeB b t x f).1.near=b.near/\(takeB b t x f).1.me=b.me/\(takeB b t x f).1.seen=b.seen/\(takeB b t x f).1.own=b.own:=by
 unfold takeB
 split
 ·exact⟨rfl,rfl,rfl,rfl,rfl⟩
 ·split
  ·exact⟨rfl,rfl,rfl,rfl,rfl⟩
  ·split
   ·exact⟨rfl,rfl,rfl,rfl,rfl⟩
   ·split <;> exact⟨rfl,rfl,rfl,rfl,rfl⟩
theorem DV {b:Br} {t x:Id} {f:Int} (h:(takeB b t x f).2.2=aG):∃ e∈b.ent,e.tree=t:=by
 unfold takeB at h
 split at h
 ·cases h
 ·rename_i e he
  split at h
  ·cases h
  ·rename_i h1
   rcases jS (b.ent.map dF) (t,x) with h2|⟨k,h2,h3⟩
   ·exact absurd h2 h1
   ·rw [h2,Int.toNat_natCast] at he;refine⟨e,au he,?_⟩;rw [aB,he] at h3;exact congrArg Prod.fst (Option.some.inj h3)
theorem oV (b:Br) (t x:Id) (f:Int):(takeB b t x f).1.ent.length<=b.ent.length/\(takeB b t x f).2.1.length<=b.ent.length:=by
 unfold takeB
 split
 ·simp
 ·split
  ·simp
  ·split
   ·simp
   ·have hc:(cutAt b.ent (gT (b.ent.map dF) (t,x)).toNat).length<=b.ent.length:=by
     unfold cutAt;rw [Z,List.length_take,List.length_drop];omega
    split
    ·exact⟨hc,by simp⟩
    ·have h1:=oQ t (cutAt b.ent (gT (b.ent.map dF) (t,x)).toNat) (cutAt b.ent (gT (b.ent.map dF) (t,x)).toNat).length;exact⟨by rw [show ((gJ t _ _).1.length)=_ from h1.1]; exact hc,J h1.2 hc⟩
theorem oW {W W':U} {k:Nat} {me:Int} {s1 s2 s3 s4 s5:Sl} {s:Sl} {m:List Ou} (h:kV W s m) (hb:dx W k (oM me s1 s2 s3 s4 s5) 30) (hk:∀ j,j<W.heap.size->j≠k->W'.heap[j]?=W.heap[j]?):kV W' s m:=by
 obtain⟨xs,h1,h2⟩:=h;exact⟨xs,jB Nw h1 hk (oz hb (fun c=>⟨_,_,rfl,rfl⟩) (qB me s1 s2 s3 s4 s5)),h2.mono fun x a hx=>⟨hx.1,hx.2.1,hx.2.2.1,hx.2.2.2.1,jB sP hx.2.2.2.2.1 hk (tO hb (tQ me s1 s2 s3 s4 s5)),hx.2.2.2.2.2⟩⟩
theorem kW (b:Br) (t x:Id) (f:Int):(jF b t x f).1=(takeB b t x f).1:=by
 unfold jF
 split
 ·rfl
 ·split <;> rfl
theorem Bo {α:Type} {E:Ek α} (K:E.Ok) {w:U} (B:Nat) {v x:aj} {l m:List α} (hown:Own E w B v l) (hx:Row E w x m) (hn:l.length<=1000000) (hm:m.length<=1000000) (hB:B<=w.heap.size) (ty:aR) :
  ∃ v' w',(Builtin.append_ #[E.ts,E.ts] ty #[v,x]).run X w=.ok v' w'/\Own E w' B v' (l++m)/\w.grownBy w' v.ownBlock:=by
 obtain⟨i,i1,i2,i3,i4⟩:=K.info;rcases hx with⟨rfl,rfl⟩|⟨ad,c,rfl,h2,h3,h4⟩
 ·exact⟨v,w,run_append_owned_none (P:=X) (w:=w) B E.ts ty E.t i E.n K.hu i1 v _ _ hown,by simpa using hown,mW _ _⟩
 ·have hf:=K.few;obtain⟨v',w',r1,r2,r3,_⟩:=run_append_own (P:=X) w B E.ts ty E.t i E.z E.n E.bytes K.hu i1 i2 i3 i4 K.zs K.pos v _ _ hown ad m.length c (flat E m) (dz K m) h4 (jG K m) (by unfold maxLen; omega)
   (J (aH (show l.length+m.length<=2000000 by omega) hf) (by decide)) hB
  exact⟨v',w',r1,by rw [Own,Z,eY]; exact r2,r3⟩
theorem rX {b:Br} (t x:Id) (f:Int) (R:En->Prop) (hR:∀ e,e.tree=t->R e->R (tV e)) (h:∀ e∈b.ent,R e):(∀ e∈(takeB b t x f).1.ent,R e)/\∀ e∈(takeB b t x f).2.1,R e:=by
 unfold takeB
 split
 ·exact⟨h,fun e he=>by simp at he⟩
 ·split
  ·exact⟨h,fun e he=>by simp at he⟩
  ·split
   ·exact⟨h,fun e he=>by simp at he⟩
   ·split
    ·exact⟨fun e he=>h e (oU he),fun e he=>by simp at he⟩
    ·exact rV R hR (fun e he=>h e (oU he)) _
theorem Ip (b:Br) (t x:Id) (f:Int):(jF b t x f).2.length<=b.ent.length+1:=by
 unfold jF;have h:=(oV b t x f).2
 split
 ·simp
 ·split
  ·simp
  ·rw [Z,aD];simp;omega
def kJ (x:Id) (s:Br×List Ou) (t:Id):Br×List Ou:=((jF s.1 t x (-1)).1,s.2++(jF s.1 t x (-1)).2)
def kX (b:Br) (x:Id):List Ow:=b.own.filter fun o=>decide (o.id≠x)
def fA (b:Br) (x:Id) (k:Nat):Br×List Ou:=((b.dG.map Ad.id).take k).foldl (kJ x) ({ b with own:=kX b x },[])
def fB (b:Br) (x:Id):Br×List Ou:=if (kX b x).length=b.own.length then (b,[]) else fA b x b.dG.length
theorem iX (b:Br) (x:Id) {k:Nat} {a:Ad} (h:b.dG[k]?=Y a):fA b x (k+1)=kJ x (fA b x k) a.id:=by
 unfold fA;rw [List.take_add_one,aB,h,List.foldl_append]
 rfl
structure TP (b0 b:Br) (o:List Ow):Prop where
 me:b.me=b0.me
 near:b.near=b0.near
 dG:b.dG=b0.dG
 seen:b.seen=b0.seen
 own:b.own=o
 len:b.ent.length<=b0.ent.length
theorem TP.drop {b0 b:Br} {o:List Ow} (h:TP b0 b o) (t x:Id) (f:Int):TP b0 (jF b t x f).1 o:=by
 rw [kW];obtain⟨h1,h2,h3,h4,h5⟩:=rW b t x f;exact⟨h3.trans h.me,h2.trans h.near,h1.trans h.dG,h4.trans h.seen,h5.trans h.own,J (oV b t x f).1 h.len⟩
theorem kK (b:Br) (x:Id):∀ k,k<=b.dG.length->TP b (fA b x k).1 (kX b x)/\(fA b x k).2.length<=k * (b.ent.length+1)
 | 0,_=>⟨⟨rfl,rfl,rfl,rfl,rfl,aL _⟩,by simp [fA]⟩
 | k+1,hk=>by
  obtain⟨a,ha⟩:∃ a,b.dG[k]?=Y a:=⟨_,O hk⟩;obtain⟨h1,h2⟩:=kK b x k (by omega);rw [iX b x ha];refine⟨h1.drop _ _ _,?_⟩;show ((fA b x k).2++(jF (fA b x k).1 a.id x (-1)).2).length<=_;have h3:=Ip (fA b x k).1 a.id x (-1);have h4:=h1.len;rw [Z,aQ];omega
theorem uX (b:Br) (x:Id) (R:En->Prop) (hR:∀ e,R e->R (tV e)) (h:∀ e∈b.ent,R e):∀ k,k<=b.dG.length->∀ e∈(fA b x k).1.ent,R e
 | 0,_=>h
 | k+1,hk=>by
  obtain⟨a,ha⟩:∃ a,b.dG[k]?=Y a:=⟨_,O hk⟩;rw [iX b x ha];show ∀ e∈(jF _ _ _ _).1.ent,R e;rw [kW];exact (rX _ _ _ R (fun e _=>hR e) (uX b x R hR h k (by omega))).1
end Bk
namespace Pr
open Go.RowKit Pu Rw
theorem KT {α:Type} {E:Ek α} (K:E.Ok) (tn:aR) (htn:Tryz.prog.underlying tn=Y (.int .i64)) (n:Nat) (h0:0<n) (hn:n<=1000) (W:U) :
  ∃ (G:Nat) (R:Array aj),n<=G/\G<=maxLen/\R.size=G * E.n /\
   ∀ ty,(Builtin.append_ #[E.ts,tn] ty #[aC aF 0 0,ak ah n]).run X W=.ok (aC (Y ⟨W.heap.size,0,aF⟩) n G) (W.drew.alloc (.cells R E.t)):=by
 obtain⟨i,i1,i2,i3,i4⟩:=K.info;have hf:=K.few;have hpos:=K.pos;have happ:=fun ty=>Lib.run_append_grow_zeros (P:=X) W E.ts tn ty E.t i _ ah ah K.hu htn i1 i2 aF 0 0 [] (run_firstCells_none _ _ _ _ _) n h0 (by rw [i3]; exact hpos) (by omega) (by omega)
  (by rw [i4]; exact J (aH hn hf) (by decide))
  (growslice_fits (by omega) (by rw [i4]; exact J (aH (show 0+n<=2000 by omega) hf) (by decide)))
 rw [aO] at happ;have hG1:=grownCap_ge W n 0 E.t;have hG2:=grownCap_le_maxLen W n 0 E.t (by unfold maxLen; omega);generalize grownCap W n 0 E.t=G at happ hG1 hG2;refine⟨G,_,hG1,hG2,?_,happ⟩;simp only [Array.size_append,List.size_toArray,List.length_nil,size_zeroCells,K.zs,aO,<- aQ];rw [show n+(G-n)=G by omega]
def KU (l:List C5) (w:U) (e:Ending) (w':U):Prop:=∃ v,e=.returned v/\ig w' w.heap.size v l/\Below w.heap.size w w'
theorem KW (n:Nat) (w:U) (hn:n<=200) :
  Calls X 171 #[aC aF 0 0,ak ah n] w (KU [] w):=by
 rcases Nat.eq_zero_or_pos n with rfl|h0
 ·have Q:=D (show KU [] w (.returned (aC aF 0 0)) w from ⟨_,rfl,iH _ _,Below.refl _ _⟩);go_enter aP,aN;go_wp2;go_ret;exact Q.out
 ·obtain⟨G,R,g1,g2,g3,hr⟩:=KT (E:=EC) sP 3 Tryz.underlying3 n h0 (by omega) w;have r:=hr 34;have s1:=iB (E:=EC) sP ⟨w.heap.size,0,aF⟩ 0 n G (aK _);have Q:=D (show KU [] w (.returned (aC (Y ⟨w.heap.size,0,aF⟩) 0 G)) (w.drew.alloc (.cells R 91)) from
   ⟨_,rfl,jR sP (l:=[]) rfl (aL _) (dK w.drew R 91) (aK _) g2 g3 (by simp [flat]),(Below.refl _ _).drew.alloc (by simp) _⟩)
  change (Builtin.append_ #[34,3] 34 #[aC aF 0 0,ak ah (n:Int)]).run X w=.ok (aC (Y ⟨w.heap.size,0,aF⟩) n G) (w.drew.alloc (.cells R 91)) at r;change ∀ W,(Instr.sliceAt 34 (aC (Y ⟨w.heap.size,0,aF⟩) n G) aF (Y (ak ah 0)) aF).run X W=.ok (aC (Y ⟨w.heap.size,0,aF⟩) 0 G) W at s1;have e1:decide ((n:Int)<0)=aJ:=by simp
  have e2:decide ((0:Int)<(n:Int))=aG:=by simp; omega
  unfold maxLen at g2;clear hr g3;go_enter aP,aN;go_wp2_with (first | (at_builtin; refine fZ rfl _ _ 34 3 rfl rfl rfl r ?_) | fail);go_ret;exact Q.out
def Yh (n m:Nat) (s i:aj):Prop:=(i=ak ah 0/\s=ak ah 0)\/(i=ak ah 1/\s=ak ah (n:Int))\/(i=ak ah 2/\s=ak ah ((n+m:Nat):Int))
def Yi (w:U) (a b:List C5) (v i:aj) (wr:U):Prop:=((i=ak ah 0/\ig wr w.heap.size v [])\/(i=ak ah 1/\ig wr w.heap.size v a)\/(i=ak ah 2/\ig wr w.heap.size v (a++b)))/\Below w.heap.size w wr
theorem DW (g:Nat) (xX bv:aj) (a b:List C5) (w:U) (c0:w.cell? ⟨g,0,aF⟩=Y xX) (c1:w.cell? ⟨g,1,aF⟩=Y bv) (ha:gq w xX a) (hb:gq w bv b) (la:a.length<=100) (lb:b.length<=100) :
  Calls X 135 #[aC (Y ⟨g,0,aF⟩) 2 2] w (KU (a++b) w):=by
 have HA:=D ha;have HB:=D hb;have C0:=D c0;have C1:=D c1;have hg:g<w.heap.size:=World.block_lt_of_cell? w _ c0;obtain⟨ao,ac,rfl⟩:=ha.len;obtain⟨bo,bc,rfl⟩:=hb.len;clear ha hb c0 c1;go_enter Tryz.func135,Tryz.ntmps135;go_wp2
 go_loop [3,11] (fun s i=>Yh a.length b.length s i) (fun _ i=>(2-intOf i).toNat)
 case atStart=>exact Or.inl ⟨rfl,rfl⟩
 case round =>
  rcases hrel with⟨rfl,rfl⟩|⟨rfl,rfl⟩|⟨rfl,rfl⟩
  ·have c0:=C0.out;go_wp2
   go_round
   case rel=>exact Or.inr (Or.inl ⟨rfl,rfl⟩)
   case measure=>simp [intOf]
  ·have c1:=C1.out;go_wp2
   go_round
   case rel=>exact Or.inr (Or.inr ⟨rfl,by go_num⟩)
   case measure=>simp [intOf]
  ·have GR:=D (KW (a.length+b.length) w (by omega));go_wp2_with fail;refine GR.out.mono ?_;rintro e1 w1 ⟨v1,rfl,ho,hb1⟩;have O1:=D ho;have B1:=D hb1;clear ho hb1 GR;go_wp2
   go_loopw [6,27] (fun v i wr=>Yi w a b v i wr) (fun _ i _=>(2-intOf i).toNat)
   case atStart=>exact⟨Or.inl ⟨rfl,O1.out⟩,B1.out⟩
   case round =>
    obtain⟨hc,hbw⟩:=hrel;have BW:=D hbw;clear hbw;rcases hc with⟨rfl,ho⟩|⟨rfl,ho⟩|⟨rfl,ho⟩
    ·have c0:=(BW.out.cell (p:=⟨g,0,aF⟩) hg).trans C0.out;obtain⟨v',w',r,o',gr⟩:=Rh w.heap.size ho (HA.out.on BW.out) (by simp) (by omega) BW.out.size;have B':=D (BW.out.grown gr BW.out.size (fun j hj=>(ho.lt j hj).1));have O':=D o';clear ho o' gr;go_wp2_with (first | (at_builtin; refine wpList_append_run rfl _ _ 34 rfl rfl rfl r ?_) | fail)
     go_roundw
     case rel=>exact⟨Or.inr (Or.inl ⟨rfl,O'.out⟩),B'.out⟩
     case measure=>simp [intOf]
    ·have c1:=(BW.out.cell (p:=⟨g,1,aF⟩) hg).trans C1.out;obtain⟨v',w',r,o',gr⟩:=Rh w.heap.size ho (HB.out.on BW.out) (by omega) (by omega) BW.out.size;have B':=D (BW.out.grown gr BW.out.size (fun j hj=>(ho.lt j hj).1));have O':=D o';clear ho o' gr;go_wp2_with (first | (at_builtin; refine wpList_append_run rfl _ _ 34 rfl rfl rfl r ?_) | fail)
     go_roundw
     case rel=>exact⟨Or.inr (Or.inr ⟨rfl,O'.out⟩),B'.out⟩
     case measure=>simp [intOf]
    ·have Q:=D (show KU (a++b) w (.returned _) _ from ⟨_,rfl,ho,BW.out⟩);clear ho;go_wp2;go_ret;exact Q.out
end Pr
namespace Av
open Go.RowKit Go.Sort Rw YtghlpefopidlaaaGreat.Nm Pr Bk
theorem jN {P:Program} (ρ:Operand->aj) (o:Oper) (y:Operand) (k:Nat) (ho:o.op=.extract y k) {c:Array aj} {v:aj} (hx:ρ y=.tuple c) (hv:c[k]?=Y v) (w:U):(execOp ρ o).run P w=.ok (.value v) w:=by
 simp [execOp,ho,hx,hv,go_sem]
end Av
namespace Rg
open Go.RowKit Rw Av
structure PU (i N S:Nat) (d last:Nat->Nat) (V:Nat->aj->U->Prop) (base:Act) (o:Oper) (a:Act) (x:U):Prop where
 kp:∀ j u,(∀ i,i<N->d i≠j)->base.tmps[j]?=Y u->a.eval (.tmp j)=u
 at_:∀ e∈o.after,aA .any e=aG->e.on≠S->(last e.on=i\/N<=last e.on)->V e.on (a.eval (.tmp (d e.on))) x
def PV (b:Nat) (W x:U):Prop:=But b W x/\∀ B,B<=b->Below B W x
theorem PV.grow {b:Nat} {W x x':U} (h:PV b W x) (hl:b<W.heap.size) (hb:Below x.heap.size x x'):PV b W x' :=
 ⟨⟨fun k hk hne=>(hb.block k (aI hk h.1.2)).trans (h.1.1 k hk hne),J h.1.2 hb.size⟩,fun B hB=>(h.2 B hB).trans (hb.mono (J (J hB (Nat.le_of_lt hl)) h.1.2))⟩
structure InY (l:List Oper) (N S C:Nat) (d last:Nat->Nat) (V:Nat->aj->U->Prop) (t:aR) (bb:Nat) (old:Array aj) (Jr:aj->Array aj) (base:Act) (W:U) (L:Array Bool) (a:Act) (x:U):Prop where
 cl:∀ i o,done L i->l[i]?=Y o->∀ e∈o.after,aA .any e=aG->done L e.on
 no:∀ i,N<=i->¬ done L i
 df:a.defers=base.defers
 sz:a.tmps.size=base.tmps.size
 kp:∀ j,(∀ i,i<N->d i≠j)->a.tmps[j]?=base.tmps[j]?
 Xo:PV bb W x
 val:∃ vs:Nat->aj,∀ i,i<N->i≠S->done L i->a.tmps[d i]?=Y (vs i)/\(¬ done L (last i)->V i (vs i) x)
 box:¬ done L S->Below W.heap.size W x/\dx x bb old t
 fin:done L S->∃ v,a.tmps[d C]?=Y v/\dx x bb (Jr v) t/\V C v x
theorem Iq {P:Program} {Q:Exit->Act->U->Prop} {id:Nat} {base:Act} {W:U} {l:List Oper} (N S C:Nat) (d last:Nat->Nat) (V:Nat->aj->U->Prop) (fl:Nat->Bool) (t:aR) (bb:Nat) (old:Array aj) (Jr:aj->Array aj)
  (hm:P.follows .mixedOrders=aG) (hf:CK l.toArray=aG) (hN:l.length=N) (hS:S<N) (hC:C<N) (hCS:C≠S) (Ux:N<=last C) (jk:dx W bb old t)
  (hinj:∀ i j,i<N->j<N->i≠S->j≠S->d i=d j->i=j) (hs:∀ i,i<N->i≠S->d i<base.tmps.size)
  (hV:∀ i v x x',i<N->V i v x->Below x.heap.size x x'->V i v x')
  (hfl:∀ o,l[S]?=Y o->∀ i,i<N->i≠S->fl i=aJ->∃ e∈o.after,aA .any e=aG/\e.on=i) (UR:fl C=aJ)
  (hop:∀ i o,i<N->i≠S->l[i]?=Y o->∀ a x,(fl i=aJ->Below W.heap.size W x/\dx x bb old t)->PU i N S d last V base o a x->∀ K:Act->U->Prop,(∀ v x',V i v x'->Below x.heap.size x x'->K (a.put (Y (d i)) v) x')->wpOp P l.toArray Q i K a x)
  (XP:∀ o,l[S]?=Y o->∀ a x v,Below W.heap.size W x->dx x bb old t->a.eval (.tmp (d C))=v->V C v x->(∀ j u,base.tmps[j]?=Y u->(∀ i,i<N->d i≠j)->a.eval (.tmp j)=u)->∀ K:Act->U->Prop,(∀ x',But bb x x'->(∀ B w,B<=bb->Below B w x->Below B w x')->dx x' bb (Jr v) t->(∀ j u,j<N->j≠S->N<=last j->V j u x->V j u x')->K a x')->wpOp P l.toArray Q S K a x)
  (hlast:∀ j,j<N->j≠S->N<=last j\/(last j<N/\last j≠S/\fl (last j)=aJ))
  (hend:∀ a x v,a.defers=base.defers->a.tmps.size=base.tmps.size->(∀ j,(∀ i,i<N->d i≠j)->a.tmps[j]?=base.tmps[j]?)->a.tmps[d C]?=Y v->dx x bb (Jr v) t->V C v x->PV bb W x->(∃ vs:Nat->aj,∀ i,i<N->i≠S->a.tmps[d i]?=Y (vs i)/\(N<=last i->V i (vs i) x))->Q .normal a x):(Code.region id l.toArray aG).wp P Q base W:=by
 have hbl:bb<W.heap.size:=jk.lt;refine ng (fun L a x=>InY l N S C d last V t bb old Jr base W L a x) hm hf ?_ ?_ ?_
 ·exact⟨fun i o h=>absurd h (fP _ _),fun i _=>fP _ _,rfl,rfl,fun _ _=>rfl,⟨⟨fun _ _ _=>rfl,aL _⟩,fun B hB=>(Below.refl _ _).drew⟩,⟨fun _=>.bool aG,fun i _ _ h=>absurd h (fP _ _)⟩,fun _=>⟨(Below.refl _ _).drew,jk⟩,fun h=>absurd h (fP _ _)⟩
 ·intro L a x i o hsz I ho hnd kP;have hi:i<l.length:=(List.getElem?_eq_some_iff.1 ho).1;have M9:i<N:=by omega
  have uz:i<L.size:=by omega
  obtain⟨vs,hvs⟩:=I.val;obtain⟨oS,Az⟩:∃ oS,l[S]?=Y oS:=⟨_,O (by omega)⟩;have hon:∀ e∈o.after,aA .any e=aG->e.on<i:=fun e he hb=>by
   have h7:=List.all_eq_true.1 hf i (List.mem_range.2 (by simpa using hi));have ho':(l.toArray)[i]?=Y o:=by simpa using ho
   rw [ho'] at h7;have h8:=Array.all_eq_true'.1 h7 e he;rw [hb] at h8;simpa using h8
  have dd:∀ {k},k≠i->done (L.setIfInBounds i aG) k->done L k:=fun {k} h h5=>((fK uz k).1 h5).resolve_left h;have du:∀ {k},done L k->done (L.setIfInBounds i aG) k:=fun {k} h=>(fK uz k).2 (Or.inr h);have cl':∀ k q,done (L.setIfInBounds i aG) k->l[k]?=Y q->∀ e∈q.after,aA .any e=aG->done (L.setIfInBounds i aG) e.on:=fun k q hk hq e he hb=>by
   by_cases e2:k=i
   ·subst e2;rw [hq] at ho;cases ho;exact du (kP e he hb)
   ·exact du (I.cl k q (dd e2 hk) hq e he hb)
  have no':∀ k,N<=k->¬ done (L.setIfInBounds i aG) k:=fun k hk h=>I.no k hk (dd (by omega) h);have early:∀ k,k<N->k≠S->fl k=aJ->¬ done L k->¬ done L S:=fun k hk wK RI hnk hdS=>by
   obtain⟨e,h1,h2,h3⟩:=hfl oS Az k hk wK RI;exact hnk (h3 ▸ I.cl S oS hdS Az e h1 h2)
  by_cases wE:i=S
  ·subst wE;have dC:done L C:=by
    obtain⟨e,h1,h2,h3⟩:=hfl o ho C hC hCS UR;exact h3 ▸ kP e h1 h2
   obtain⟨v1,v2⟩:=hvs C hC hCS dC;have vC:=v2 (I.no _ Ux);obtain⟨b1,b2⟩:=I.box hnd;refine XP o ho a x (vs C) b1 b2 (dL v1) vC (fun j u hu hj=>dL (by rw [I.kp j hj]; exact hu)) _ (fun x' q1 q2 q3 q4=>⟨cl',no',I.df,I.sz,I.kp,⟨⟨fun k hk hne=>(q1.1 k (aI hk b1.size) hne).trans (I.Xo.1.1 k hk hne),J b1.size q1.2⟩,fun B hB=>q2 B W hB (I.Xo.2 B hB)⟩,⟨vs,fun k hk wK hdn=>?_⟩,fun hn=>absurd ((fK uz _).2 (Or.inl rfl)) hn,fun _=>⟨vs C,v1,q3,?_⟩⟩)
   ·obtain⟨w1,w2⟩:=hvs k hk wK (dd wK hdn);refine⟨w1,fun hnl=>?_⟩;rcases hlast k hk wK with h5|⟨h5,h6,h7⟩
    ·exact q4 k _ hk wK h5 (w2 (I.no _ h5))
    ·exfalso;obtain⟨e,g1,g2,g3⟩:=hfl o ho (last k) h5 h6 h7;exact hnl (du (g3 ▸ kP e g1 g2))
   ·exact q4 C _ hC hCS Ux vC
  ·have seen:PU i N S d last V base o a x:=⟨fun j u hj hu=>dL (by rw [I.kp j hj]; exact hu),fun e he hb hS' hl=>by
    obtain⟨h1,h2⟩:=hvs e.on (by have:=hon e he hb; omega) hS' (kP e he hb);rw [dL h1];refine h2 ?_;rcases hl with hl|hl
    ·rw [hl]; exact hnd
    ·exact I.no _ hl⟩
   refine hop i o M9 wE ho a x (fun hfi=>I.box (early i M9 wE hfi hnd)) seen _ (fun v x' hpv hb=>?_);have self:(a.put (Y (d i)) v).tmps[d i]?=Y v:=by
    have h5:d i<a.tmps.size:=by rw [I.sz]; exact hs i M9 wE
    simp [Act.put,h5]
   have keep:∀ k,k<N->k≠S->k≠i->(a.put (Y (d i)) v).tmps[d k]?=a.tmps[d k]?:=fun k hk wK hki=>get_put _ _ _ _ (fun e=>hki (hinj _ _ hk M9 wK wE e));refine⟨cl',no',I.df,by rw [size_put]; exact I.sz,fun j hj=>?_,I.Xo.grow hbl hb,⟨fun k=>if k=i then v else vs k,fun k hk wK hdn=>?_⟩,fun h2=>?_,fun h1=>?_⟩
   ·rw [get_put _ _ _ _ (fun e=>hj i M9 e.symm)];exact I.kp j hj
   ·by_cases e:k=i
    ·subst e;simp only [if_true];exact⟨self,fun _=>hpv⟩
    ·simp only [if_neg e];obtain⟨h3,h4⟩:=hvs k hk wK (dd e hdn);exact⟨by rw [keep k hk wK e]; exact h3,fun h6=>hV k _ _ _ hk (h4 (fun h=>h6 (du h))) hb⟩
   ·obtain⟨b1,b2⟩:=I.box (fun h=>h2 (du h));exact⟨b1.trans (hb.mono b1.size),b2.on hb⟩
   ·have h2:=dd (Ne.symm wE) h1;obtain⟨u,h6,h8,h9⟩:=I.fin h2;obtain⟨ec,k4,k5,k6⟩:=hfl oS Az C hC hCS UR;have dC:=I.cl S oS h2 Az ec k4 k5;rw [k6] at dC;have eC:C≠i:=fun e=>hnd (e ▸ dC);exact⟨u,by rw [keep C hC hCS eC]; exact h6,h8.on hb,hV C _ _ _ hC h9 hb⟩
 ·intro L a x I hd;have dS:=hd S (by omega);obtain⟨v,h2,h4,h5⟩:=I.fin dS;obtain⟨vs,hvs⟩:=I.val;exact hend a x v I.df I.sz I.kp h2 h4 h5 I.Xo ⟨vs,fun i hi wE=>by
   obtain⟨k1,k2⟩:=hvs i hi wE (hd i (by omega));exact⟨k1,fun hl=>k2 (I.no _ hl)⟩⟩
end Rg
end Go.Proofs.YtghlpefopidlaaaGreat
