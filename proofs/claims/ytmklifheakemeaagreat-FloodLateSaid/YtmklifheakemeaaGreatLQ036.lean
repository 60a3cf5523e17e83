/-
  The document's own M. Conditions as told.
-/
import Derived.Test.YtmklifheakemeaaGreatLQ035
import Derived.Test.YtmklifheakemeaaGreatLQ028
import Derived.Test.YtmklifheakemeaaGreatLQ032
set_option maxRecDepth 100000
set_option maxHeartbeats 64000000
open _root_.Go renaming World->L,Value->Z
open Go.Lib renaming hid->K
open _root_.List renaming length_append->J,length_map->O,length_take->Q,length_drop->U,mem_append->X
open _root_.Nat renaming le_succ->D,le_refl->V,le_trans->Y
namespace Go.Proofs.YtmklifheakemeaaGreat
namespace Rl
open Go.RowKit Go.Sort Pu Rw Pr Va
theorem JZ {W:L} {nA bv:Z} {a b:List Cn} (ha:eY W nA (a.map r5)) (hb:eY W bv (b.map r5)) (la:a.length<=5) (lb:b.length<=5) :
  ∃ v1 w1 v2 w2,(Builtin.append_ #[32,32] 32 #[.slice (some ⟨W.heap.size,0,none⟩) 0 0,nA]).run Tryz.prog (W.alloc (.cells #[] 70))=.ok v1 w1 /\
   (Builtin.append_ #[32,32] 32 #[v1,bv]).run Tryz.prog w1=.ok v2 w2/\eY w2 v2 ((a++b).map r5)/\Below W.heap.size W w2:=by
 have b0:=(Below.refl W.heap.size W).alloc (V _) (.cells #[] 70);obtain⟨v1,w1,r1,o1,g1⟩:=xJ W.heap.size (lq W) (ha.on b0) (by simp) (by rw [O]; omega) (by simp);have b1:=b0.grown g1 b0.size (fun j hj=>((lq W).lt j hj).1);obtain⟨v2,w2,r2,o2,g2⟩:=xJ W.heap.size o1 (hb.on b1) (by simp; omega) (by rw [O]; omega) b1.size;have b2:=b1.grown g2 b1.size (fun j hj=>(o1.lt j hj).1);exact⟨v1,w1,v2,w2,r1,r2,by rw [List.map_append]; exact Row.dG (by simpa using o2),b2⟩
theorem Ch (nA bv:Z) (a b:List Cn) (w:L) (ha:eY w nA (a.map r5)) (hb:eY w bv (b.map r5)) (na:NF a) (nb:NF b):Calls Tryz.prog 46 #[nA,bv] w fun e w'=>e=.returned (.bool (oh a b))/\Below w.heap.size w w':=by
 obtain⟨v1,w1,v2,w2,r1,r2,ro,b2⟩:=JZ ha hb na.five nb.five;have B2:=K b2;have MK:=K (JY v2 (a++b) w2 ro (by have:=na.five; have:=nb.five; simp; omega));have RB:=K (K9 (b:=b) na.rise);have MR:=K (La (b:=b) na.rise na.five);rw [RB.out] at MK;generalize iL a b=res at *;generalize oh a b=r at *;clear ha hb na nb ro b2 RB;go_enter Tryz.func46,Tryz.ntmps46;go_wp2_with (first | (at_builtin; refine wpList_append_run rfl _ _ 32 rfl rfl rfl r1 ?_) | (at_builtin; refine wpList_append_run rfl _ _ 32 rfl rfl rfl r2 ?_) | fail);refine MK.out.mono ?_;rintro e3 w3 ⟨hb3,h3⟩;have B3:=K (B2.out.trans (hb3.mono B2.out.size));clear hb3 MK r1 r2;rcases res with _|p
 ·have R:=K (show r=false from MR.out);obtain rfl:=h3;clear MR;go_wp2;go_ret;exact⟨dP R.out.symm,B3.out⟩
 ·obtain⟨v,rfl,hp⟩:=h3;obtain⟨po,pc,rfl⟩:=hp.len;have R:=K (show r=decide (p.length<=5) from MR.out);rw [O];clear MR hp;by_cases h5:p.length<=5
  ·have d1:decide ((p.length:Int)<=5)=true:=by simp; omega
   have R2:=K (show r=true by rw [R.out]; simpa using h5);clear R h5;go_wp2;go_ret;exact⟨dP R2.out.symm,B3.out⟩
  ·have d1:decide ((p.length:Int)<=5)=false:=by simp; omega
   have R2:=K (show r=false by rw [R.out]; simpa using h5);clear R h5;go_wp2;go_ret;exact⟨dP R2.out.symm,B3.out⟩
end Rl
namespace Bk
open Go.RowKit Go.Sort Rw YtmklifheakemeaaGreat.Nm Pr Rl
def fJ (p q:List C5):Bool:=oh (p.map Sc) (q.map Sc)
theorem GV (nA bv:Z) (p q:List C5) (w:L) (ha:eY w nA p) (hb:eY w bv q) (hp:dW p) (hq:dW q) :
  Calls Tryz.prog 46 #[nA,bv] w fun e w'=>e=.returned (.bool (fJ p q))/\Below w.heap.size w w':=by
 obtain⟨a,na,rfl⟩:=hp;obtain⟨b,nb,rfl⟩:=hq;unfold fJ;rw [lZ,lZ];exact Ch nA bv a b w ha hb na nb
def fK (s:Br×List Ou) (mt:Bool) (e:En) (sO:Int):Br×List Ou:=if mt=false then s else ((iB s.1 e).1,if (iB s.1 e).2=true then s.2++[BP sO e] else s.2)
theorem Nk {b:Br} {e:En} (R:En->Prop) (h:∀ q∈b.ent,R q) (he:∀ u,R { e with up:=u }):∀ q∈(iB b e).1.ent,R q:=by
 unfold iB
 split
 ·exact h
 ·split
  ·exact h
  ·split
   ·exact h
   ·split
    ·exact h
    ·intro q hq;rcases X.1 hq with h1|h1
     ·rcases X.1 h1 with h2|h2
      ·exact h q (List.mem_of_mem_take h2)
      ·rw [List.mem_singleton.1 h2];exact he _
     ·exact h q (List.mem_of_mem_drop h1)
theorem Nl (b:Br) (e:En):(iB b e).1.ent.length<=b.ent.length+1:=by
 unfold iB
 split
 ·exact D _
 ·split
  ·exact D _
  ·split
   ·exact D _
   ·split
    ·exact D _
    ·show (fC _ _ _).length<=_;unfold fC;rw [J,J,Q,U];simp;omega
structure GY (b0 b:Br) (k:Nat):Prop where
 me:b.me=b0.me
 near:b.near=b0.near
 dV:b.dV=b0.dV
 seen:b.seen=b0.seen
 own:b.own=b0.own
 len:b.ent.length<=b0.ent.length+k
theorem GY.add {b0 b:Br} {k:Nat} (h:GY b0 b k) (e:En):GY b0 (iB b e).1 (k+1):=by
 obtain⟨h1,h2,h3,h4,h5⟩:=yU b e;exact⟨h1.trans h.me,h2.trans h.near,h3.trans h.dV,h4.trans h.seen,h5.trans h.own,by have:=Nl b e; have:=h.len; omega⟩
theorem GY.succ {b0 b:Br} {k:Nat} (h:GY b0 b k):GY b0 b (k+1):=⟨h.me,h.near,h.dV,h.seen,h.own,by have:=h.len; omega⟩
theorem GY.step {b0:Br} {s:Br×List Ou} {k:Nat} (h:GY b0 s.1 k) (mt:Bool) (e:En) (t:Int):GY b0 (fK s mt e t).1 (k+1):=by
 unfold fK
 split
 ·exact h.succ
 ·exact h.add e
theorem Nn {s:Br×List Ou} (mt:Bool) (e:En) (t:Int) (R:En->Prop) (h:∀ q∈s.1.ent,R q) (he:∀ u,R { e with up:=u }):∀ q∈(fK s mt e t).1.ent,R q:=by
 unfold fK
 split
 ·exact h
 ·exact Nk R h he
theorem Np {s:Br×List Ou} (mt:Bool) (e:En) (t:Int):(fK s mt e t).2.length<=s.2.length+1:=by
 unfold fK
 split
 ·exact D _
 ·show (if _ then _ else _:List Ou).length<=_
  split
  ·simp
  ·exact D _
def dU {α:Type} (l:List α) (f:Br×List Ou->α->Br×List Ou) (s0:Br×List Ou) (k:Nat):Br×List Ou:=(l.take k).foldl f s0
theorem jy {α:Type} {l:List α} {k:Nat} {a:α} (f:Br×List Ou->α->Br×List Ou) (s0:Br×List Ou) (h:l[k]?=some a):dU l f s0 (k+1)=f (dU l f s0 k) a:=by
 unfold dU;rw [List.take_add_one,h,List.foldl_append]
 rfl
theorem kS {α:Type} {l:List α} {b0:Br} {o0:List Ou} (mt:α->Bool) (e:α->En) (t:α->Int) (R:En->Prop) (h0:∀ q∈b0.ent,R q) (hR:∀ a∈l,∀ u,R { e a with up:=u }):∀ k,k<=l.length->GY b0 (dU l (fun s a=>fK s (mt a) (e a) (t a)) (b0,o0) k).1 k/\(∀ q∈(dU l (fun s a=>fK s (mt a) (e a) (t a)) (b0,o0) k).1.ent,R q)/\(dU l (fun s a=>fK s (mt a) (e a) (t a)) (b0,o0) k).2.length<=o0.length+k
 | 0,_=>⟨⟨rfl,rfl,rfl,rfl,rfl,V _⟩,h0,V _⟩
 | k+1,hk=>by
  obtain⟨a,ha⟩:∃ a,l[k]?=some a:=⟨_,List.getElem?_eq_getElem hk⟩;obtain⟨h1,h2,h3⟩:=kS mt e t R h0 hR k (by omega) (o0:=o0);rw [jy _ _ ha];exact⟨h1.step _ _ _,Nn _ _ _ R h2 (hR a (List.mem_of_getElem? ha)),Y (Np _ _ _) (by omega)⟩
def gJ (near:List Int) (but kind:Int) (t x:Id) (p:List C5):List Ou:=(near.filter fun n=>n != but).map fun n=>⟨n,kind,t,x,p⟩
abbrev mV (x:Id) (o:Ow):En:=⟨x,o.id,o.p,-1,false⟩
abbrev iV (f:Int) (x:Id) (p:List C5) (s:Br×List Ou) (o:Ow):Br×List Ou:=fK s (fJ o.p p) (mV x o) f
def fD (b:Br) (f:Int) (x:Id) (p:List C5):Br×List Ou:=if (eO b ⟨x,p,f⟩).2=false then ((eO b ⟨x,p,f⟩).1,[]) else
 dU (eO b ⟨x,p,f⟩).1.own (iV f x p) ((eO b ⟨x,p,f⟩).1,gJ b.near f 1 x (0,0) p) (eO b ⟨x,p,f⟩).1.own.length
abbrev lI (x:Id) (p:List C5) (a:Ad):En:=⟨a.id,x,p,-1,false⟩
abbrev iN (x:Id) (p:List C5) (s:Br×List Ou) (a:Ad):Br×List Ou:=fK s (fJ p a.p) (lI x p a) a.par
def ownIn (b:Br) (x:Id) (p:List C5):Br:={ b with own:=fC b.own (fU (b.own.map Ow.id) x) ⟨x,p⟩ }
def iE (b:Br) (x:Id) (p:List C5):Br×List Ou:=if (b.own[fU (b.own.map Ow.id) x]?).map Ow.id=some x then (b,[]) else
 dU b.dV (iN x p) (ownIn b x p,[]) b.dV.length
theorem kH (b:Br) (a:Ad):(eO b a).1.me=b.me/\(eO b a).1.near=b.near/\(eO b a).1.ent=b.ent/\(eO b a).1.own=b.own:=by
 unfold eO
 split <;> exact⟨rfl,rfl,rfl,rfl⟩
theorem yV (b:Br) (a:Ad):(eO b a).1.dV.length<=b.dV.length+1/\(eO b a).1.seen.length<=b.seen.length+1:=by
 unfold eO
 split
 ·exact⟨D _,D _⟩
 ·constructor <;> (show (fC _ _ _).length<=_; unfold fC; rw [J,J,Q,U]; simp; omega)
end Bk
namespace Bk
open Go.RowKit Go.Sort Rw YtmklifheakemeaaGreat.Nm Pr
open Av
def qX (W1 W:L) (G9 ev:Sl) (vW lx:List gW):Prop:=(ev=G9/\lx=vW)\/jZ W W1.heap.size (dO ev) lx
theorem qY {W1 W:L} {k:Nat} {me:Int} {s1 s2 s3 s4 s5:Sl} {v:Z} {p:List C5} (hb:dI W1 k (jl me s1 s2 s3 s4 s5) 28) (hk:But k W1 W) (h:eY W1 v p):eY W v p:=iH p9 h hk.1 (oV hb (oW me s1 s2 s3 s4 s5))
theorem vX {W1 W:L} {k:Nat} {me:Int} {s1 s2 s3 s4 s5:Sl} {l:List gW} {m:List En} (hb:dI W1 k (jl me s1 s2 s3 s4 s5) 28) (hk:But k W1 W) (h:eZ (jQ W1) l m):eZ (jQ W) l m:=h.mono fun _ _ hx=>⟨hx.1,hx.2.1,hx.2.2.1,hx.2.2.2.1,qY hb hk hx.2.2.2.2⟩
theorem Ci {W1 W:L} {k:Nat} {me:Int} {s1 s2 s3 s4 s5:Sl} {l:List mg} {m:List Ou} (hb:dI W1 k (jl me s1 s2 s3 s4 s5) 28) (hk:But k W1 W) (h:eZ (sP W1) l m):eZ (sP W) l m:=MJ h hb hk.1
theorem qX.row {W1 W:L} {k:Nat} {me:Int} {s1 s2 s3 s4 s5:Sl} {G9 ev:Sl} {vW lx:List gW} (hb:dI W1 k (jl me s1 s2 s3 s4 s5) 28) (hk:But k W1 W) (h1:kr W1 (dO G9) vW) (h:qX W1 W G9 ev vW lx):kr W (dO ev) lx:=by
 rcases h with⟨rfl,rfl⟩|h
 ·exact iH nH h1 hk.1 (kQ hb (fun c=>⟨_,_,rfl,rfl⟩) (lW me s1 s2 s3 s4 s5))
 ·exact Row.dG h
theorem qZ {W1 W:L} {k:Nat} {me:Int} {s1 s2 s3 s4 s5:Sl} {b1 b:Br} {q:Nat} {nv av sv G9 ov ev:Sl} {vW lx:List gW} (hb:dI W1 k (jl me s1 s2 s3 s4 s5) 28) (hk:But k W1 W) (hI:lS W1 b1 nv av sv G9 ov) (hn:uW W (dO nv) b1.near) (h1:kr W1 (dO G9) vW) (h:qX W1 W G9 ev vW lx) (ha:eZ (jQ W1) lx b.ent) (hs:GY b1 b q):lS W b nv av sv ev ov:=by
 have h2:=mJ hI hb hk.1 hn;exact⟨by rw [hs.near]; exact h2.near,by rw [hs.dV]; exact h2.dV,by rw [hs.seen]; exact h2.seen,⟨lx,h.row hb hk h1,vX hb hk ha⟩,by rw [hs.own]; exact h2.own⟩
theorem But.below {k:Nat} {a b c:L} (h:But k a b) (hb:Below b.heap.size b c):But k a c:=h.trans (But.of_below hb)
theorem qX.on {W1 W W':L} {G9 ev:Sl} {vW lx:List gW} (h:qX W1 W G9 ev vW lx) (hb:Below W.heap.size W W'):qX W1 W' G9 ev vW lx:=h.imp id fun h=>Bk.dJ h hb
theorem fu (w:L) (b:Nat) (a0 a1 a2 a3 a4 a5:Z):But b w (iF w b a0 a1 a2 a3 a4 a5):=⟨fun j _ hj=>iw w b a0 a1 a2 a3 a4 a5 j hj,by simp [iF]⟩
theorem He {W1 W W':L} {k B:Nat} {G9 ev:Sl} {vW lx:List gW} {v:Z} {lo:List mg} (hF:B=W1.heap.size) (ho:vL W B v lo) (gr:W.grownBy W' v.ownBlock) (hk:But k W1 W) (h:qX W1 W G9 ev vW lx):But k W1 W'/\qX W1 W' G9 ev vW lx/\(∀ bb cs t,bb<B->dI W bb cs t->dI W' bb cs t):=by
 subst hF;have hne:∀ j,j<W1.heap.size->some j≠v.ownBlock:=fun j hj e=>by have:=(ho.lt j e.symm).1; omega
 refine⟨⟨fun j hj hn=>(gr.block j (Nat.lt_of_lt_of_le hj hk.2) (hne j hj)).trans (hk.1 j hj hn),Y hk.2 gr.size⟩,h.imp id fun h=>uS ho gr h (by decide),fun bb cs t hl hb=>(gr.block bb hb.lt (hne bb hl)).trans hb⟩
end Bk
end Go.Proofs.YtmklifheakemeaaGreat
