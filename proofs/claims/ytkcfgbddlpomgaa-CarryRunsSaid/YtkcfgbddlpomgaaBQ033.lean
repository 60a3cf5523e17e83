/-
  broadsidekeep.Side: . Conditions as told.
-/
import Derived.Test.YtkcfgbddlpomgaaBQ018
set_option maxRecDepth 100000
set_option maxHeartbeats 64000000
open _root_.Bool renaming false->ak,true->aN
open Go.Builtin renaming copy_->aA,append_->aK
open Go.Ending renaming returned->aB
open Go.Instr renaming sliceAt->Z
open Go.IntKind renaming i64->Y,wrap_i64->aH
open Go.Lib renaming hid->D
open Go.Obj renaming cells->V
open Go.Proofs.Try renaming prog->U,ntmps22->aJ,func22->aL,results72->aM
open Go.RowKit.Below renaming refl->ay
open Go.Value renaming slice->J,string->K,int->X,bool->aC
open _root_.List renaming getElem?_eq_getElem->ah,length_map->au,mem_of_getElem?->aD,getElem?_map->aG
open _root_.Nat renaming le_refl->aj,lt_or_ge->aF,zero_le->aI
open _root_.Option renaming none->L,some->O
namespace Go.Proofs.Ytkcfgbddlpomgaa
namespace Bk
open Go.RowKit Go.Sort Rw Ytkcfgbddlpomgaa.Nm Pr
end Bk
namespace Av
open Go.RowKit Go.ChangeShapes Go.WideShapes Bk
end Av
namespace Va
open Go.RowKit
end Va
namespace At
open Go.RowKit Go.Sort Va In
theorem nW:∀ (l:List A4) (n:ByteArray) (k:Nat) (x:A4),l[k]?=O x->x.1=n->(∀ (j:Nat) (y:A4),j<k->l[j]?=O y->y.1≠n)->kF l n=O x.2
 | [],n,k,x,h,_,_=>by simp at h
 | y::r,n,0,x,h,e,_=>by simp at h; subst h; simp [kF,e]
 | y::r,n,k+1,x,h,e,hn=>by
  simp only [kF];rw [if_neg (hn 0 y (by omega) rfl),nW r n k x (by simpa using h) e (fun j z hj hz=>hn (j+1) z (by omega) (by simpa using hz))]
theorem vB (l:List A4) (n:ByteArray) (h:∀ (j:Nat) (y:A4),j<l.length->l[j]?=O y->y.1≠n):kF l n=L :=
 get_none l n fun x hx=>by
  obtain⟨j,hj,e⟩:=List.getElem_of_mem hx;exact h j x hj (by rw [ah hj,e])
theorem Er:Ea:=by
 intro lv l n w hl h5 hn;have HL:=D hl;obtain⟨lo,lc,rfl⟩:=hl.len;have B0:=D (show Below w.heap.size w (w.alloc (V #[aC ak,X Y 0,K ⟨#[]⟩] 73)) from (ay _ _).alloc (aj _) _);have HT0:=D (dB w ak 0 ⟨#[]⟩);clear hl;go_enter Try.func72,Try.ntmps72;go_wp2;generalize w.alloc (V #[aC ak,X Y 0,K ⟨#[]⟩] 73)=w1 at B0 HT0 ⊢
 go_loopw [10] (fun i wr=>∃ k:Nat,k<=l.length/\i=X Y k/\Below w.heap.size w wr/\gZ wr w.heap.size ak 0 ⟨#[]⟩/\∀ (j:Nat) (y:A4),j<k->l[j]?=O y->y.1≠n) (fun i _=>l.length-(intOf i).toNat)
 case atStart=>exact⟨0,aI _,rfl,B0.out,HT0.out,fun j y h=>by omega⟩
 case round =>
  obtain⟨k,hk,rfl,hb,ht,hall⟩:=hrel;have HB:=D hb;have HT:=D ht;have AL:=D hall;clear hb hall ht;by_cases hlt:k<l.length
  ·obtain⟨⟨xn,xt,xi,xs⟩,hx⟩:∃ x,l[k]?=O x:=⟨_,ah hlt⟩;obtain⟨p,ix,px⟩:=uO HL.out rfl rfl hx;obtain⟨p0,p1,p2,p3⟩:=px _ HB.out;have HX:=D hx;have B4:=D (HB.out.alloc HB.out.size (V #[K xn,aC xt,X Y xi,K xs] 75));have T4:=D (HT.out.more (V #[K xn,aC xt,X Y xi,K xs] 75));clear hx px;simp only at p0 p1 p2 p3;by_cases he:xn=n
   ·have hn:(xn.toList == n.toList)=aN:=by rw [he]; exact beq_self_eq_true _
    have R:=D (nW l n k _ HX.out he AL.out);have HE:=D he;clear he;have c0:=HT.out.cell 0;have c1:=HT.out.cell 1;have c2:=HT.out.cell 2;simp at c0 c1 c2;have f0:=HT.out.fr 0;have f1:=HT.out.fr 1;have f2:=HT.out.fr 2;have BP:=HT.out.lt;go_wp2;have T5:=(HT.out.D9 xt xi xs).more (V #[K xn,aC xt,X Y xi,K xs] 75);have B5:=(jI HB.out (aj _) xt xi xs).alloc (jI HB.out (aj _) xt xi xs).size (V #[K xn,aC xt,X Y xi,K xs] 75);unfold xI at T5 B5;generalize World.alloc _ (V #[K xn,aC xt,X Y xi,K xs] 75)=w6 at T5 B5 ⊢;have d0:=T5.cell 0;have d1:=T5.cell 1;have d2:=T5.cell 2;simp at d0 d1 d2;refine bodyPost_ret (v:=rE (O (xt,xi,xs))) (by simp [results,aM,go_sem,d0,d1,d2,rE]) rfl ⟨by rw [R.out],B5⟩
   ·have hn:(xn.toList == n.toList)=ak:=by rw [beq_eq_false_iff_ne]; exact fun h=>he (iX h)
    have HE:=D he;clear he;go_wp2
    go_roundw
    case rel=>exact⟨k+1,by omega,by go_num,B4.out,T4.out,fun j y hj hy=>by
     rcases aF j k with h3|h3
     ·exact AL.out j y h3 hy
     ·obtain rfl:j=k:=by omega
      have e:=HX.out;rw [hy] at e;rw [Option.some.inj e];exact HE.out⟩
    case measure=>simp [intOf]; omega
  ·obtain rfl:k=l.length:=by omega
   have R:=D (vB l n (fun j y hj hy=>AL.out j y hj hy));have c0:=HT.out.cell 0;have c1:=HT.out.cell 1;have c2:=HT.out.cell 2;simp at c0 c1 c2;have f0:=HT.out.fr 0;have f1:=HT.out.fr 1;have f2:=HT.out.fr 2;have BP:=HT.out.lt;go_wp2;have T5:=HT.out.D9 ak 0 ⟨#[]⟩;have B5:=jI HB.out (aj _) ak 0 ⟨#[]⟩;unfold xI at T5 B5;generalize World.setCell _ _ (K ⟨#[]⟩)=w6 at T5 B5 ⊢;have d0:=T5.cell 0;have d1:=T5.cell 1;have d2:=T5.cell 2;simp at d0 d1 d2;refine bodyPost_ret (v:=rE L) (by simp [results,aM,go_sem,d0,d1,d2,rE]) rfl ⟨by rw [R.out],B5⟩
end At
namespace Rl
open Go.RowKit Go.Sort Pu Rw Pr Va
def rJ (l:List An) (c:Cn):Bool:=match At.kF l c.1 with
 | some v=>cZ c.2 v
 | none=>ak
theorem qw:∀ (l:List An) (n:ByteArray),At.kF l n=(l.find? fun a=>decide (a.1=n)).map (·.2)
 | [],n=>rfl
 | x::r,n=>by
  simp only [At.kF,List.find?_cons];by_cases h:x.1=n
  ·simp [h]
  ·simp [h,qw r n]
theorem vD {p:List Cn} {l:List An} (h:NL l):ku p l=p.all (rJ l):=by
 rw [uN h.nodup]
 congr 1
 funext c
 unfold rJ;rw [qw];cases l.find? fun a=>decide (a.1=c.1) <;> rfl
theorem sZ {α:Type} (f:α->Bool) (l:List α) (m:Nat) (h:l.length=m):(l.take m).all f=l.all f:=by rw [<- h,List.take_length]
theorem vE (pv lv:Value) (p:List Cn) (l:List An) (w:World) (hp:gL w pv (p.map r5)) (hl:kX w lv l) (np:NF p) (nl:NL l) :
  Calls U 49 #[pv,lv] w fun e w'=>e=aB (aC (ku p l))/\Below w.heap.size w w':=by
 have CO:=D (vD (p:=p) nl);have HP:=D hp;have HL:=D (Bv.2 hl);have h5:l.length<=100:=by have:=nl.five; omega
 have SM:=D np.small;have m5:p.length<=5:=np.five;obtain⟨ao,ac,rfl⟩:=hp.len;rw [au] at HP ⊢;generalize hm:p.length=m at *;have HM:=D hm;generalize ku p l=r at *;clear hp hl hm np nl;go_enter Try.func49,Try.ntmps49;go_wp2
 go_loopw [11] (fun i wr=>∃ k:Nat,k<=m/\i=X Y k/\Below w.heap.size w wr/\(p.take k).all (rJ l)=aN) (fun i _=>m-(intOf i).toNat)
 case atStart=>exact⟨0,aI _,rfl,ay _ _,rfl⟩
 case round =>
  obtain⟨k,hk,rfl,hb,hall⟩:=hrel;have HB:=D hb;have AL:=D hall;clear hb hall;by_cases hlt:k<m
  ·obtain⟨⟨xn,xk⟩,hx⟩:∃ x,p[k]?=O x:=⟨_,ah (by rw [HM.out]; exact hlt)⟩;obtain⟨q,ix,px⟩:=Gf (x:=r5 (xn,xk)) HP.out rfl (by rw [au]; exact HM.out) (by rw [aG,hx]; rfl);obtain⟨p0,p1,p2,p3,p4⟩:=px _ HB.out;have MO:=D (pJ (rJ l) p k (xn,xk) hx);have NO:=D (fun h=>sF (rJ l) p k (xn,xk) hx h);have SX:=D (SM.out _ (aD hx));have BX:=D (show dh (wr.alloc (V #[K xn,X Y (kN xk),X Y (jO xk),X Y (jP xk),K (kT xk)] 38)) wr.heap.size (cells5 (xn,kN xk,jO xk,jP xk,kT xk)).toArray 38 from dB wr _ _);have B1:=D (HB.out.alloc HB.out.size (V #[K xn,X Y (kN xk),X Y (jO xk),X Y (jP xk),K (kT xk)] 38));have G:=D (At.Er lv l xn (wr.alloc (V #[K xn,X Y (kN xk),X Y (jO xk),X Y (jP xk),K (kT xk)] 38)) (HL.out.on B1.out) h5 (by have:xn.size<=100:=SX.out.1; unfold maxLen; omega));have GC:=D (show rJ l (xn,xk)=match At.kF l xn with
    | some v=>cZ xk v
    | none=>ak from rfl)
   have HO:=D (fun t n s W=>nH (xn,xk) t n s W);obtain⟨gg,hgg⟩:∃ g,rJ l (xn,xk)=g:=⟨_,rfl⟩;rw [hgg] at GC MO NO;simp only [r5] at p0 p1 p2 p3 p4 HO;clear hx px hgg;go_wp2_with fail;refine G.out.mono ?_;rintro e2 w2 ⟨he2,hb2⟩;have B2:=D (B1.out.trans (hb2.mono B1.out.size));obtain⟨x0,x1,x2,x3,x4⟩:=dZ (BX.out.on hb2);simp only at x0 x1 x2 x3 x4;have hwl:wr.heap.size<w2.heap.size:=by have:=hb2.size; simp at this; omega
   rcases hg:At.kF l xn with _|⟨t,n,s⟩
   ·rw [hg] at he2 GC;subst he2;have R:=D (show r=ak by rw [CO.out]; exact NO.out GC.out);clear hb2 G B1 BX ix p0 p1 p2 p3 p4 hg;unfold At.rE;go_wp2;go_ret;exact⟨dN R.out.symm,B2.out.alloc B2.out.size _⟩
   ·rw [hg] at he2 GC;subst he2;clear hb2 G B1 BX ix p0 p1 p2 p3 p4 hg;unfold At.rE;go_wp2_with fail;refine (HO.out _ _ _ _).mono ?_;rintro e3 w3 ⟨rfl,hb3⟩;have B3:=D ((B2.out.alloc B2.out.size (V #[aC t,X Y n,K s] 73)).trans (hb3.mono (B2.out.alloc B2.out.size (V #[aC t,X Y n,K s] 73)).size));rw [<- GC.out];clear hb3 B2 x0 x1 x2 x3 x4 hwl;cases gg
    ·have R:=D (show r=ak by rw [CO.out]; exact NO.out rfl);go_wp2;go_ret;exact⟨dN R.out.symm,B3.out⟩
    ·go_wp2
     go_roundw
     case rel=>exact⟨k+1,by omega,by go_num,B3.out,by rw [MO.out,AL.out]; rfl⟩
     case measure=>simp [intOf]; omega
  ·obtain rfl:k=m:=by omega
   have R:=D (show r=aN by rw [CO.out,<- sZ _ p _ HM.out]; exact AL.out);go_wp2;go_ret;exact⟨dN R.out.symm,HB.out⟩
theorem rM (pv qv:Value) (p b:List Cn) (w:World) (hp:gL w pv (p.map r5)) (hl:gL w qv (b.map r5)) (np:NF p) (nb:NF b) :
  Calls U 69 #[pv,qv] w fun e w'=>e=aB (aC (jS p b))/\Below w.heap.size w w':=by
 have CO:=D (uR (a:=p) nb.rise);have HP:=D hp;have HL:=D hl;have h5:b.length<=100:=by have:=nb.five; omega
 have GP:=D np.fJ;have GB:=D nb.fJ;have m5:p.length<=5:=np.five;obtain⟨ao,ac,rfl⟩:=hp.len;rw [au] at HP ⊢;generalize hm:p.length=m at *;have HM:=D hm;generalize jS p b=r at *;clear hp hl hm np nb;go_enter Try.func69,Try.ntmps69;go_wp2
 go_loopw [11] (fun i wr=>∃ k:Nat,k<=m/\i=X Y k/\Below w.heap.size w wr/\(p.take k).all (rA b)=aN) (fun i _=>m-(intOf i).toNat)
 case atStart=>exact⟨0,aI _,rfl,ay _ _,rfl⟩
 case round =>
  obtain⟨k,hk,rfl,hb,hall⟩:=hrel;have HB:=D hb;have AL:=D hall;clear hb hall;by_cases hlt:k<m
  ·obtain⟨⟨xn,xk⟩,hx⟩:∃ x,p[k]?=O x:=⟨_,ah (by rw [HM.out]; exact hlt)⟩;obtain⟨q,ix,px⟩:=Gf (x:=r5 (xn,xk)) HP.out rfl (by rw [au]; exact HM.out) (by rw [aG,hx]; rfl);obtain⟨p0,p1,p2,p3,p4⟩:=px _ HB.out;have MO:=D (pJ (rA b) p k (xn,xk) hx);have NO:=D (fun h=>sF (rA b) p k (xn,xk) hx h);have GX:=D (GP.out _ (aD hx));have BX:=D (show dh (wr.alloc (V #[K xn,X Y (kN xk),X Y (jO xk),X Y (jP xk),K (kT xk)] 38)) wr.heap.size (cells5 (xn,kN xk,jO xk,jP xk,kT xk)).toArray 38 from dB wr _ _);have B1:=D (HB.out.alloc HB.out.size (V #[K xn,X Y (kN xk),X Y (jO xk),X Y (jP xk),K (kT xk)] 38));have G:=D (rF qv b xn (wr.alloc (V #[K xn,X Y (kN xk),X Y (jO xk),X Y (jP xk),K (kT xk)] 38)) (HL.out.on B1.out) h5);have GC:=D (show rA b (xn,xk)=match zC b xn with
    | some y=>fF y.2 xk
    | none=>ak from rfl)
   obtain⟨gg,hgg⟩:∃ g,rA b (xn,xk)=g:=⟨_,rfl⟩;rw [hgg] at GC MO NO;simp only [r5] at p0 p1 p2 p3 p4;clear hx px hgg;go_wp2_with fail;refine G.out.mono ?_;rintro e2 w2 ⟨he2,hb2⟩;have B2:=D (B1.out.trans (hb2.mono B1.out.size));obtain⟨x0,x1,x2,x3,x4⟩:=dZ (BX.out.on hb2);simp only at x0 x1 x2 x3 x4;have hwl:wr.heap.size<w2.heap.size:=by have:=hb2.size; simp at this; omega
   rcases hg:zC b xn with _|⟨yn,yk⟩
   ·rw [hg] at he2 GC;subst he2;have R:=D (show r=ak by rw [CO.out]; exact NO.out GC.out);clear hb2 G B1 BX ix p0 p1 p2 p3 p4 hg;unfold BO;go_wp2;go_ret;exact⟨dN R.out.symm,B2.out.alloc B2.out.size _⟩
   ·obtain⟨hm1,hm2⟩:=xG hg;obtain rfl:yn=xn:=hm2;rw [hg] at he2 GC;subst he2;have WC:=D (fun W=>uU yn xk yk W GX.out (GB.out _ hm1));simp only [r5] at WC;clear hb2 G B1 BX ix p0 p1 p2 p3 p4 hg hm1;unfold BO;simp only [r5];go_wp2_with fail;refine (WC.out _).mono ?_;rintro e3 w3 ⟨rfl,hb3⟩;have B3:=D ((B2.out.alloc B2.out.size (V #[K yn,X Y (kN yk),X Y (jO yk),X Y (jP yk),K (kT yk)] 38)).trans (hb3.mono (B2.out.alloc B2.out.size (V #[K yn,X Y (kN yk),X Y (jO yk),X Y (jP yk),K (kT yk)] 38)).size));rw [<- GC.out];clear hb3 B2 x0 x1 x2 x3 x4 hwl WC;cases gg
    ·have R:=D (show r=ak by rw [CO.out]; exact NO.out rfl);go_wp2;go_ret;exact⟨dN R.out.symm,B3.out⟩
    ·go_wp2
     go_roundw
     case rel=>exact⟨k+1,by omega,by go_num,B3.out,by rw [MO.out,AL.out]; rfl⟩
     case measure=>simp [intOf]; omega
  ·obtain rfl:k=m:=by omega
   have R:=D (show r=aN by rw [CO.out,<- sZ _ p _ HM.out]; exact AL.out);go_wp2;go_ret;exact⟨dN R.out.symm,HB.out⟩
end Rl
namespace Av
open Go.RowKit Rw Ytkcfgbddlpomgaa.Nm Pr Bk
theorem yj {W:World} {b:Nat} {c:gq} (h:dh W b (fC c).toArray 41):iY W (J (O ⟨b,0,L⟩) 1 1) [c] :=
 Or.inr ⟨⟨b,0,L⟩,1,rfl,by simp,by decide,jL h (by simp [EN])⟩
def mE (B:Nat) (l:List gq) (k:Nat) (c:gq) (vv:Value) (W:World) (e:Ending) (w':World):Prop:=∃ v',e=aB v'/\iZ w' B v' (l.take k++c::l.drop k)/\Below B W w'/\(∀ j,j<W.heap.size->O j≠vv.ownBlock->w'.heap[j]?=W.heap[j]?)
theorem qy (B:Nat) (v:Value) (l:List gq) (c:gq) (b:Nat) (W:World) (ho:iZ W B v l) (hx:dh W b (fC c).toArray 41) (hl:l.length<=900) (hB:B<=W.heap.size) :
  Calls U 22 #[v,X Y (l.length:Nat),J (O ⟨b,0,L⟩) 1 1] W (mE B l l.length c v W):=by
 obtain⟨v',w',hr,ho2,hg⟩:=iq ko B ho (yj hx) (by omega) (by simp) hB 27;have hr:(aK #[27,27] 27 #[v,J (O ⟨b,0,L⟩) 1 1]).run U W=.ok v' w':=hr;have Q:=D (show mE B l l.length c v W (aB v') w' from ⟨v',rfl,by rw [List.take_of_length_le (aj _),List.drop_of_length_le (aj _)]; exact ho2,(ay B W).grown hg hB (fun j hj=>(ho.lt j hj).1),fun j hj hne=>hg.block j hj hne⟩);obtain⟨sx,hs,_⟩:=qM ko (Row.dw ho) l.length (aj _);have hs:∀ w,(Z 27 v (O (X Y l.length)) L L).run U w=.ok sx w:=hs;obtain⟨ao,ac,rfl⟩:=(Row.dw ho).len;clear ho ho2 hg;generalize hn:l.length=n at *;clear hn;go_enter aL,aJ;go_wp2_with (first | (at_builtin; refine wpList_append_run rfl _ _ 27 rfl rfl rfl hr ?_) | fail);go_ret;exact Q.out
theorem yt (w:World) (g b k la lb cb:Nat) (cur cs:Array Value) (hb:dh w b cs 41) (hg:dh w g cur 41) (hne:b≠g) (h0:0<cur.size):(callFunc 46 #[J (O ⟨b,0,L⟩) la 1,J (O ⟨g,k,L⟩) lb cb]).run U w=.ok (.value (aC ak)) w:=by
 rw [run_callFunc_extern Try.func46 (by kernel_rfl) (by kernel_rfl) (by kernel_rfl) (e:=Extern.SlicesOverlaps.overlaps #[27,27] #[4]) (by kernel_rfl),
  Lib.run_overlaps_apart w 27 4 41 Try.underlying27 7 Try.sizeOf41 ⟨b,0,L⟩ ⟨g,k,L⟩ la 1 lb cb hne 41 41 cs.size cur.size hb.shape hg.shape (by omega) (hb.fr 0) (hb.fr _)]
 rfl
theorem nk (B g n cap:Nat) (cur:Array Value) (l:List gq) (k:Nat) (c:gq) (b:Nat) (W:World) (hn:n=l.length) (hBg:B<=g) (hg:dh W g cur 41) (hcm:cap<=maxLen) (hsz:cur.size=cap * 7) (ht:cur.toList.take (n * 7)=flat EN l) (hx:dh W b (fC c).toArray 41) (hne:b≠g) (hk:k<n) (hroom:n+1<=cap) (hl:n<=900) :
  Calls U 22 #[J (O ⟨g,0,L⟩) n cap,X Y k,J (O ⟨b,0,L⟩) 1 1] W (mE B l k c (J (O ⟨g,0,L⟩) n cap) W):=by
 obtain⟨R1,R2,r1,r2,ow⟩:=kg (E:=EN) (l:=l) (k:=k) (cap:=cap) (cur:=cur) (cs:=(fC c).toArray) (c:=c) ko (by omega) (by omega) hsz (by rw [<- hn]; exact ht) g b hne;have hov:=fun lb cb=>yt W g b ((k+1) * 7) 1 lb cb cur (fC c).toArray hx hg hne (by omega);have s0:=eD (E:=EN) ko g k n cap (by omega) (by omega);have s1:=iC (E:=EN) ko ⟨g,0,L⟩ (n+1) n cap (by omega);have s2:=eD (E:=EN) ko g (k+1) (n+1) cap (by omega) (by omega);have s3:=eD (E:=EN) ko g k (n+1) cap (by omega) (by omega);have q1:=r1 W.drew 3 (n+1-(k+1)) (cap-(k+1)) (n+1-k) (cap-k) hg (by omega);have q2:=r2 (W.drew.setRow g R1) 3 (n+1-k) (cap-k) (dh.set (show dh W.drew g cur 41 from hg) R1) (dh.other (show dh W.drew b _ 41 from hx) hne R1) rfl (by omega);have Q:=D (show mE B l k c (J (O ⟨g,0,L⟩) n cap) W (aB (J (O ⟨g,0,L⟩) (n+1) cap)) ((W.drew.setRow g R1).setRow g R2) from ⟨_,rfl,by rw [hn]; exact ow _ B hBg hcm (dh.set (dh.set (show dh W.drew g cur 41 from hg) R1) R2),below_setRow (below_setRow (ay B W).drew hBg _) hBg _,fun j hj hne=>(setRow_other _ g j _ (fun e=>hne (by rw [e]; rfl))).trans (setRow_other _ g j _ (fun e=>hne (by rw [e]; rfl)))⟩);clear r1 r2 ow hg ht hx hsz hBg hcm;change ∀ w,(Z 27 (J (O ⟨g,0,L⟩) n cap) (O (X Y k)) L L).run U w=.ok (J (O ⟨g,k * 7,L⟩) (n-k) (cap-k)) w at s0;change ∀ w,(Z 27 (J (O ⟨g,0,L⟩) n cap) L (O (X Y ((n:Int)+1))) L).run U w=.ok (J (O ⟨g,0,L⟩) (n+1) cap) w at s1;change ∀ w,(Z 27 (J (O ⟨g,0,L⟩) (n+1) cap) (O (X Y ((k:Int)+1))) L L).run U w=.ok (J (O ⟨g,(k+1) * 7,L⟩) (n+1-(k+1)) (cap-(k+1))) w at s2;change ∀ w,(Z 27 (J (O ⟨g,0,L⟩) (n+1) cap) (O (X Y k)) L L).run U w=.ok (J (O ⟨g,k * 7,L⟩) (n+1-k) (cap-k)) w at s3;have e1:((k:Int) == (n:Int))=ak:=by rw [beq_eq_false_iff_ne]; omega
 have e2:decide ((cap:Int)<(n:Int)+1)=ak:=by simp; omega
 change (aA #[27,27] 3 #[J (O ⟨g,(k+1) * 7,L⟩) (n+1-(k+1)) (cap-(k+1)),J (O ⟨g,k * 7,L⟩) (n+1-k) (cap-k)]).run U W.drew=.ok (X Y ((l.length-k:Nat):Int)) (W.drew.setRow g R1) at q1;change (aA #[27,27] 3 #[J (O ⟨g,k * 7,L⟩) (n+1-k) (cap-k),J (O ⟨b,0,L⟩) 1 1]).run U (W.drew.setRow g R1)=.ok (X Y 1) ((W.drew.setRow g R1).setRow g R2) at q2;clear hn;go_enter aL,aJ;go_wp2_with (first | (simp only [hov]) | fail);clear hov s0 s1 s2 s3;have hw1:IntKind.i64.wrap ((k:Int)+1)=(k:Int)+1:=by rw [aH]; omega
 have hb1:(0:Int)<=(k:Int)+1:=by omega
 have hb0:(k:Int)+1<=(n:Int)+1:=by omega
 have htn:((k:Int)+1).toNat=k+1:=by omega
 have hb2:¬ (cap=k+1):=by omega
 have hb3:(k:Int)<=(n:Int)+1:=by omega
 have hb4:¬ (cap=k):=by omega
 have h81:n+1-(k+1)=n-k:=by omega
 rw [h81] at q1;clear h81
 go_region_law (refine fB rfl (.tmp 73) (.tmp 76) 27 rfl (v:=J (O ⟨g,(k+1) * 7,L⟩) (n-k) (cap-(k+1))) (xv:=J (O ⟨g,k * 7,L⟩) (n+1-k) (cap-k)) (by simp [Act.eval,Act.put]) (by simp [Act.eval,Act.put]) q1 ?_)
 all_goals simp only [Exit.then]
 all_goals apply_assumption
 clear q1 hw1 hb1 hb0 htn hb2 hb3 hb4;have s3:=eD (E:=EN) ko g k (n+1) cap (by omega) (by omega);change ∀ w,(Z 27 (J (O ⟨g,0,L⟩) (n+1) cap) (O (X Y k)) L L).run U w=.ok (J (O ⟨g,k * 7,L⟩) (n+1-k) (cap-k)) w at s3;go_wp2_with (first | (at_builtin; refine wpList_copy_run rfl _ _ 27 rfl rfl rfl q2 ?_) | fail);go_ret;exact Q.out
theorem oP (B g n cap:Nat) (cur:Array Value) (l:List gq) (k:Nat) (c:gq) (b:Nat) (W:World) (hn:n=l.length) (hg:dh W g cur 41) (hcm:cap<=maxLen) (hnc:n<=cap) (ht:cur.toList.take (n * 7)=flat EN l) (hx:dh W b (fC c).toArray 41) (hk:k<n) (hroom:cap<n+1) (hl:n<=900) (hB:B<=W.heap.size) :
  Calls U 22 #[J (O ⟨g,0,L⟩) n cap,X Y k,J (O ⟨b,0,L⟩) 1 1] W (mE B l k c (J (O ⟨g,0,L⟩) n cap) W):=by
 have hgw:=hg.lt;have hbw:=hx.lt;obtain⟨G,R1,R2,R3,hG1,hG2,r1,r2,r3,ow⟩:=lG (E:=EN) (l:=l) (k:=k) (cap:=cap) (cur:=cur) (cs:=(fC c).toArray) (c:=c) ko 3 Try.underlying3 (by omega) (by omega) (by omega) (by omega) (by rw [<- hn]; exact ht) W g b hg hbw;unfold maxLen at hcm hG2;have s0:=eD (E:=EN) ko g k n cap (by omega) (by omega);have s1:=iC (E:=EN) ko ⟨g,0,L⟩ k n cap (by omega);have s2:=eD (E:=EN) ko W.heap.size k (n+1) G (by omega) (by omega);have s3:=eD (E:=EN) ko W.heap.size (k+1) (n+1) G (by omega) (by omega);have a1:=r1 27;have n1:=dB W.drew R1 41;have bl:W.drew.heap.size=W.heap.size:=rfl;rw [bl] at n1;have g1:dh (W.drew.alloc (V R1 41)) g cur 41:=dh.more (show dh W.drew g cur 41 from hg) _;have x1:dh (W.drew.alloc (V R1 41)) b (fC c).toArray 41:=dh.more (show dh W.drew b _ 41 from hx) _;have q2:=r2 (W.drew.alloc (V R1 41)) 3 (n+1-k) (G-k) n1 x1 rfl (by omega);have q3:=r3 ((W.drew.alloc (V R1 41)).setRow W.heap.size R2).drew 3 (n+1-(k+1)) (G-(k+1)) (n-k) (cap-k) (dh.set n1 R2) (dh.other g1 (by omega) R2) (by omega);have Q:=D (show mE B l k c (J (O ⟨g,0,L⟩) n cap) W (aB (J (O ⟨W.heap.size,0,L⟩) (n+1) G)) (((W.drew.alloc (V R1 41)).setRow W.heap.size R2).drew.setRow W.heap.size R3) from ⟨_,rfl,by rw [hn]; exact ow _ B hB (dh.set (dh.set n1 R2) R3),below_setRow (below_setRow ((ay B W).drew.alloc hB _) hB _).drew hB _,fun j hj _=>(setRow_other _ W.heap.size j _ (by omega)).trans ((setRow_other _ W.heap.size j _ (by omega)).trans (Array.getElem?_push_lt hj |>.trans (Array.getElem?_eq_getElem hj).symm))⟩);have l1:l.length+1=n+1:=by rw [hn]
 rw [l1,<- hn] at a1;clear r1 r2 r3 ow hg ht hx g1 x1 n1 bl l1;change ∀ w,(Z 27 (J (O ⟨g,0,L⟩) n cap) (O (X Y k)) L L).run U w=.ok (J (O ⟨g,k * 7,L⟩) (n-k) (cap-k)) w at s0;change ∀ w,(Z 27 (J (O ⟨g,0,L⟩) n cap) L (O (X Y k)) L).run U w=.ok (J (O ⟨g,0,L⟩) k cap) w at s1;change ∀ w,(Z 27 (J (O ⟨W.heap.size,0,L⟩) (n+1) G) (O (X Y k)) L L).run U w=.ok (J (O ⟨W.heap.size,k * 7,L⟩) (n+1-k) (G-k)) w at s2;change ∀ w,(Z 27 (J (O ⟨W.heap.size,0,L⟩) (n+1) G) (O (X Y ((k:Int)+1))) L L).run U w=.ok (J (O ⟨W.heap.size,(k+1) * 7,L⟩) (n+1-(k+1)) (G-(k+1))) w at s3;change (aK #[27,3] 27 #[J (O ⟨g,0,L⟩) k cap,X Y ((n:Int)+1-k)]).run U W=.ok (J (O ⟨W.heap.size,0,L⟩) (n+1) G) (W.drew.alloc (V R1 41)) at a1;change (aA #[27,27] 3 #[J (O ⟨W.heap.size,k * 7,L⟩) (n+1-k) (G-k),J (O ⟨b,0,L⟩) 1 1]).run U (W.drew.alloc (V R1 41))=.ok (X Y 1) ((W.drew.alloc (V R1 41)).setRow W.heap.size R2) at q2;change (aA #[27,27] 3 #[J (O ⟨W.heap.size,(k+1) * 7,L⟩) (n+1-(k+1)) (G-(k+1)),J (O ⟨g,k * 7,L⟩) (n-k) (cap-k)]).run U ((W.drew.alloc (V R1 41)).setRow W.heap.size R2).drew=.ok (X Y ((l.length-k:Nat):Int)) (((W.drew.alloc (V R1 41)).setRow W.heap.size R2).drew.setRow W.heap.size R3) at q3;have e1:((k:Int) == (n:Int))=ak:=by rw [beq_eq_false_iff_ne]; omega
 have e2:decide ((cap:Int)<(n:Int)+1)=aN:=by simp; omega
 have hGn:n+1<=G:=by omega
 clear hn;generalize W.heap.size=N at *;generalize W.drew.alloc (V R1 41)=W1 at *;generalize W1.setRow N R2=W2 at *;go_enter aL,aJ;go_wp2_with (first | (at_builtin; refine fU rfl _ _ 27 3 rfl rfl rfl a1 ?_) | (at_builtin; refine wpList_copy_run rfl _ _ 27 rfl rfl rfl q2 ?_) | fail);clear a1 q2 s0 s1 s2 s3;have hw1:IntKind.i64.wrap ((k:Int)+1)=(k:Int)+1:=by rw [aH]; omega
 have hb1:(0:Int)<=(k:Int)+1:=by omega
 have hb0:(k:Int)+1<=(n:Int)+1:=by omega
 have htn:((k:Int)+1).toNat=k+1:=by omega
 have hb2:¬ (G=k+1):=by omega
 have hb3:(k:Int)<=(n:Int):=by omega
 have hb4:¬ (cap=k):=by omega
 have h81:n+1-(k+1)=n-k:=by omega
 rw [h81] at q3;clear h81
 go_region_law (refine fB rfl (.tmp 50) (.tmp 53) 27 rfl (v:=J (O ⟨N,(k+1) * 7,L⟩) (n-k) (G-(k+1))) (xv:=J (O ⟨g,k * 7,L⟩) (n-k) (cap-k)) (by simp [Act.eval,Act.put]) (by simp [Act.eval,Act.put]) q3 ?_)
 all_goals simp only [Exit.then]
 all_goals apply_assumption
 go_wp2;go_ret;exact Q.out
theorem kV (B:Nat) (v:Value) (l:List gq) (k:Nat) (c:gq) (b:Nat) (W:World) (ho:iZ W B v l) (hx:dh W b (fC c).toArray 41) (hne:v.ownBlock≠O b) (hk:k<=l.length) (hl:l.length<=900) (hB:B<=W.heap.size) :
  Calls U 22 #[v,X Y k,J (O ⟨b,0,L⟩) 1 1] W (mE B l k c v W):=by
 rcases aF k l.length with h|h
 ·rcases eH ho with⟨_,h2⟩|⟨g,cap,cur,rfl,h1,h2,h3,h4,h5,h6⟩
  ·rw [h2] at h; simp at h
  ·rcases aF cap (l.length+1) with h7|h7
   ·exact oP B g _ cap cur l k c b W rfl h2 h4 h3 h6 hx h h7 hl hB
   ·exact nk B g _ cap cur l k c b W rfl h1 h2 h4 h5 h6 hx (fun e=>hne (by simp [Value.ownBlock,e])) h h7 hl
 ·obtain rfl:k=l.length:=by omega
  exact qy B v l c b W ho hx hl hB
end Av
end Go.Proofs.Ytkcfgbddlpomgaa
