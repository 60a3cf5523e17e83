/-
  raise of package sub. Conditions as told.
-/
import Derived.Test.YtmklifheakemeaaVQ039
set_option maxRecDepth 100000
set_option maxHeartbeats 64000000
open _root_.Bool renaming true->ay
open Go.Lib renaming hid->D
open Go.Value renaming slice->V,bool->aB
open _root_.List renaming append_assoc->J,mem_of_getElem?->U,getElem?_append_right->X,getElem?_append_left->Y,getElem?_eq_some_iff->Z,getElem?_set_self->aj,take_append_drop->ak,length_take->aA
open _root_.Nat renaming add_sub_cancel_left->O,lt_of_lt_of_le->au
open _root_.Option renaming none->Q,some->ah
namespace Go.Proofs.Ytmklifheakemeaa.Sb
open Go.RowKit Go.Sort Rw Ytmklifheakemeaa.Nm Pr Bk Av Rl
theorem l8 {p:List C5} (h:eO p):p.length<=900:=by
 obtain⟨a,na,rfl⟩:=h;rw [List.length_map];have:=na.five;omega
theorem Jl {α:Type} {E:Ek α} {ob:Option Nat} {W x:World} {B g n cap:Nat} {l:List α} (h:Off ob W x) (ho:Own E W B (V (ah ⟨g,0,Q⟩) n cap) l) (hne:ah g≠ob):Own E x B (V (ah ⟨g,0,Q⟩) n cap) l:=by
 refine⟨ho.1,?_⟩;rcases ho.2 with h2|⟨g',cap',cur,h1,h2,h3,h4⟩
 ·exact Or.inl h2
 ·obtain⟨rfl,_⟩:g=g'/\True:=by simp at h1; exact⟨h1.1,trivial⟩
  exact Or.inr ⟨g,cap',cur,h1,h2,by rw [h.1 g (lt_of_heap h3) hne]; exact h3,h4⟩
theorem DL (g f k K C:Nat) (h:k<K) (w:World):(Instr.indexAt 28 (V (ah ⟨g,f * 7,Q⟩) K C) (.int .i64 k)).run Try.prog w=.ok (.pointer (ah ⟨g,(f+k) * 7,Q⟩)) w:=by
 have h1:(Instr.indexAt 28 (V (ah ⟨g,f * 7,Q⟩) K C) (.int .i64 k)).run Try.prog w=.ok (.pointer (ah ((⟨g,f * 7,Q⟩:Addr).add (k * 7)))) w:=qw kK ⟨g,f * 7,Q⟩ k K C h w;rw [h1];have e:(⟨g,f * 7,Q⟩:Addr).add (k * 7)=⟨g,(f+k) * 7,Q⟩:=by
  rw [Nat.add_mul];by_cases hk:k * 7=0
  ·rw [hk,add_zero,Nat.add_zero]
  ·rw [add_pos _ _ hk]
 rw [e]
theorem Jm {α:Type} {E:Ek α} {W:World} {B g n cap:Nat} {l:List α} (h:Own E W B (V (ah ⟨g,0,Q⟩) n cap) l):B<=g:=by
 rcases fD h with⟨h1,_⟩|⟨g',cap',cur,h1,h2,_⟩
 ·cases h1
 ·obtain⟨rfl,_⟩:g=g'/\True:=by simp at h1; exact⟨h1.1,trivial⟩
  exact h2
theorem But.off {g:Nat} {ob:Option Nat} {w W x:World} (h:But g w W) (ho:Off ob W x) (hb:∀ b,ob=ah b->w.heap.size<=b):But g w x :=
 ⟨fun j hj hne=>(ho.1 j (au hj h.2) fun e=>by have:=hb j e.symm; omega).trans (h.1 j hj hne),Nat.le_trans h.2 ho.2⟩
theorem wW {α:Type} {E:Ek α} {W:World} {B:Nat} {v:Value} {l:List α} (h:Own E W B v l):∀ b,v.ownBlock=ah b->B<=b:=by
 intro b hb;rcases fD h with⟨rfl,_⟩|⟨g',cap',cur,rfl,h2,_⟩
 ·cases hb
 ·obtain rfl:g'=b:=by simpa [Value.ownBlock] using hb
  exact h2
theorem Jo {W:World} {B g n cap f K:Nat} {l:List gM} (ho:jl W B (V (ah ⟨g,0,Q⟩) n cap) l) (hK:f+K<=n) (h0:0<K):jR W (V (ah ⟨g,f * 7,Q⟩) K (cap-f)) ((l.drop f).take K):=by
 have hl:l.length=n:=eY ho;have hnc:n<=cap:=by
  rcases fD ho with⟨h1,_⟩|⟨g',cap',cur,h1,_,_,h4,_⟩
  ·cases h1
  ·obtain⟨_,_,rfl⟩:g=g'/\n=l.length/\cap=cap':=by simpa using h1
   rw [hl] at h4;exact h4
 have h:=(wV (v:=(ah ⟨g,0,Q⟩,n,cap)) (Row.dM ho) f K (by omega)).2;unfold cutV at h;simp only at h;rw [if_neg (by omega),lS] at h;exact h
structure Ra (w0 w wr:World) (B g n cap:Nat) (a c:List En) (s:List En×List En) (v:Value):Prop where
 row:∃ l,jl wr B (V (ah ⟨g,0,Q⟩) n cap) l/\eF (mh w0 B wr) l (a++s.1++c)
 up:∃ lu,jl wr w.heap.size v lu/\eF (mh w0 w.heap.size wr) lu s.2
 but:But g w wr
 low:∀ B' W,B'<=g->Below B' W w->Below B' W wr
theorem DN (w0:World) (B g n cap f K:Nat) (ra:Option Addr) (rc:Nat) (l:List gM) (m:List En) (w:World) (hw0:Below w0.heap.size w0 w) (hB0:w0.heap.size<=B) (ho:jl w B (V (ah ⟨g,0,Q⟩) n cap) l) (hA:eF (mh w0 B w) l m) (Tf:f+K<=n) (hn:n<=900)
  (hra:0<K->ra=ah ⟨g,f * 7,Q⟩/\rc=cap-f) (hok:∀ e∈m,eO e.p) :
  Calls Try.prog 38 #[V ra K rc] w fun e w'=>∃ v':Sl,e=.returned (dR v')/\Ra w0 w w' B g n cap (m.take f) (m.drop (f+K)) (fE ((m.drop f).take K) K) (dR v'):=by
 obtain⟨a,ha⟩:∃ a,m.take f=a:=⟨_,rfl⟩;obtain⟨r,hr⟩:∃ r,(m.drop f).take K=r:=⟨_,rfl⟩;obtain⟨c,hc⟩:∃ c,m.drop (f+K)=c:=⟨_,rfl⟩;have hmn:m.length=n:=by rw [<- hA.len]; exact eY ho
 have hm:m=a++r++c:=by
  rw [<- ha,<- hr,<- hc,J,show m.drop (f+K)=(m.drop f).drop K by rw [List.drop_drop],ak,ak]
 have hal:a.length=f:=by rw [<- ha,aA]; omega
 have hrl:r.length=K:=by rw [<- hr,aA,List.length_drop]; omega
 have hrr:∀ k,(fE r k).1.length=K:=fun k=>by rw [oQ,hrl]
 have hokr:∀ k,∀ e∈(fE r k).1,eO e.p:=fun k=>by
  induction k with
  | zero=>intro e he; exact hok e (by rw [hm]; exact List.mem_append_left _ (List.mem_append_right _ he))
  | succ k ih =>
   rw [jF];unfold jf
   split
   ·exact ih
   ·rename_i e0 he0
    split
    ·exact ih
    ·intro e he;rcases List.mem_or_eq_of_mem_set he with h1|h1
     ·exact ih e h1
     ·rw [h1]; exact ih e0 (U he0)
 rw [ha,hr,hc];have hgw:g<w.heap.size:=by
  obtain⟨cur,hg⟩:=gu ho;exact hg.lt
 have hBg:B<=g:=Jm ho;have R0:Ra w0 w w B g n cap a c (fE r 0) (V Q 0 0):=⟨⟨l,ho,by rw [show a++(fE r 0).1++c=m from hm.symm]; exact hA⟩,⟨[],iJ _ _,.nil⟩,But.of_below (Below.refl _ _),fun _ _ _ h=>h⟩;have W0:=D hw0;have Tg:=D hokr;have RR:=D hrr;have RA:=D hra;have RL:=D hrl;have KG:=D hal;have R0:=D R0;have HB:=D (show w0.heap.size<=g from by omega);clear hw0 ho hA hra hok hm ha hr hc hmn hokr hrr l m hrl hal;go_enter Try.func38,Try.ntmps38;go_wp2
 go_loopw [3,7] (fun v i wr=>∃ k:Nat,k<=K/\i=.int .i64 k/\Ra w0 w wr B g n cap a c (fE r k) v) (fun _ i _=>K-(intOf i).toNat)
 case atStart=>exact⟨0,Nat.zero_le _,rfl,R0.out⟩
 case round =>
  obtain⟨k,hk,rfl,MZ⟩:=hrel;have RX:=D MZ;have hwr:Below w0.heap.size w0 wr:=MZ.low _ _ HB.out W0.out;have WR:=D hwr;clear MZ hwr R0;by_cases hlt:k<K
  ·obtain⟨Qa,Qb⟩:=RA.out (by omega);subst Qa;subst Qb;obtain⟨L,hL,L9⟩:=RX.out.row;have hRk:=RR.out k;obtain⟨s,hs⟩:∃ s,fE r k=s:=⟨_,rfl⟩;have RS:=D (jF r k);have M0:=D (Tg.out k);rw [hs] at L9 hRk RX RS M0;obtain⟨r',us⟩:=s;simp only at L9 hRk M0;obtain⟨e,he⟩:∃ e,r'[k]?=ah e:=⟨_,List.getElem?_eq_getElem (by omega)⟩;have hM:(a++r'++c)[f+k]?=ah e:=by
    rw [J,X (by rw [KG.out]; omega),KG.out,O,Y (by omega)];exact he
   obtain⟨y,hy,hx⟩:=L9.at (f+k) e hM;have ix:=DL g f k K (cap-f) hlt;have cc:=gW kK hL hy wr (Below.refl _ _);obtain⟨cur,hbx⟩:=gu hL;have fr:=hbx.fr ((f+k) * 7+6);have zl:=hbx.lt;obtain⟨y1,y2,y3,y4,⟨yo,yn,yc⟩,y6,y7⟩:=y;have c0:=cc 0 _ rfl;have c1:=cc 1 _ rfl;have c2:=cc 2 _ rfl;have c3:=cc 3 _ rfl;have c4:=cc 4 _ rfl;have c5:=cc 5 _ rfl;have c6:=cc 6 _ rfl;simp [Addr.add,EN] at c0 c1 c2 c3 c4 c5 c6;have CUT:=Jo (f:=f) (K:=K) hL Tf (by omega);have RJ:eF (iC wr) ((L.drop f).take K) r':=by
    have h:=((L9.drop f).take K).mono fun _ _ q=>qV q WR.out;rw [J,List.drop_left' KG.out,List.take_left' hRk] at h;exact h
   obtain⟨t,ht⟩:∃ t,qK r' e.p=t:=⟨_,rfl⟩;have CV:=D (mZ (ah ⟨g,f * 7,Q⟩,K,cap-f) (V yo yn yc) _ r' e.p wr CUT RJ (qV hx WR.out).2.2.2.2 M0.out (M0.out e (U he)));rw [ht] at CV;have HX:=D hx;have HL:=D hL;have Ti:=D L9;have HY:=D hy;have HM:=D hM;have RE:=D (show fE r (k+1)=if y7=ay\/t=ay then (r',us) else (r'.set k (uM e),us++[uM e]) by
    rw [RS.out];unfold jf;simp only [he];rw [ht,<- hx.2.2.2.1])
   have hw3:IntKind.i64.wrap ((k:Int)+1)=(k:Int)+1:=IntWalk.i64_in _ (by omega);have SS:=D hs;have RK:=D hRk;clear cc hbx CUT RJ ht hx hL L9 hy hM he RS hs hRk;cases y7
   ·go_wp2_with fail;refine CV.out.mono ?_;rintro e3 w3 ⟨rfl,hb⟩;clear CV;cases t
    ·have d6:=(hb.cell (p:=⟨g,(f+k) * 7+6,Q⟩) zl).trans c6;have f6:w3.frozen? ⟨g,(f+k) * 7+6,Q⟩=false:=(hb.frozen (p:=⟨g,(f+k) * 7+6,Q⟩) zl).trans fr;have z3:g<w3.heap.size:=au zl hb.size;obtain⟨lu,hu1,hu2⟩:=RX.out.up;obtain⟨o4,_,_⟩:=I5 (Bk.dB HL.out hb) HY.out;have bt:=dL w3 g ((f+k) * 7+6) (aB ay);obtain⟨Tj,hg3⟩:=gu (Bk.dB HL.out hb);have G1:∀ x z,mh w0 B wr x z->mh w0 B (w3.setCell ⟨g,(f+k) * 7+6,Q⟩ (aB ay)) x z:=fun x z q=>(q.grow hb).but bt hg3 (by decide);have G2:∀ x z,mh w0 w.heap.size wr x z->mh w0 w.heap.size (w3.setCell ⟨g,(f+k) * 7+6,Q⟩ (aB ay)) x z:=fun x z q=>(q.grow hb).but bt hg3 (by decide);have O4:=D o4;have A4:=D (eF.set2 (f+k) (Ti.out.mono G1) (show mh w0 B (w3.setCell ⟨g,(f+k) * 7+6,Q⟩ (aB ay)) (y1,y2,y3,y4,(yo,yn,yc),y6,ay) (uM e) from ⟨(G1 _ _ HX.out).1,(G1 _ _ HX.out).2.1,(G1 _ _ HX.out).2.2.1,rfl,(G1 _ _ HX.out).2.2.2.2⟩));have U4:=D (dX (Bk.dB hu1 hb) g ((f+k) * 7+6) (aB ay) hgw);have V4:=D (hu2.mono G2);have B4:=D ((RX.out.but.trans (But.of_below hb)).trans bt);have L4:=D (show ∀ B' W,B'<=g->Below B' W w->Below B' W (w3.setCell ⟨g,(f+k) * 7+6,Q⟩ (aB ay)) from fun B' W h1 h2=>((RX.out.low B' W h1 h2).trans (hb.mono (by have:=zl; omega))).setCell (p:=⟨g,(f+k) * 7+6,Q⟩) h1 _);have RN:=D (show (L.set (f+k) (y1,y2,y3,y4,(yo,yn,yc),y6,ay))[f+k]?=ah (y1,y2,y3,y4,(yo,yn,yc),y6,ay) from aj (Z.1 HY.out).1);have US:=D (show lu.length<=1000 by
      have h1:lu.length=us.length:=hu2.len;have h2:=vT r k;rw [SS.out] at h2;simp only at h2;omega)
     have PO:=D (l8 (M0.out e (by
      have h:=HM.out;rw [J,X (by rw [KG.out]; omega),KG.out,O,Y (by rw [RK.out]; exact hlt)] at h;exact U h)))
     have AS:=D (show (a++r'++c).set (f+k) (uM e)=a++r'.set k (uM e)++c by
      rw [J,List.set_append_right _ _ (by rw [KG.out]; omega),KG.out,O,List.set_append_left _ _ (by rw [RK.out]; exact hlt),J])
     clear hu1 hu2 o4 bt hg3 G1 G2 c0 c1 c2 c3 c4 c5 c6 fr;go_upto_region 7 with fail;clear d6 f6 z3 hb;generalize w3.setCell ⟨g,(f+k) * 7+6,Q⟩ (aB ay)=w4 at *;have cc:=gW kK O4.out RN.out w4 (Below.refl _ _);have c0:=cc 0 _ rfl;have c1:=cc 1 _ rfl;have c2:=cc 2 _ rfl;have c3:=cc 3 _ rfl;have c4:=cc 4 _ rfl;have c5:=cc 5 _ rfl;have c6:=cc 6 _ rfl;simp [Addr.add,EN] at c0 c1 c2 c3 c4 c5 c6;have X4:=D (show mh w0 B w4 (y1,y2,y3,y4,(yo,yn,yc),y6,ay) (uM e) from by
      obtain⟨y',h1,h2⟩:=A4.out.at (f+k) (uM e) (aj (Z.1 HM.out).1);rw [RN.out] at h1;rw [Option.some.inj h1];exact h2)
     have CP:=D (pR (y1,y2,y3,y4,(yo,yn,yc),y6,ay) e.p w4 (qV X4.out (L4.out _ _ HB.out W0.out)).2.2.2.2 PO.out);clear cc;go_wp2_with fail;refine CP.out.mono ?_;rintro e5 w5 ⟨⟨⟨u1,u2,u3⟩,rfl,ho⟩,hb⟩;have RO:=B4.out.2;obtain⟨v',w',r7,o',a',bl,hof⟩:=Gw (w0:=w0) (B:=w.heap.size) (y1,y2,y3,y4,(u1,u2,u3),y6,ay) (uM e) (Bk.dB U4.out hb) (V4.out.mono fun _ _ q=>q.grow hb) ⟨X4.out.1,X4.out.2.1,X4.out.2.2.1,X4.out.2.2.2.1,Or.inr (dK ho RO)⟩ US.out (by have:=hb.size; omega);have nb:=iG w5 (.cells (gU (y1,y2,y3,y4,(u1,u2,u3),y6,ay)).toArray 43);have hbk:=wW U4.out;have M4:=D (show Ra w0 w w' B g n cap a c (fE r (k+1)) v' from by
      rw [RE.out,if_neg (by simp)];have hg5:=gu (Bk.dB (Bk.dB O4.out hb) nb);refine⟨⟨_,Jl hof (Bk.dB (Bk.dB O4.out hb) nb) fun e=>?_,?_⟩,⟨_,o',a'⟩,But.off ((B4.out.trans (But.of_below hb)).trans (But.of_below nb)) hof hbk,fun B' W h1 h2=>bl B' W (by omega) ((L4.out B' W h1 h2).trans (hb.mono (by omega)))⟩
      ·have:=hbk g e.symm;omega
      ·rw [<- AS.out];have tg:=iA (Bk.dB (Bk.dB U4.out hb) nb);exact A4.out.mono fun _ _ q=>(((q.grow hb).grow nb).off hof tg (by decide)))
     clear CP hb ho o' a' bl hof nb hbk c0 c1 c2 c3 c4 c5 c6 ix RO;go_wp2_with (first | (at_builtin; refine wpList_append_run rfl _ _ 28 rfl rfl rfl r7 ?_) | fail)
     go_roundw
     case rel=>exact⟨k+1,by omega,by go_num,M4.out⟩
     case measure=>simp [intOf]; omega
    ·have M4:=D (show Ra w0 w w3 B g n cap a c (fE r (k+1)) _ from by
      rw [RE.out,if_pos (Or.inr rfl)];obtain⟨q1,q2,q3,q4⟩:=RX.out;exact⟨by obtain⟨l,h1,h2⟩:=q1; exact⟨l,Bk.dB h1 hb,h2.mono fun _ _ q=>q.grow hb⟩,by obtain⟨l,h1,h2⟩:=q2; exact⟨l,Bk.dB h1 hb,h2.mono fun _ _ q=>q.grow hb⟩,q3.trans (But.of_below hb),fun B' W h1 h2=>(q4 B' W h1 h2).trans (hb.mono (by have:=zl; omega))⟩)
     clear hb c0 c1 c2 c3 c4 c5 c6 fr ix;go_wp2
     go_roundw
     case rel=>exact⟨k+1,by omega,by go_num,M4.out⟩
     case measure=>simp [intOf]; omega
   ·clear CV;have M4:=D (show Ra w0 w wr B g n cap a c (fE r (k+1)) _ from by
     rw [RE.out,if_pos (Or.inl rfl)];exact RX.out)
    go_wp2
    go_roundw
    case rel=>exact⟨k+1,by omega,by go_num,M4.out⟩
    case measure=>simp [intOf]; omega
  ·obtain rfl:K=k:=by omega
   obtain⟨lu,hu,_⟩:=RX.out.up;obtain⟨LZ,L8,hv⟩:=(Row.dM hu).len;subst hv;clear hu;go_wp2;go_ret;exact⟨(LZ,_,L8),rfl,RX.out⟩
end Go.Proofs.Ytmklifheakemeaa.Sb
