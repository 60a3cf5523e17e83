/-
  place of package rou. Conditions as told.
-/
import Derived.Test.YtghlpefopidlaaaGreatOQ039
import Derived.Test.YtghlpefopidlaaaGreatOQ032
import Derived.Test.YtghlpefopidlaaaGreatOQ033
set_option maxRecDepth 100000
set_option maxHeartbeats 64000000
open _root_.Bool renaming false->aJ,true->aP
open _root_.Go renaming World->ah,Value->aH,Calls->aN,Addr->aQ
open Go.Ending renaming returned->Q
open Go.IntKind renaming i64->ay
open Go.Lib renaming hid->D
open Go.Obj renaming cells->aF
open Go.Proofs.Tryz renaming prog->L,func111->aR
open Go.RowKit.Below renaming refl->ak
open Go.Value renaming slice->K,int->au,pointer->aA,bool->aL
open _root_.List renaming getElem?_eq_getElem->J,length_append->V,getElem?_eq_some_iff->Z,length_map->aj,length_drop->aB,length_take->aC,mem_of_getElem?->aD,getElem?_cons_zero->aG,takeWhile_cons->aK,getElem?_map->aM,mem_append->aO
open _root_.Option renaming some->O,none->U
open Option.some renaming inj->aI
namespace Go.Proofs.YtghlpefopidlaaaGreat
namespace Rt
open Go.RowKit Go.Sort Rw YtghlpefopidlaaaGreat.Nm Pr Bk Av Sb
theorem IZ {α:Type} (key:α->dO) (l:List α) (x:dO) (j:Nat) (y:α) (hj:j<dX key l x) (hy:l[j]?=O y):dJ (key y) x=aP:=by
 have ht:(l.takeWhile fun a=>dJ (key a) x)[j]?=O y:=by
  obtain⟨t,ht⟩:=List.takeWhile_prefix (fun a=>dJ (key a) x) (l:=l);rw [<- ht,List.getElem?_append_left hj] at hy;exact hy
 exact List.all_eq_true.1 List.all_takeWhile y (aD ht)
theorem yx {α:Type} (key:α->dO) (x:dO):∀ (m:List α) (y:α),m[dX key m x]?=O y->dJ (key y) x=aJ
 | [],_,h=>by simp [dX] at h
 | a::m,y,h=>by
  unfold dX at h;cases ha:dJ (key a) x with
  | true =>
   simp only [aK,ha,if_true,List.length_cons,List.getElem?_cons_succ] at h;exact yx key x m y h
  | false =>
   simp only [aK,ha,Bool.false_eq_true,if_false,List.length_nil,aG] at h;rw [<- aI h];exact ha
theorem sF {α:Type} (key:α->dO) (l:List α) (x:dO):dX key l x<=l.length:=(List.takeWhile_sublist _).length_le
theorem I4 {α:Type} {key:α->dO} {l:List α} (hr:iE key l) (x:dO) {i:Nat} {e:α} (hi:dX key l x<=i) (he:l[i]?=O e):dJ (key e) x=aJ:=by
 have hlt:=(Z.1 he).1;obtain⟨z,hz⟩:∃ z,l[dX key l x]?=O z:=⟨_,J (by omega)⟩;have h0:=yx key x l z hz;rcases Nat.lt_or_ge (dX key l x) i with h|h
 ·have h1:=iN hr h hz he;cases hq:dJ (key e) x with
  | false=>rfl
  | true=>rw [fT h1 hq] at h0; cases h0
 ·have e1:i=dX key l x:=by omega
  rw [e1,hz] at he;rw [<- aI he];exact h0
theorem Lp {W W1:ah} {v:aH} {l:List lG} {ao:Option aQ} {n c k:Nat} {x:lG} (h:C8 W v l) (hv:v=K ao n c) (hn:l.length=n) (hk:l[k]?=O x) (hb:Below W.heap.size W W1) :
  ∃ p:aQ,(∀ w,(Instr.indexAt 28 (K ao n c) (au ay k)).run L w=.ok (aA (O p)) w) /\
   (∀ d os,(grow (redrawn W1 d) os).cell? p=O (au ay x.1))/\(∀ d os,(grow (redrawn W1 d) os).cell? ⟨p.block,p.off+1,U⟩=O (au ay x.2.1)) /\
   (∀ d os,(grow (redrawn W1 d) os).cell? ⟨p.block,p.off+2,U⟩=O (dN x.2.2)):=by
 obtain⟨p,h1,h2⟩:=elW h hv hn hk;obtain⟨c0,c1,c2⟩:=h2 _ hb;exact⟨p,h1,cell_regrown c0,cell_regrown c1,cell_regrown c2⟩
theorem Lr (args:Array aH) (w:ah):(callFunc 111 args).run L w=.ok (.enter 111 args) w:=fG aR rfl rfl args w
theorem Ls (i:Nat) (b1 b2:Nat) (ao:Option aQ) (n ac:Nat) (l:List lG) (t:dO) (y:lG) (r:Bool) (w:ah) (hv:C8 w (K ao n ac) l) (hn:l.length=n) (hy:l[i]?=O y) (hr:(!dJ (y.1,y.2.1) t)=r)
  (h1:dx w b1 #[K ao n ac] 28) (h2:dx w b2 #[au ay t.1,au ay t.2] 23) :
  aN L 111 #[au ay i,aA (O ⟨b1,0,U⟩),aA (O ⟨b2,0,U⟩)] w fun e w'=>e=Q (aL r)/\Below w.heap.size w w':=by
 obtain⟨p,ix,p0,p1,p2⟩:=Lp hv rfl hn hy (ak _ _);have a0:=cell_regrown (h1.cell 0);have b0:=cell_regrown (h2.cell 0);have b1':=cell_regrown (h2.cell 1);have C:∀ k os,aN L 31 #[pK (y.1,y.2.1),pK t] (grow (redrawn w k) os) fun e w''=>e=Q (aL (dJ (y.1,y.2.1) t))/\∃ p:Regrown,w''=grow (redrawn w p.d) p.os:=fun k os=>Calls.regrown_of (mD (y.1,y.2.1) t _);generalize dJ (y.1,y.2.1) t=q at *;have R:=D hr;have BN:=D (fun dq osq=>below_regrown w dq osq);obtain⟨y1,y2,⟨yo,yn,yc⟩⟩:=y;obtain⟨c,d⟩:=t;simp only at p0 p1 p2 b0 b1' C;clear hv hn hy hr h1 h2 p2;go_enter aR,Tryz.ntmps111;go_wp2;refine wp_region_quiet_below (by kernel_rfl) (by kernel_rfl) ?_
 repeat (go_big_quiet_step (first | (with_reducible exact C _ _) | exact xY _ _))
 refine wpQuiet_nil ?_;intro _ hw';obtain⟨⟨dq,osq⟩,hw''⟩:=hw';subst hw'';go_wp2;go_ret;exact⟨congrArg (fun b=>Q (aL b)) R.out,BN.out _ _⟩
theorem sG {W:ah} {l:List lG} {m:List Ow} (h:eG (GI W) l m) {i:Nat} {y:lG} (hy:l[i]?=O y):∃ e,m[i]?=O e/\(y.1,y.2.1)=e.id:=by
 have hlt:=(Z.1 hy).1;obtain⟨e,he⟩:∃ e,m[i]?=O e:=⟨_,J (by rw [<- h.len]; exact hlt)⟩;obtain⟨y',hy',hx⟩:=h.at i e he;rw [hy] at hy';obtain rfl:=aI hy';exact⟨e,he,hx.1⟩
theorem vG (v:Sl) (l:List lG) (m:List Ow) (t:dO) (w:ah) (hv:C8 w (dN v) l) (hA:eG (GI w) l m) (hr:iE Ow.id m) (hl:l.length<=1000) :
  aN L 42 #[dN v,pK t] w fun e w'=>e=Q (.tuple #[au ay (dX Ow.id m t),aL (fF Ow.id m t)])/\Below w.heap.size w w':=by
 obtain⟨so,n,sc⟩:=v;have hn:l.length=n:=gL hv;obtain⟨c,d⟩:=t;obtain⟨k,hk⟩:∃ k,dX Ow.id m (c,d)=k:=⟨_,rfl⟩;obtain⟨th,hth⟩:∃ k,fF Ow.id m (c,d)=k:=⟨_,rfl⟩;have hkn:k<=n:=by rw [<- hk,<- hn,hA.len]; exact sF _ _ _
 rw [hk,hth];obtain⟨h0,X,Y⟩:=iO w #[K so n sc] #[au ay c,au ay d] 28 23;have BB:=D h0;have HV:=D (hv.on h0);have HA:=D (hA.mono fun _ _ q=>q.on h0);have X1:=D X;have Y1:=D Y;have x0:=X.cell 0;simp only [List.getElem?_toArray,aG] at x0;have HF:=D (show ∀ i,i<n->∀ W,Below ((w.alloc (aF #[K so n sc] 28)).alloc (aF #[au ay c,au ay d] 23)).heap.size ((w.alloc (aF #[K so n sc] 28)).alloc (aF #[au ay c,au ay d] 23)) W ->
   aN L 111 (#[au ay i]++#[aA (O ⟨w.heap.size,0,U⟩),aA (O ⟨w.heap.size+1,0,U⟩)]) W fun e w'=>e=Q (aL ((fun i=>match l[i]? with | some y=>!dJ (y.1,y.2.1) (c,d) | none=>aP) i))/\Below W.heap.size W w' from fun i hi W hb=>by
  obtain⟨y,hy⟩:∃ y,l[i]?=O y:=⟨_,J (by omega)⟩;refine Ls i _ _ so n sc l (c,d) y _ W (HV.out.on hb) hn hy ?_ (X1.out.on hb) (Y1.out.on hb);simp only [hy])
 have PW:=D (show ∀ i,i<k->(fun i=>match l[i]? with | some y=>!dJ (y.1,y.2.1) (c,d) | none=>aP) i=aJ from fun i hi=>by
  obtain⟨y,hy⟩:∃ y,l[i]?=O y:=⟨_,J (by omega)⟩;obtain⟨e,he,hke⟩:=sG HA.out hy;have h1:=IZ Ow.id m (c,d) i e (by rw [hk]; exact hi) he;simp only [hy,hke,h1]
  rfl)
 have PX:=D (show ∀ i,k<=i->i<n->(fun i=>match l[i]? with | some y=>!dJ (y.1,y.2.1) (c,d) | none=>aP) i=aP from fun i hi hi2=>by
  obtain⟨y,hy⟩:∃ y,l[i]?=O y:=⟨_,J (by omega)⟩;obtain⟨e,he,hke⟩:=sG HA.out hy;have h1:=I4 hr (c,d) (by rw [hk]; exact hi) he;simp only [hy,hke,h1]
  rfl)
 have HK:=D hk;have HT:=D hth;have HN:=D hn;have ln:n<=1000:=by omega
 clear hv hA h0 X Y hk hth hl hn hr;go_enter Tryz.func42,Tryz.ntmps42;go_wp2_with fail;generalize (w.alloc (aF #[K so n sc] 28)).alloc (aF #[au ay c,au ay d] 23)=W at *;refine (qg 111 #[aA (O ⟨w.heap.size,0,U⟩),aA (O ⟨w.heap.size+1,0,U⟩)] Lr n k _ W (by omega) HF.out hkn PW.out PX.out).mono ?_;rintro e1 w1 ⟨rfl,hb⟩;have BN:=D (fun dq osq=>(BB.out.trans (hb.mono BB.out.size)).trans ((below_regrown w1 dq osq).mono (BB.out.trans (hb.mono BB.out.size)).size));have a0:=cell_regrown (show w1.cell? ⟨w.heap.size,0,U⟩=O (K so n sc) from (X1.out.on hb).cell 0);have b0:=cell_regrown (show w1.cell? ⟨w.heap.size+1,0,U⟩=O (au ay c) from (Y1.out.on hb).cell 0);have b1:=cell_regrown (show w1.cell? ⟨w.heap.size+1,1,U⟩=O (au ay d) from (Y1.out.on hb).cell 1);clear x0 HF PW PX;by_cases hkl:k<n
 ·obtain⟨y,hy⟩:∃ y,l[k]?=O y:=⟨_,J (by rw [HN.out]; exact hkl)⟩;obtain⟨p,ix,p0,p1,p2⟩:=Lp HV.out rfl HN.out hy hb;have TH:=D (show th=decide ((y.1,y.2.1)=(c,d)) from by
   obtain⟨e,he,hke⟩:=sG HA.out hy;rw [<- HT.out,fF,HK.out,he,hke])
  have g4:decide ((k:Int)<(n:Int))=aP:=by simp; omega
  obtain⟨y1,y2,⟨yo,yn,yc⟩⟩:=y;simp only at p0 p1 p2;clear p2 hb hy;obtain⟨r1,hr1⟩:∃ r,(y1 == c && y2 == d)=r:=⟨_,rfl⟩;have e1:=wI y1 y2 c d r1 hr1;have R:=D (show th=r1 from by
   rw [TH.out,<- hr1,Bool.eq_iff_iff];simp only [decide_eq_true_eq,Bool.and_eq_true,beq_iff_eq,Prod.mk.injEq])
  clear hr1 TH HT;cases r1
  all_goals
   go_wp2;refine wp_region_quiet_below (by kernel_rfl) (by kernel_rfl) ?_
   repeat (go_big_quiet_step (fail))
   refine wpQuiet_nil ?_;intro _ hw';obtain⟨⟨dq,osq⟩,hw''⟩:=hw';subst hw'';go_wp2
   go_ret2
   exact⟨by rw [R.out]; rfl,BN.out _ _⟩
 ·have TH:=D (show th=aJ from by
   rw [<- HT.out,fF,HK.out,List.getElem?_eq_none (by rw [<- HA.out.len,HN.out]; omega)])
  have g4:decide ((k:Int)<(n:Int))=aJ:=by simp; omega
  clear hb HT;go_wp2;refine wp_region_quiet_below (by kernel_rfl) (by kernel_rfl) ?_
  repeat (go_big_quiet_step (fail))
  refine wpQuiet_nil ?_;intro _ hw';obtain⟨⟨dq,osq⟩,hw''⟩:=hw';subst hw'';go_wp2
  go_ret2
  exact⟨by rw [TH.out]; rfl,BN.out _ _⟩
end Rt
namespace Pr
open Go.RowKit Go.Sort Pu Rw Va
def Oy:ByteArray:=⟨#[112,114,101,100]⟩
def F5 (w:ah) (l:List Cn) (e:Ending) (w':ah):Prop:=Below w.heap.size w w'/\(match uj l with
 | .ok m=>∃ pv,e=Q (.tuple #[pv,.nilIface])/\gq w' pv (m.map r5)
 | .error _=>∃ b,e=Q (.tuple #[K U 0 0,.iface 226 (aA (O ⟨b,0,U⟩))]))
theorem Oz (op:ByteArray) (at_:Int) (tx:Nat) (x:aH) (w:ah) :
  aN L 169 #[.string op,au ay at_,.iface tx x] w fun e w'=>e=Q (.iface 226 (aA (O ⟨w.heap.size,0,U⟩)))/\w'=w.alloc (aF #[.string op,au ay at_,.iface tx x] 228):=by
 go_enter Tryz.func169,Tryz.ntmps169;go_wp2;go_ret;exact⟨rfl,rfl⟩
theorem D7 (at_:Nat) (m r:List Cn) (c:Cn):iL at_ m (c::r)=match jT m c with
  | .ok m'=>iL (at_+1) m' r
  | .error k=>.error (k,at_):=by
 simp only [iL,jT];cases jX m c with
 | none=>rfl
 | some m'=>simp only; split <;> rfl
theorem I5 {m:List Cn} {c:Cn} {m':List Cn} (h:gU m) (hs:jT m c=.ok m'):gU m'/\m'.length<=5:=by
 unfold jT at hs;cases hi:jX m c with
 | none=>rw [hi] at hs; cases hs
 | some n =>
  rw [hi] at hs;simp only at hs
  split at hs
  ·cases hs
  ·rename_i h5
   injection hs with hs
   subst hs;exact⟨(kL m c n h hi).1,by omega⟩
theorem Lu (lv:aH) (l:List Cn) (w:ah) (hl:gq w lv (l.map r5)) (hs:Km l) (hgd:∀ c∈l,pF c=aP):aN L 134 #[lv] w (F5 w l):=by
 have HL:=D hl;have LN:=D (show (l.map r5).length=l.length from aj ..);have h100:=hs.1;have SM:=D hs.2;have GD:=D hgd;obtain⟨ao,ac,rfl⟩:=hl.len;rw [aj] at HL ⊢;obtain⟨n,hn⟩:∃ n,n=l.length:=⟨_,rfl⟩;rw [<- hn] at HL h100 ⊢;have HN:=D hn;obtain⟨res,hres⟩:∃ r,r=uj l:=⟨_,rfl⟩;have MQ:=D (show ∀ e w',(Below w.heap.size w w'/\(match res with
 | .ok m=>∃ pv,e=Q (.tuple #[pv,.nilIface])/\gq w' pv (m.map r5)
 | .error _=>∃ b,e=Q (.tuple #[K U 0 0,.iface 226 (aA (O ⟨b,0,U⟩))])))->F5 w l e w' from fun e w' h=>by unfold F5; rw [<- hres]; exact h)
 have HR:=D hres;clear hl hs hgd hn hres;generalize hq:F5 w l=q at *;clear hq;go_enter Tryz.func134,Tryz.ntmps134;go_wp2
 go_loopw [13] (fun i wr=>∃ k:Nat,k<=n/\i=au ay k/\Below w.heap.size w wr) (fun i _=>n-(intOf i).toNat)
 case atStart=>exact⟨0,Nat.zero_le _,rfl,ak _ _⟩
 case round =>
  obtain⟨k,hk,rfl,hb⟩:=hrel;have HB:=D hb;clear hb;by_cases hlt:k<n
  ·obtain⟨⟨xn,xk⟩,hx⟩:∃ x,l[k]?=O x:=⟨_,J (by have:=HN.out; omega)⟩;obtain⟨p,ix,px⟩:=Ue (x:=r5 (xn,xk)) HL.out rfl (LN.out.trans HN.out.symm) (by rw [aM,hx]; rfl);obtain⟨p0,p1,p2,p3,p4⟩:=px _ HB.out;have C:=D (Ny (xn,xk) (wr.alloc (aF (cells5 (r5 (xn,xk))).toArray 91)) (by have:=(SM.out _ (aD hx)).1; unfold maxLen; omega));rw [GD.out _ (aD hx)] at C;have B4:=D (HB.out.alloc HB.out.size (aF (cells5 (r5 (xn,xk))).toArray 91));simp only [r5] at p0 p1 p2 p3 p4 C;clear hx px;go_wp2_with fail;refine C.out.mono ?_;rintro e5 w5 ⟨rfl,hb5⟩;have B5:=D (B4.out.trans (hb5.mono B4.out.size));clear hb5 C B4 ix p0 p1 p2 p3 p4;go_wp2
   go_roundw
   case rel=>exact⟨k+1,by omega,by go_num,B5.out⟩
   case measure=>simp [intOf]; omega
  ·obtain rfl:k=n:=by omega
   go_wp2
   go_loopw [6,27] (fun mv i wr=>∃ (j:Nat) (m:List Cn),j<=k/\i=au ay j/\ig wr w.heap.size mv (m.map r5)/\gU m/\m.length<=5/\res=iL j m (l.drop j)/\Below w.heap.size w wr) (fun _ i _=>k-(intOf i).toNat)
   case atStart=>exact⟨0,[],Nat.zero_le _,rfl,iH _ _,List.Pairwise.nil,by simp,by rw [HR.out]; rfl,HB.out⟩
   case round =>
    obtain⟨j,m,hj,rfl,hown,hrise,hm5,P5,hb⟩:=hrel;have BW:=D hb;have OW:=D hown;have RM:=D hrise;have FO:=D P5;clear hb hown hrise P5;by_cases hjl:j<k
    ·obtain⟨⟨xn,xk⟩,hx⟩:∃ x,l[j]?=O x:=⟨_,J (by have:=HN.out; omega)⟩;obtain⟨p,ix,px⟩:=Ue (x:=r5 (xn,xk)) HL.out rfl (LN.out.trans HN.out.symm) (by rw [aM,hx]; rfl);obtain⟨p0,p1,p2,p3,p4⟩:=px _ BW.out;have B4:=D (BW.out.alloc BW.out.size (aF (cells5 (r5 (xn,xk))).toArray 91));have C:=D (Kw w.heap.size _ m (xn,xk) (wr.alloc (aF (cells5 (r5 (xn,xk))).toArray 91)) (dI OW.out ((ak _ _).alloc (Nat.le_refl _) _)) RM.out hm5 B4.out.size);have DR:l.drop j=(xn,xk)::l.drop (j+1):=by
      have h:=List.drop_eq_getElem_cons (l:=l) (i:=j) (by have:=HN.out; omega);rw [h]
      congr 1
      exact (Z.1 hx).2
     have F2:=FO.out;rw [DR,D7] at F2;have F3:=D F2;simp only [r5] at p0 p1 p2 p3 p4 C;clear hx px F2 DR FO;cases hst:jT m (xn,xk) with
     | ok m' =>
      have RR:=D (I5 RM.out hst);have F4:=D (show res=iL (j+1) m' (l.drop (j+1)) by rw [F3.out,hst]);rw [hst] at C;clear hst F3;go_wp2_with fail;refine C.out.mono ?_;rintro e5 w5 ⟨hb5,v',rfl,UA⟩;have B5:=D (B4.out.trans hb5);have O5:=D UA;clear hb5 UA C B4 ix p0 p1 p2 p3 p4 OW BW RM;go_wp2
      go_roundw
      case rel=>exact⟨j+1,m',by omega,by go_num,O5.out,RR.out.1,RR.out.2,F4.out,B5.out⟩
      case measure=>simp [intOf]; omega
     | error er =>
      have F4:=D (show res=.error (er,j) by rw [F3.out,hst]);rw [hst] at C;clear hst F3;go_wp2_with fail;refine C.out.mono ?_;rintro e5 w5 ⟨hb5,rfl⟩;have B5:=D (B4.out.trans hb5);clear hb5 C B4 ix p0 p1 p2 p3 p4 OW BW RM;go_wp2_with fail;refine (Oz Oy j 211 (au ay er) w5).mono ?_;rintro e6 w6 ⟨rfl,rfl⟩;go_wp2;refine MQ.out _ _ ⟨B5.out.alloc B5.out.size _,?_⟩;rw [F4.out];exact⟨w5.heap.size,rfl⟩
    ·obtain rfl:j=k:=by omega
     have F2:=D (show res=.ok m by rw [FO.out,List.drop_of_length_le (by have:=HN.out; omega)]; rfl);go_wp2;refine MQ.out _ _ ⟨BW.out,?_⟩;rw [F2.out];exact⟨_,rfl,Row.dB OW.out⟩
end Pr
namespace Rl
open Go.RowKit Go.Sort Pu Rw Pr Va
def Lv (a b:List Cn) (w:ah) (e:Ending) (w':ah):Prop:=Below w.heap.size w w'/\(match iL a.length a b with
 | .ok p=>∃ pv,e=Q (.tuple #[pv,aL aP])/\gq w' pv (p.map r5)
 | .error _=>∃ pv,e=Q (.tuple #[pv,aL aJ]))
theorem Bw {a b:List Cn} (na:NF a) (nb:NF b):Km (a++b):=⟨by have:=na.five; have:=nb.five; simp; omega,fun c hc=>by
 rcases aO.1 hc with h|h
 ·exact na.small c h
 ·exact nb.small c h⟩
theorem OD (xX bv:aH) (a b:List Cn) (w:ah) (ha:gq w xX (a.map r5)) (hb:gq w bv (b.map r5)) (na:NF a) (nb:NF b):aN L 88 #[xX,bv] w (Lv a b w):=by
 have B0:=D (show Below w.heap.size w (w.alloc (aF #[xX,bv] 34)) from (ak _ _).alloc (Nat.le_refl _) _);have CT:=D (DW w.heap.size xX bv (a.map r5) (b.map r5) (w.alloc (aF #[xX,bv] 34)) (by simp [go_sem]) (by simp [go_sem]) (ha.on B0.out) (hb.on B0.out) (by rw [aj]; have:=na.five; omega) (by rw [aj]; have:=nb.five; omega));have SP:=D (Bw na nb);have GD:=D (show ∀ c∈a++b,pF c=aP from fun c hc=>by
  rcases aO.1 hc with h|h
  ·exact na.good c h
  ·exact nb.good c h)
 have MB:=D (GJ (b:=b) na.rise na.five);obtain⟨ao,ac,rfl⟩:=ha.len;obtain⟨bo,bc,rfl⟩:=hb.len;clear ha hb na nb;simp only [aj] at CT B0 ⊢;obtain⟨res,hres⟩:∃ r,r=iL a.length a b:=⟨_,rfl⟩;have MQ:=D (show ∀ e w',(Below w.heap.size w w'/\(match res with
  | .ok p=>∃ pv,e=Q (.tuple #[pv,aL aP])/\gq w' pv (p.map r5)
  | .error _=>∃ pv,e=Q (.tuple #[pv,aL aJ])))->Lv a b w e w' from fun e w' h=>by unfold Lv; rw [<- hres]; exact h)
 rw [<- hres] at MB;generalize hq:Lv a b w=q at *;clear hq hres;go_enter Tryz.func88,Tryz.ntmps88;go_wp2_with fail;refine CT.out.mono ?_;rintro e1 w1 ⟨v1,rfl,ho,hb1⟩;have B1:=D (B0.out.trans (hb1.mono B0.out.size));have MK:=D (Lu v1 (a++b) w1 (by rw [List.map_append]; exact Row.dB ho) SP.out GD.out);clear ho hb1 CT SP GD B0;go_wp2_with fail;refine MK.out.mono ?_;rintro e2 w2 ⟨hb2,h2⟩;have B2:=D (B1.out.trans (hb2.mono B1.out.size));rw [MB.out] at h2;clear hb2 MK B1 MB;rcases res with _|p
 ·obtain⟨bb,rfl⟩:=h2;go_wp2
  go_region
  all_goals simp only [Exit.then]
  all_goals apply_assumption
  all_goals go_wp2
  all_goals exact MQ.out _ _ ⟨B2.out.drew,_,rfl⟩
 ·obtain⟨pv,rfl,hp⟩:=h2;have HP:=D hp;clear hp;go_wp2
  go_region
  all_goals simp only [Exit.then]
  all_goals apply_assumption
  all_goals go_wp2
  all_goals exact MQ.out _ _ ⟨B2.out.drew,_,rfl,HP.out.on (ak _ _).drew⟩
theorem D8 (xX bv:aH) (a b:List Cn) (w:ah) (ha:gq w xX (a.map r5)) (hb:gq w bv (b.map r5)) (na:NF a) (nb:NF b):aN L 28 #[xX,bv] w fun e w'=>e=Q (aL (mZ a b))/\Below w.heap.size w w':=by
 have T:=D (OD xX bv a b w ha hb na nb);have MM:=D (show mZ a b=match iL a.length a b with
  | .ok _=>aP
  | .error _=>aJ from rfl)
 unfold Lv at T;generalize mZ a b=r at *;generalize iL a.length a b=res at *;clear ha hb na nb;go_enter Tryz.func28,Tryz.ntmps28;go_wp2_with fail;refine T.out.mono ?_;rintro e1 w1 ⟨hb1,h1⟩;have B1:=D hb1;clear hb1 T;rcases res with _|p
 ·obtain⟨pv,rfl⟩:=h1;have M:=D (show r=aJ from MM.out);clear MM;go_wp2;go_ret;exact⟨eO M.out.symm,B1.out⟩
 ·obtain⟨pv,rfl,hp⟩:=h1;have M:=D (show r=aP from MM.out);clear MM hp;go_wp2;go_ret;exact⟨eO M.out.symm,B1.out⟩
end Rl
namespace Fl
open Go.RowKit Go.Sort Rw YtghlpefopidlaaaGreat.Nm Pr Bk Av
def OG (W:ah) (B:Nat) (x:nP) (o:Ou):Prop:=x.1=o.TN/\x.2.1=o.kind/\(x.2.2.1,x.2.2.2.1)=o.tree/\(x.2.2.2.2.1,x.2.2.2.2.2.1)=o.id/\ig W B (dN x.2.2.2.2.2.2.1) o.p/\x.2.2.2.2.2.2.2=(U,0,0)
theorem OG.ou {W:ah} {B:Nat} {x:nP} {o:Ou} (h:OG W B x o):KS W x o:=⟨h.1,h.2.1,h.2.2.1,h.2.2.2.1,Row.dB h.2.2.2.2.1,h.2.2.2.2.2⟩
theorem OG.le {W:ah} {B B':Nat} {x:nP} {o:Ou} (h:OG W B x o) (hB:B'<=B):OG W B' x o:=⟨h.1,h.2.1,h.2.2.1,h.2.2.2.1,dH h.2.2.2.2.1 hB,h.2.2.2.2.2⟩
structure nJ (W:ah) (B:Nat) (v:aH) (lx:List nP) (l:List Ou):Prop where
 row:Dr W B v lx
 all:eG (OG W B) lx l
theorem nJ.on {W W':ah} {B:Nat} {v:aH} {lx:List nP} {l:List Ou} (h:nJ W B v lx l) (hb:Below W.heap.size W W'):nJ W' B v lx l:=⟨Bk.dI h.row hb,h.all.mono fun _ _ q=>⟨q.1,q.2.1,q.2.2.1,q.2.2.2.1,Bk.dI q.2.2.2.2.1 hb,q.2.2.2.2.2⟩⟩
theorem nJ.le {W:ah} {B B':Nat} {v:aH} {lx:List nP} {l:List Ou} (h:nJ W B v lx l) (hB:B'<=B):nJ W B' v lx l:=⟨dH h.row hB,h.all.mono fun _ _ q=>q.le hB⟩
theorem nJ.nil (W:ah) (B:Nat):nJ W B (K U 0 0) [] []:=⟨iH _ _,.nil⟩
theorem nJ.but {W W':ah} {B g:Nat} {v:aH} {lx:List nP} {l:List Ou} {cs:Array aH} {t:TypeId} (h:nJ W B v lx l) (hk:But g W W') (hg:dx W g cs t) (h1:(46 == t)=aJ) (h2:(91 == t)=aJ):nJ W' B v lx l:=⟨hk.own h.row hg h1,h.all.mono fun _ _ q=>⟨q.1,q.2.1,q.2.2.1,q.2.2.2.1,hk.own q.2.2.2.2.1 hg h2,q.2.2.2.2.2⟩⟩
theorem nJ.outs {W:ah} {B:Nat} {s:Sl} {lx:List nP} {l:List Ou} (h:nJ W B (dN s) lx l):kV W s l:=⟨lx,Row.dB h.row,h.all.mono fun _ _ q=>q.ou⟩
theorem nJ.len {W:ah} {B:Nat} {v:aH} {lx:List nP} {l:List Ou} (h:nJ W B v lx l):lx.length=l.length:=h.all.len
theorem nJ.more {W W':ah} {B:Nat} {v v':aH} {lx ly:List nP} {l m:List Ou} (h:nJ W B v lx l) (gr:W.grownBy W' v.ownBlock) (ho:Dr W' B v' (lx++ly)) (hx:eG (OG W B) ly m):nJ W' B v' (lx++ly) (l++m) :=
 ⟨ho,eG.append (h.all.mono fun _ _ q=>⟨q.1,q.2.1,q.2.2.1,q.2.2.2.1,FT h.row gr q.2.2.2.2.1 (by decide),q.2.2.2.2.2⟩) (hx.mono fun _ _ q=>⟨q.1,q.2.1,q.2.2.1,q.2.2.2.1,FT h.row gr q.2.2.2.2.1 (by decide),q.2.2.2.2.2⟩)⟩
theorem jf.app {W W':ah} {B:Nat} {v:aH} {l:List nP} {b:Br} {nv av sv ev ov:Sl} (ho:Dr W B v l) (gr:W.grownBy W' v.ownBlock) (h:jf W b nv av sv ev ov):jf W' b nv av sv ev ov:=by
 rcases eT ho with⟨h1,_⟩|⟨g,c,cur,h1,_,h2,_⟩
 ·rw [h1] at gr;exact h.on ((ak _ _).grown gr (Nat.le_refl _) (fun j hj=>by cases hj))
 ·rw [h1] at gr;exact h.oh (rP (b:=g) gr) h2 (by decide) (by decide) (by decide) (by decide) (by decide) (by decide)
end Fl
namespace Rt
open Go.RowKit Go.Sort Rw YtghlpefopidlaaaGreat.Nm Pr Bk Av Sb
theorem D9 {w:ah} {B g n cap k:Nat} {l:List lG} (ho:nW w B (K (O ⟨g,0,U⟩) n cap) l) (hk:k<n) (ty:TypeId) :
  ∃ w',(Builtin.append_ #[28,28] ty #[K (O ⟨g,0,U⟩) k cap,K (O (if cap=k+1 then ⟨g,0,U⟩ else ⟨g,(k+1) * 3,U⟩)) (n-(k+1)) (cap-(k+1))]).run L w=.ok (K (O ⟨g,0,U⟩) (n-1) cap) w' /\
   nW w' B (K (O ⟨g,0,U⟩) n cap) (cutAt l k++l.drop (n-1))/\But g w w'/\(∀ B' W,B'<=g->Below B' W w->Below B' W w'):=by
 have hl:l.length=n:=eU ho;rcases eT ho with⟨h1,_⟩|⟨g',cap',cur,h1,h2,h3,h4,h5,h6,h7⟩
 ·cases h1
 ·obtain⟨rfl,_,rfl⟩:g=g'/\n=l.length/\cap=cap':=by simpa using h1
  obtain⟨i,i1,i2,i3,i4⟩:=okW.info;have hE:EW.n=3:=rfl;have zS:i.size=3:=i3;rw [hl] at h4 h7;rw [hE] at h6 h7;have hd:(l.drop (k+1)).length=n-(k+1):=by rw [aB,hl]
  have IJ:(flat EW (l.drop (k+1))).length=(n-(k+1)) * 3:=by rw [dz okW,hd,hE]
  have hsz:cur.toList.length=cap * 3:=by rw [Array.length_toList]; exact h6
  have hcell:∀ j u,(flat EW (l.drop (k+1)))[j]?=O u->w.cell? ((if cap=k+1 then (⟨g,0,U⟩:aQ) else ⟨g,(k+1) * 3,U⟩).add j)=O u:=fun j u hj=>by
   have hlt:=(Z.1 hj).1;rw [IJ] at hlt;rw [if_neg (by omega)];exact qp okW h3 (by rw [hl,hE]; exact h7) (k+1) j u hj
  have hr:=run_append_room (P:=L) w 28 ty 88 i okW.hu i1 g k cap cur h3 _ (n-(k+1)) (cap-(k+1)) (flat EW (l.drop (k+1))) (by rw [IJ,zS]) hcell (jG okW _) (by omega) (by rw [IJ,zS,h6]; omega);rw [show k+(n-(k+1))=n-1 by omega] at hr;refine⟨_,hr,jR okW ?_ h2 (dx.set h3 _) h4 h5 ?_ ?_,⟨fun j _ hne=>setRow_other w g j _ hne,by simp⟩,fun B' W hB hb=>Rw.below_setRow hb hB _⟩
  ·rw [V,aB];unfold cutAt;rw [V,aC,hd,hl];omega
  ·rw [List.size_toArray,V,V,aC,aB,IJ,hsz,zS,hE];omega
  ·have t1:cur.toList.take (k * 3)=flat EW (l.take k):=by
    rw [<- kF okW,<- h7,List.take_take,hE,Nat.min_eq_left (by omega)]
   have t2:(cur.toList.drop ((n-1) * 3)).take 3=flat EW (l.drop (n-1)):=by
    rw [<- rC okW,<- h7,hE,List.drop_take,show n * 3-(n-1) * 3=3 by omega]
   rw [zS,hE,IJ,show k * 3+(n-(k+1)) * 3=(n-1) * 3 by omega,t1];have e1:(flat EW (l.take k)++flat EW (l.drop (k+1))).length=(n-1) * 3:=by
    rw [V,IJ,dz okW,aC,hE,hl];omega
   rw [List.take_append,e1,List.take_of_length_le (by rw [e1]; omega),show n * 3-(n-1) * 3=3 by omega,t2];unfold cutAt;rw [eY,eY]
theorem I6 {l:List lG} {n k:Nat} (hl:l.length=n) (hk:k<n):(cutAt l k++l.drop (n-1)).take (n-1)=cutAt l k:=by
 have h:(cutAt l k).length=n-1:=by
  unfold cutAt;rw [V,aC,aB,hl];omega
 rw [<- h,List.take_left]
theorem OH (a:aQ) (f e len cap:Nat) (h:f<=e) (h2:e<=len) (h3:len<=cap) (w:ah):(Instr.sliceAt 28 (K (O a) len cap) (O (au ay f)) (O (au ay e)) (O (au ay len))).run L w=.ok (K (O (if len=f then a else a.add (f * 3))) (e-f) (len-f)) w:=by
 obtain⟨i,i1,i2,i3,i4⟩:=okW.info;have Nb:Tryz.prog.info? 88=O i:=i1;have hu':Tryz.prog.underlying 28=O (.slice 88):=okW.hu;have zS:i.size=3:=i3;by_cases he:len=f
 ·subst he;obtain rfl:e=len:=by omega
  simp [go_sem,hu',sizeOf,typeInfo,Nb,zS,h3]
 ·simp [go_sem,hu',sizeOf,typeInfo,Nb,zS,he,h,h2,h3]
theorem Lx (B g n cap k:Nat) (l:List lG) (w:ah) (ho:nW w B (K (O ⟨g,0,U⟩) n cap) l) (hk:k<n) (hn:n<=1000) :
  aN L 47 #[K (O ⟨g,0,U⟩) n cap,au ay k,au ay ((k:Int)+1)] w fun e w'=>e=Q (K (O ⟨g,0,U⟩) (n-1) cap) /\
   nW w' B (K (O ⟨g,0,U⟩) (n-1) cap) (cutAt l k)/\But g w w'/\(∀ B' W,B'<=g->Below B' W w->Below B' W w'):=by
 have hl:l.length=n:=eU ho;have hnc:n<=cap:=by
  rcases eT ho with⟨h1,_⟩|⟨g',cap',cur,h1,_,_,h4,_⟩
  ·cases h1
  ·obtain⟨_,_,rfl⟩:g=g'/\n=l.length/\cap=cap':=by simpa using h1
   rw [hl] at h4;exact h4
 have s3:=fun w=>OH ⟨g,0,U⟩ k (k+1) n cap (by omega) (by omega) hnc w;rw [show (((k+1:Nat):Int))=(k:Int)+1 by omega] at s3;have s1:∀ w,(Instr.sliceAt 28 (K (O ⟨g,0,U⟩) n cap) U (O (au ay k)) U).run L w=.ok (K (O ⟨g,0,U⟩) k cap) w:=fun w=>iB okW ⟨g,0,U⟩ k n cap (by omega) w;have s2:∀ w,(Instr.sliceAt 28 (K (O ⟨g,0,U⟩) n cap) (O (au ay ((k:Int)+1))) U U).run L w=.ok (K (O (if cap=k+1 then ⟨g,0,U⟩ else ⟨g,(k+1) * 3,U⟩)) (n-(k+1)) (cap-(k+1))) w:=fun w=>by
  have h:=ql okW ⟨g,0,U⟩ (k+1) n cap (by omega) w;rw [show (((k+1:Nat):Int))=(k:Int)+1 by omega,lM] at h;exact h
 have hne:((k:Int) == (k:Int)+1)=aJ:=by simp; omega
 obtain⟨w1,r1,o1,b1,l1⟩:=D9 (Bk.dI ho (ak _ _).drew) hk 28;obtain⟨p,hp⟩:∃ p:aQ,(if cap=k+1 then (⟨g,0,U⟩:aQ) else ⟨g,(k+1) * 3,U⟩)=p:=⟨_,rfl⟩;obtain⟨q,hq⟩:∃ p:aQ,(if n=k then (⟨g,0,U⟩:aQ) else (⟨g,0,U⟩:aQ).add (k * 3))=p:=⟨_,rfl⟩;rw [hp] at s2 r1;rw [hq] at s3;obtain⟨m,hm⟩:∃ m,n=m+1:=⟨n-1,by omega⟩;obtain⟨w2,r2_,o2,b2,l2⟩:=xP okW (by decide) o1 (show n-1<n by omega) 0;rw [I6 hl hk] at o2;have O2:=D o2;have B2:=D (show But g w w2 from ((But.of_below (ak w.heap.size w).drew).trans b1).trans b2);have L2:=D (show ∀ B' W,B'<=g->Below B' W w->Below B' W w2 from fun B' W hB hb=>l2 B' W hB (l1 B' W hB hb.drew));have r2:(Builtin.clear_ #[28] 0 #[K (O ⟨g,(n-1) * 3,U⟩) (n-(n-1)) (cap-(n-1))]).run L w1=.ok (.tuple #[]) w2:=r2_;clear hp hq o1 b1 l1 o2 b2 l2 ho hl;generalize n-(k+1)=x1 at s2 r1;generalize cap-(k+1)=x2 at s2 r1;generalize k+1-k=x3 at s3;generalize n-k=x4 at s3;rw [show n-(n-1)=1 by omega] at r2;clear r2_;subst hm;rw [Nat.add_sub_cancel] at *;go_enter Tryz.func47,Tryz.ntmps47;go_wp2
 go_region_law (refine nN rfl (.tmp 22) (.tmp 25) 28 rfl (v:=K (O ⟨g,0,U⟩) k cap) (xv:=K (O p) x1 x2) rfl rfl r1 ?_)
 all_goals simp only [Exit.then]
 all_goals apply_assumption
 all_goals
  go_wp2_with (first | (at_builtin; refine su rfl _ _ rfl rfl r2 ?_) | fail);go_ret;exact⟨rfl,O2.out,B2.out,L2.out⟩
end Rt
end Go.Proofs.YtghlpefopidlaaaGreat
