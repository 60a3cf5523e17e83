/-
  Match and Covers of . Conditions as told.
-/
import Derived.Test.YtmklifheakemeaaGreatfe030
import Derived.Test.YtmklifheakemeaaGreatfe029
set_option maxRecDepth 100000
set_option maxHeartbeats 64000000
open Go.IntKind renaming i64->O
open Go.Lib renaming hid->X
open Go.Operand renaming tmp->au
open Go.Proofs.Tryz renaming prog->aD,func13->aI
open Go.Proofs.YtmklifheakemeaaGreat.Wi renaming within->U,jf->aM
open Go.RowKit.Below renaming refl->ah
open Go.Value renaming int->L,pointer->V,slice->Z,string->aC,agg->aG
open _root_.List renaming getElem?_toArray->aj,getElem?_cons_zero->ak,getElem?_cons_succ->aA,getElem?_eq_getElem->aF,map_toArray->aH,length_map->aJ,map_cons->aK,map_nil->aL
open _root_.Option renaming none->Y,some->ay
open Option.some renaming inj->J
open _root_.Or renaming inr->aB
namespace Go.Proofs.YtmklifheakemeaaGreat
namespace Rl
open Go.RowKit Go.Sort Pu Rw Pr Va
theorem Zn {α:Type} (f:α->Bool) (l:List α) (m:Nat) (h:l.length=m):(l.take m).all f=l.all f:=by rw [<- h,List.take_length]
theorem Mj (pv qv:Value) (p b:List Cn) (w:World) (hp:fI w pv (p.map r5)) (hl:fI w qv (b.map r5)) (np:NF p) (nb:NF b) :
  Calls aD 156 #[pv,qv] w fun e w'=>e=.returned (.bool (pW p b))/\Below w.heap.size w w':=by
 have CO:=X (Qk (a:=p) nb.rise);have HP:=X hp;have HL:=X hl;have h5:b.length<=100:=by have:=nb.five; omega
 have GP:=X np.iN;have GB:=X nb.iN;have m5:p.length<=5:=np.five;obtain⟨ao,ac,rfl⟩:=hp.len;rw [aJ] at HP ⊢;generalize hm:p.length=m at *;have HM:=X hm;generalize pW p b=r at *;clear hp hl hm np nb;go_enter Tryz.func156,Tryz.ntmps156;go_wp2
 go_loopw [11] (fun i wr=>∃ k:Nat,k<=m/\i=L O k/\Below w.heap.size w wr/\(p.take k).all (KZ b)=true) (fun i _=>m-(intOf i).toNat)
 case atStart=>exact⟨0,Nat.zero_le _,rfl,ah _ _,rfl⟩
 case round =>
  obtain⟨k,hk,rfl,hb,hall⟩:=hrel;have HB:=X hb;have AL:=X hall;clear hb hall;by_cases hlt:k<m
  ·obtain⟨⟨xn,xk⟩,hx⟩:∃ x,p[k]?=ay x:=⟨_,aF (by rw [HM.out]; exact hlt)⟩;obtain⟨q,ix,px⟩:=XT (x:=r5 (xn,xk)) HP.out rfl (by rw [aJ]; exact HM.out) (by rw [List.getElem?_map,hx]; rfl);obtain⟨p0,p1,p2,p3,p4⟩:=px _ HB.out;have MO:=X (Ih (KZ b) p k (xn,xk) hx);have NO:=X (fun h=>Nj (KZ b) p k (xn,xk) hx h);have GX:=X (GP.out _ (List.mem_of_getElem? hx));have BX:=X (show dK (wr.alloc (.cells #[aC xn,L O (kN xk),L O (jF xk),L O (jG xk),aC (kT xk)] 70)) wr.heap.size (cells5 (xn,kN xk,jF xk,jG xk,kT xk)).toArray 70 from dJ wr _ _);have B1:=X (HB.out.alloc HB.out.size (.cells #[aC xn,L O (kN xk),L O (jF xk),L O (jG xk),aC (kT xk)] 70));have G:=X (Le qv b xn (wr.alloc (.cells #[aC xn,L O (kN xk),L O (jF xk),L O (jG xk),aC (kT xk)] 70)) (HL.out.on B1.out) h5);have GC:=X (show KZ b (xn,xk)=match XV b xn with
    | some y=>eU y.2 xk
    | none=>false from rfl)
   obtain⟨gg,hgg⟩:∃ g,KZ b (xn,xk)=g:=⟨_,rfl⟩;rw [hgg] at GC MO NO;simp only [r5] at p0 p1 p2 p3 p4;clear hx px hgg;go_wp2_with fail;refine G.out.mono ?_;rintro e2 w2 ⟨he2,hb2⟩;have B2:=X (B1.out.trans (hb2.mono B1.out.size));obtain⟨x0,x1,x2,x3,x4⟩:=fA (BX.out.on hb2);simp only at x0 x1 x2 x3 x4;have hwl:wr.heap.size<w2.heap.size:=by have:=hb2.size; simp at this; omega
   rcases hg:XV b xn with _|⟨yn,yk⟩
   ·rw [hg] at he2 GC;subst he2;have R:=X (show r=false by rw [CO.out]; exact NO.out GC.out);clear hb2 G B1 BX ix p0 p1 p2 p3 p4 hg;unfold ofV;go_wp2;go_ret;exact⟨eG R.out.symm,B2.out.alloc B2.out.size _⟩
   ·obtain⟨hm1,hm2⟩:=Tw hg;obtain rfl:yn=xn:=hm2;rw [hg] at he2 GC;subst he2;have WC:=X (fun W=>Qr yn xk yk W GX.out (GB.out _ hm1));simp only [r5] at WC;clear hb2 G B1 BX ix p0 p1 p2 p3 p4 hg hm1;unfold ofV;simp only [r5];go_wp2_with fail;refine (WC.out _).mono ?_;rintro e3 w3 ⟨rfl,hb3⟩;have B3:=X ((B2.out.alloc B2.out.size (.cells #[aC yn,L O (kN yk),L O (jF yk),L O (jG yk),aC (kT yk)] 70)).trans (hb3.mono (B2.out.alloc B2.out.size (.cells #[aC yn,L O (kN yk),L O (jF yk),L O (jG yk),aC (kT yk)] 70)).size));rw [<- GC.out];clear hb3 B2 x0 x1 x2 x3 x4 hwl WC;cases gg
    ·have R:=X (show r=false by rw [CO.out]; exact NO.out rfl);go_wp2;go_ret;exact⟨eG R.out.symm,B3.out⟩
    ·go_wp2
     go_roundw
     case rel=>exact⟨k+1,by omega,by go_num,B3.out,by rw [MO.out,AL.out]; rfl⟩
     case measure=>simp [intOf]; omega
  ·obtain rfl:k=m:=by omega
   have R:=X (show r=true by rw [CO.out,<- Zn _ p _ HM.out]; exact AL.out);go_wp2;go_ret;exact⟨eG R.out.symm,HB.out⟩
end Rl
namespace Av
open Go.RowKit Go.Sort Rw YtmklifheakemeaaGreat.Nm Pr Bk
end Av
namespace Bk
open Go.RowKit Go.Sort Rw YtmklifheakemeaaGreat.Nm Pr
def Ck (near:List Int) (n:Int):Int:=(near[(U n 0 near.length).toNat]?).getD (-1)
theorem Jt (me n:Int) (nv:Sl) (av sv ev ov:Value) (l:List Int) (w:World) (hs:qJ w (dU nv) l) (hl:l.length<=900) (h1:-9223372036854775808<=n) (h2:n<=9223372036854775807) :
  Calls aD 12 #[aG #[L O me,dU nv,av,sv,ev,ov],L O n] w fun e w'=>e=.returned (L O (Ck l n))/\Below w.heap.size w w':=by
 obtain⟨no,nn,nc⟩:=nv;obtain⟨q1,q2,hq⟩:=hs.len;obtain⟨rfl,rfl,rfl⟩:no=q1/\nn=l.length/\nc=q2:=by
  have:Z no nn nc=Z q1 l.length q2:=hq;simpa using this
 obtain⟨nn,hnn⟩:∃ n,n=l.length:=⟨_,rfl⟩;simp only [<- hnn] at hs ⊢;have NB:=fM w (.cells #[L O me,Z no nn nc,av,sv,ev,ov] 28);have B0:=X NB;have X2:=X (dJ w #[L O me,Z no nn nc,av,sv,ev,ov] 28);have HS:=X (hs.on NB);have HN:=X hnn;have nl:nn<=900:=by omega
 clear NB hs hq hnn hl;show Calls aD 12 #[aG #[L O me,Z no nn nc,av,sv,ev,ov],L O n] w _;go_enter Tryz.func12,Tryz.ntmps12;go_upto_region 1 with fail;generalize w.alloc (.cells #[L O me,Z no nn nc,av,sv,ev,ov] 28)=W at *;have x1:=X2.out.cell 1;simp only [aj,ak,aA] at x1;have WI:=aM n 0 (nn:Int) W (by omega) (by decide) (by omega) h1 h2;have WB:=Wi.jv n 0 (nn:Int) (by omega);have SD:=X (show Ck l n=(l[(U n 0 (nn:Int)).toNat]?).getD (-1) from by unfold Ck; rw [HN.out]);generalize U n 0 (nn:Int)=y at *;obtain⟨m,rfl⟩:∃ m:Nat,y=m:=⟨y.toNat,by omega⟩;rw [Int.toNat_natCast] at SD;go_wp2_with fail;refine WI.mono ?_;rintro e2 w2 ⟨rfl,rfl⟩;clear WI;by_cases hm:m<nn
 ·have hm2:(m:Int)<(nn:Int):=by omega
  obtain⟨z,hz⟩:∃ z,l[m]?=ay z:=⟨_,aF (by rw [<- HN.out]; exact hm)⟩;obtain⟨p,ix,px⟩:=elI HS.out rfl HN.out.symm hz;have p0:=px.2 W (ah _ _);rw [hz] at SD;clear px hz;go_wp2_with fail;go_ret;exact⟨by rw [SD.out]; rfl,B0.out⟩
 ·have hm2:¬ ((m:Int)<(nn:Int)):=by omega
  rw [List.getElem?_eq_none (by have:=HN.out; omega)] at SD;go_wp2_with fail;go_ret;exact⟨by rw [SD.out]; rfl,B0.out⟩
end Bk
namespace Av
open Go.RowKit Go.Sort Rw YtmklifheakemeaaGreat.Nm Pr Bk
def afk (_:Nat) (bq:Nat) (_ _ _ z3 z4:Int) (_:Option Addr) (_ _:Nat) (_:Option Addr) (_ _:Nat) (i:Nat) (v:Value) (_:World):Prop :=
 match i with
 | 0=>v=V (ay ⟨bq,3,Y⟩)
 | 1=>v=L O z3
 | 2=>v=L O (U z3 0 4)
 | 3=>v=V (ay ⟨bq,4,Y⟩)
 | 4=>v=L O z4
 | 5=>v=L O (U z4 0 2)
 | 6=>v=aG #[L O (U z3 0 4),L O (U z4 0 2)]
 | 7=>True
 | 8=>True
 | _=>True
noncomputable def aaR:Code:=((Tryz.f11.body.bind (eO 12)).getD .skip)
theorem ahn (Q:Exit->Act->World->Prop) (W:World) (bq:Nat) (z0 z1 z2 z3 z4:Int) (h1:Option Addr) (h2 h3:Nat) (g1:Option Addr) (g2 g3:Nat) (u0 u1 u2 u3 u4 u5 u7 u8 u9 u10 u11 u12 u13 u14 u15 u16 u17 u18 u19 u20 u21 u22 u23 u24 u25 u26 u27 u28 u29 u30 u31 u32 u33 u34 u35 u36 u37 u38 u39 u40 u41 u42 u43 u44 u45 u46 u47 u48 u49 u50 u51 u52 u53 u54 u55 u56 u57 u58 u59 u60 u61 u62 u63 u64 u65 u66 u67 u68 u69 u70 u71 u72 u73 u74 u75 u76 u77 u78 u79 u80 u81 u82 u83 u84 u85 u86 u87 u88 u89 u90 u91 u92 u93 u94 u95 u96 u97 u98 u99 u100 u101 u102 u103 u104 u105 u106 u107 u108 u109 u110 u111 u112 u113 u114 u115 u116 u117 u118 u119 u120 u121 u122 u123:Value)
  (q:dK W bq #[L O z0,L O z1,L O z2,L O z3,L O z4,Z h1 h2 h3,Z g1 g2 g3] 86) (d3:-9223372036854775808<=z3/\z3<=9223372036854775807) (d4:-9223372036854775808<=z4/\z4<=9223372036854775807)
  (hQ:∀ (x:World) (bb:Nat) (v46 v47 v48 v49 v50 v51 v52:Value),W.heap.size<=bb->dK x bb #[L O (U z3 0 4),L O (U z4 0 2)] 31->Below W.heap.size W x->Q .normal ⟨(u0::u1::u2::u3::u4::u5::V (ay ⟨bq,0,Y⟩)::u7::V (ay ⟨bb,0,Y⟩)::u9::u10::u11::u12::u13::u14::u15::u16::u17::u18::u19::u20::u21::u22::u23::u24::u25::u26::u27::u28::u29::u30::u31::u32::u33::u34::u35::u36::u37::u38::u39::u40::u41::u42::u43::u44::u45::v46::v47::v48::v49::v50::v51::v52::u53::u54::u55::u56::u57::u58::u59::u60::u61::u62::u63::u64::u65::u66::u67::u68::u69::u70::u71::u72::u73::u74::u75::u76::u77::u78::u79::u80::u81::u82::u83::u84::u85::u86::u87::u88::u89::u90::u91::u92::u93::u94::u95::u96::u97::u98::u99::u100::u101::u102::u103::u104::u105::u106::u107::u108::u109::u110::u111::u112::u113::u114::u115::u116::u117::u118::u119::u120::u121::u122::u123::[]).toArray,[]⟩ x) :
  Code.wp aD aaR Q ⟨(u0::u1::u2::u3::u4::u5::V (ay ⟨bq,0,Y⟩)::u7::u8::u9::u10::u11::u12::u13::u14::u15::u16::u17::u18::u19::u20::u21::u22::u23::u24::u25::u26::u27::u28::u29::u30::u31::u32::u33::u34::u35::u36::u37::u38::u39::u40::u41::u42::u43::u44::u45::u46::u47::u48::u49::u50::u51::u52::u53::u54::u55::u56::u57::u58::u59::u60::u61::u62::u63::u64::u65::u66::u67::u68::u69::u70::u71::u72::u73::u74::u75::u76::u77::u78::u79::u80::u81::u82::u83::u84::u85::u86::u87::u88::u89::u90::u91::u92::u93::u94::u95::u96::u97::u98::u99::u100::u101::u102::u103::u104::u105::u106::u107::u108::u109::u110::u111::u112::u113::u114::u115::u116::u117::u118::u119::u120::u121::u122::u123::[]).toArray,[]⟩ W:=by
 have HQ:=X hQ;have HQ6:=X q;have D3:=X d3;have D4:=X d4;clear hQ q d3 d4;unfold aaR
 conv=>arg 2; whnf
 have nb6:∀ i,i<9->[46,47,48,49,50,51,52,8,8].getD i 0≠6:=by decide
 refine Rg.xY 9 7 8 6 (fun i=>[46,47,48,49,50,51,52,8,8].getD i 0) (fun i=>9) (afk W.heap.size bq z0 z1 z2 z3 z4 h1 h2 h3 g1 g2 g3) 31 #[L O 0,L O 0] (fun v=>match v with | aG c=>c | _=>#[]) (by kernel_rfl) (by kernel_rfl) rfl (by decide) (by decide) (by decide) (by decide) (by decide) (by decide) (by decide) (fun i j hi hj h1 h2 h=>(by decide:∀ i,i<9->∀ j,j<9->i≠8->j≠8->[46,47,48,49,50,51,52,8,8].getD i 0=[46,47,48,49,50,51,52,8,8].getD j 0->i=j) i hi j hj h1 h2 h) (fun i hi=>(by decide:∀ i,i<9->[46,47,48,49,50,51,52,8,8].getD i 0<124) i hi) ?_ ?_ ?_ ?_ ?_ ?_
 ·intro i v x x' hi h hb;rcases (by omega:i=0\/i=1\/i=2\/i=3\/i=4\/i=5\/i=6\/i=7\/i=8) with rfl|rfl|rfl|rfl|rfl|rfl|rfl|rfl|rfl
  ·exact h
  ·exact h
  ·exact h
  ·exact h
  ·exact h
  ·exact h
  ·exact h
  ·exact h
  ·exact h
 ·intro o ho;cases ho;exact⟨⟨⟨7,.data⟩,by simp,rfl,rfl⟩,⟨⟨6,.data⟩,by simp,rfl,rfl⟩⟩
 ·intro i o hi ZM Rj ho a x hb seen K hK;clear HQ;rcases (by omega:i=0\/i=1\/i=2\/i=3\/i=4\/i=5\/i=6) with rfl|rfl|rfl|rfl|rfl|rfl|rfl
  ·cases ho;have e6:a.eval (au 6)=V (ay ⟨bq,0,Y⟩):=seen.kp 6 _ nb6 rfl;exact Rg.dD rfl rfl (Rg.dR a.eval _ 86 (au 6) 3 rfl (by rw [e6]; simp [go_sem])) (hK _ x rfl (ah _ _))
  ·cases ho;have e46:a.eval (au 46)=V (ay ⟨bq,3,Y⟩):=seen.at_ ⟨0,.data⟩ (by simp) rfl (by decide) (by decide) (aB (by decide));have y3:=(HQ6.out.on hb).cell 3;simp only [aj,ak,aA] at y3;exact Rg.dD rfl rfl (Rg.dX a.eval _ 3 (au 46) rfl (by rw [e46]; simp [go_sem,y3])) (hK _ x rfl (ah _ _))
  ·cases ho;have e47:a.eval (au 47)=L O z3:=seen.at_ ⟨1,.data⟩ (by simp) rfl (by decide) (by decide) (aB (by decide));exact Rg.gU rfl rfl (Rg.Ah a.eval _ (au 47) (.const (L O 0)) (.const (L O 4)) 3 13 rfl e47 rfl rfl rfl _ (gF aI rfl rfl _ _)) (aM z3 0 4 x (by omega) (by omega) (by omega) D3.out.1 D3.out.2) fun e w1 h=>by
    obtain⟨rfl,rfl⟩:=h;exact⟨_,rfl,hK _ _ rfl (ah _ _)⟩
  ·cases ho;have e6:a.eval (au 6)=V (ay ⟨bq,0,Y⟩):=seen.kp 6 _ nb6 rfl;exact Rg.dD rfl rfl (Rg.dR a.eval _ 86 (au 6) 4 rfl (by rw [e6]; simp [go_sem])) (hK _ x rfl (ah _ _))
  ·cases ho;have e49:a.eval (au 49)=V (ay ⟨bq,4,Y⟩):=seen.at_ ⟨3,.data⟩ (by simp) rfl (by decide) (by decide) (aB (by decide));have y4:=(HQ6.out.on hb).cell 4;simp only [aj,ak,aA] at y4;exact Rg.dD rfl rfl (Rg.dX a.eval _ 3 (au 49) rfl (by rw [e49]; simp [go_sem,y4])) (hK _ x rfl (ah _ _))
  ·cases ho;have e50:a.eval (au 50)=L O z4:=seen.at_ ⟨4,.data⟩ (by simp) rfl (by decide) (by decide) (aB (by decide));exact Rg.gU rfl rfl (Rg.Ah a.eval _ (au 50) (.const (L O 0)) (.const (L O 2)) 3 13 rfl e50 rfl rfl rfl _ (gF aI rfl rfl _ _)) (aM z4 0 2 x (by omega) (by omega) (by omega) D4.out.1 D4.out.2) fun e w1 h=>by
    obtain⟨rfl,rfl⟩:=h;exact⟨_,rfl,hK _ _ rfl (ah _ _)⟩
  ·cases ho;have e48:a.eval (au 48)=L O (U z3 0 4):=seen.at_ ⟨2,.data⟩ (by simp) rfl (by decide) (by decide) (aB (by decide));have e51:a.eval (au 51)=L O (U z4 0 2):=seen.at_ ⟨5,.data⟩ (by simp) rfl (by decide) (by decide) (aB (by decide));exact Rg.dD rfl rfl (Rg.jM a.eval _ 31 #[(0,au 48),(1,au 51)] rfl (ps:=#[(0,L O (U z3 0 4)),(1,L O (U z4 0 2))]) (by simp only [aH,aK,aL,e48,e51]) (by simp [go_sem])) (hK _ x rfl (ah _ _))
 ·intro o ho a x K hK;cases ho;exact Rg.dD rfl rfl (Rg.Ai a.eval _ 31 rfl (by simp [go_sem])) hK
 ·intro o ho a x bb v D hc hD hb hA hC Uu hbb nQ K hK;clear HQ;cases ho;have hv:v=aG #[L O (U z3 0 4),L O (U z4 0 2)]:=Uu;subst hv;obtain⟨x0,x1⟩:=nQ.cs2;obtain⟨f0,f1⟩:=nQ.fs2;have hst:(Instr.storeAt 31 (V (ay ⟨bb,0,Y⟩)) (aG #[L O (U z3 0 4),L O (U z4 0 2)])).run aD x=.ok () ((x.setCell ⟨bb,0,Y⟩ (L O (U z3 0 4))).setCell ⟨bb,1,Y⟩ (L O (U z4 0 2))):=by simp [go_sem,x0,x1,f0,f1]
  have adh:=dW (k:=1) (dW (k:=0) nQ (L O (U z3 0 4))) (L O (U z4 0 2));refine Rg.fP 31 (au 8) (au 52) rfl rfl rfl rfl hA hC hst (hK _ ((hb.setCell (p:=⟨bb,0,Y⟩) hbb _).setCell (p:=⟨bb,1,Y⟩) hbb _) (by simpa using adh) ?_);exact fun j u hj hjA hjS hdj hnl hls h=>by
   rcases (by omega:j=0\/j=1\/j=2\/j=3\/j=4\/j=5\/j=6) with rfl|rfl|rfl|rfl|rfl|rfl|rfl
   ·have h2:u=V (ay ⟨bq,3,Y⟩):=h; exact h2
   ·have h2:u=L O z3:=h; exact h2
   ·have h2:u=L O (U z3 0 4):=h; exact h2
   ·have h2:u=V (ay ⟨bq,4,Y⟩):=h; exact h2
   ·have h2:u=L O z4:=h; exact h2
   ·have h2:u=L O (U z4 0 2):=h; exact h2
   ·have h2:u=aG #[L O (U z3 0 4),L O (U z4 0 2)]:=h; exact h2
 ·intro a x bb v df sz kp gA gC hbb nQ Uu hbel ⟨vs,hv⟩;have hv9:v=aG #[L O (U z3 0 4),L O (U z4 0 2)]:=Uu;subst hv9;have g8:a.tmps[8]?=ay (V (ay ⟨bb,0,Y⟩)):=gA;have rV:∀ j,(j<8\/53<=j)->a.tmps[j]?=(u0::u1::u2::u3::u4::u5::V (ay ⟨bq,0,Y⟩)::u7::u8::u9::u10::u11::u12::u13::u14::u15::u16::u17::u18::u19::u20::u21::u22::u23::u24::u25::u26::u27::u28::u29::u30::u31::u32::u33::u34::u35::u36::u37::u38::u39::u40::u41::u42::u43::u44::u45::u46::u47::u48::u49::u50::u51::u52::u53::u54::u55::u56::u57::u58::u59::u60::u61::u62::u63::u64::u65::u66::u67::u68::u69::u70::u71::u72::u73::u74::u75::u76::u77::u78::u79::u80::u81::u82::u83::u84::u85::u86::u87::u88::u89::u90::u91::u92::u93::u94::u95::u96::u97::u98::u99::u100::u101::u102::u103::u104::u105::u106::u107::u108::u109::u110::u111::u112::u113::u114::u115::u116::u117::u118::u119::u120::u121::u122::u123::[])[j]?:=fun j hj=>(kp j (fun i hi h=>by have:=(by decide:∀ i,i<9->8<=[46,47,48,49,50,51,52,8,8].getD i 0/\[46,47,48,49,50,51,52,8,8].getD i 0<53) i hi; omega)).trans aj;obtain⟨mid,hmid,rfl⟩:=Rg.gI 8 45 df sz (by simp) rV
  match mid,hmid with
  | v8::v9::v10::v11::v12::v13::v14::v15::v16::v17::v18::v19::v20::v21::v22::v23::v24::v25::v26::v27::v28::v29::v30::v31::v32::v33::v34::v35::v36::v37::v38::v39::v40::v41::v42::v43::v44::v45::v46::v47::v48::v49::v50::v51::v52::[],_ =>
   obtain rfl:v8=V (ay ⟨bb,0,Y⟩):=J g8;obtain rfl:v9=u9:=J (kp 9 (fun i hi h=>(by decide:∀ i,i<9->[46,47,48,49,50,51,52,8,8].getD i 0≠9) i hi h));obtain rfl:v10=u10:=J (kp 10 (fun i hi h=>(by decide:∀ i,i<9->[46,47,48,49,50,51,52,8,8].getD i 0≠10) i hi h));obtain rfl:v11=u11:=J (kp 11 (fun i hi h=>(by decide:∀ i,i<9->[46,47,48,49,50,51,52,8,8].getD i 0≠11) i hi h));obtain rfl:v12=u12:=J (kp 12 (fun i hi h=>(by decide:∀ i,i<9->[46,47,48,49,50,51,52,8,8].getD i 0≠12) i hi h));obtain rfl:v13=u13:=J (kp 13 (fun i hi h=>(by decide:∀ i,i<9->[46,47,48,49,50,51,52,8,8].getD i 0≠13) i hi h));obtain rfl:v14=u14:=J (kp 14 (fun i hi h=>(by decide:∀ i,i<9->[46,47,48,49,50,51,52,8,8].getD i 0≠14) i hi h));obtain rfl:v15=u15:=J (kp 15 (fun i hi h=>(by decide:∀ i,i<9->[46,47,48,49,50,51,52,8,8].getD i 0≠15) i hi h));obtain rfl:v16=u16:=J (kp 16 (fun i hi h=>(by decide:∀ i,i<9->[46,47,48,49,50,51,52,8,8].getD i 0≠16) i hi h));obtain rfl:v17=u17:=J (kp 17 (fun i hi h=>(by decide:∀ i,i<9->[46,47,48,49,50,51,52,8,8].getD i 0≠17) i hi h));obtain rfl:v18=u18:=J (kp 18 (fun i hi h=>(by decide:∀ i,i<9->[46,47,48,49,50,51,52,8,8].getD i 0≠18) i hi h));obtain rfl:v19=u19:=J (kp 19 (fun i hi h=>(by decide:∀ i,i<9->[46,47,48,49,50,51,52,8,8].getD i 0≠19) i hi h));obtain rfl:v20=u20:=J (kp 20 (fun i hi h=>(by decide:∀ i,i<9->[46,47,48,49,50,51,52,8,8].getD i 0≠20) i hi h));obtain rfl:v21=u21:=J (kp 21 (fun i hi h=>(by decide:∀ i,i<9->[46,47,48,49,50,51,52,8,8].getD i 0≠21) i hi h));obtain rfl:v22=u22:=J (kp 22 (fun i hi h=>(by decide:∀ i,i<9->[46,47,48,49,50,51,52,8,8].getD i 0≠22) i hi h));obtain rfl:v23=u23:=J (kp 23 (fun i hi h=>(by decide:∀ i,i<9->[46,47,48,49,50,51,52,8,8].getD i 0≠23) i hi h));obtain rfl:v24=u24:=J (kp 24 (fun i hi h=>(by decide:∀ i,i<9->[46,47,48,49,50,51,52,8,8].getD i 0≠24) i hi h));obtain rfl:v25=u25:=J (kp 25 (fun i hi h=>(by decide:∀ i,i<9->[46,47,48,49,50,51,52,8,8].getD i 0≠25) i hi h));obtain rfl:v26=u26:=J (kp 26 (fun i hi h=>(by decide:∀ i,i<9->[46,47,48,49,50,51,52,8,8].getD i 0≠26) i hi h));obtain rfl:v27=u27:=J (kp 27 (fun i hi h=>(by decide:∀ i,i<9->[46,47,48,49,50,51,52,8,8].getD i 0≠27) i hi h));obtain rfl:v28=u28:=J (kp 28 (fun i hi h=>(by decide:∀ i,i<9->[46,47,48,49,50,51,52,8,8].getD i 0≠28) i hi h));obtain rfl:v29=u29:=J (kp 29 (fun i hi h=>(by decide:∀ i,i<9->[46,47,48,49,50,51,52,8,8].getD i 0≠29) i hi h));obtain rfl:v30=u30:=J (kp 30 (fun i hi h=>(by decide:∀ i,i<9->[46,47,48,49,50,51,52,8,8].getD i 0≠30) i hi h));obtain rfl:v31=u31:=J (kp 31 (fun i hi h=>(by decide:∀ i,i<9->[46,47,48,49,50,51,52,8,8].getD i 0≠31) i hi h));obtain rfl:v32=u32:=J (kp 32 (fun i hi h=>(by decide:∀ i,i<9->[46,47,48,49,50,51,52,8,8].getD i 0≠32) i hi h));obtain rfl:v33=u33:=J (kp 33 (fun i hi h=>(by decide:∀ i,i<9->[46,47,48,49,50,51,52,8,8].getD i 0≠33) i hi h));obtain rfl:v34=u34:=J (kp 34 (fun i hi h=>(by decide:∀ i,i<9->[46,47,48,49,50,51,52,8,8].getD i 0≠34) i hi h));obtain rfl:v35=u35:=J (kp 35 (fun i hi h=>(by decide:∀ i,i<9->[46,47,48,49,50,51,52,8,8].getD i 0≠35) i hi h));obtain rfl:v36=u36:=J (kp 36 (fun i hi h=>(by decide:∀ i,i<9->[46,47,48,49,50,51,52,8,8].getD i 0≠36) i hi h));obtain rfl:v37=u37:=J (kp 37 (fun i hi h=>(by decide:∀ i,i<9->[46,47,48,49,50,51,52,8,8].getD i 0≠37) i hi h));obtain rfl:v38=u38:=J (kp 38 (fun i hi h=>(by decide:∀ i,i<9->[46,47,48,49,50,51,52,8,8].getD i 0≠38) i hi h));obtain rfl:v39=u39:=J (kp 39 (fun i hi h=>(by decide:∀ i,i<9->[46,47,48,49,50,51,52,8,8].getD i 0≠39) i hi h));obtain rfl:v40=u40:=J (kp 40 (fun i hi h=>(by decide:∀ i,i<9->[46,47,48,49,50,51,52,8,8].getD i 0≠40) i hi h));obtain rfl:v41=u41:=J (kp 41 (fun i hi h=>(by decide:∀ i,i<9->[46,47,48,49,50,51,52,8,8].getD i 0≠41) i hi h));obtain rfl:v42=u42:=J (kp 42 (fun i hi h=>(by decide:∀ i,i<9->[46,47,48,49,50,51,52,8,8].getD i 0≠42) i hi h));obtain rfl:v43=u43:=J (kp 43 (fun i hi h=>(by decide:∀ i,i<9->[46,47,48,49,50,51,52,8,8].getD i 0≠43) i hi h));obtain rfl:v44=u44:=J (kp 44 (fun i hi h=>(by decide:∀ i,i<9->[46,47,48,49,50,51,52,8,8].getD i 0≠44) i hi h));obtain rfl:v45=u45:=J (kp 45 (fun i hi h=>(by decide:∀ i,i<9->[46,47,48,49,50,51,52,8,8].getD i 0≠45) i hi h));exact HQ.out x bb _ _ _ _ _ _ _ hbb nQ hbel
def afm (B:Nat) (bq _ _:Nat) (z0 _ _ _ _ t1 t2 i1 i2:Int) (h1:Option Addr) (h2 h3:Nat) (g1:Option Addr) (g2 g3:Nat) (has vals:List Int) (i:Nat) (v:Value) (x:World):Prop :=
 match i with
 | 0=>v=V (ay ⟨bq,0,Y⟩)
 | 1=>v=L O z0
 | 2=>v=L O (U z0 1 7)
 | 3=>v=aG #[L O t1,L O t2]
 | 4=>v=aG #[L O i1,L O i2]
 | 5=>v=V (ay ⟨bq,5,Y⟩)
 | 6=>v=aG #[Z h1 h2 h3,Z g1 g2 g3]
 | 7=>∃ s:Sl,v=dU s/\gT x B (dU s) ((qF has vals 7).map r5)
 | 8=>∃ s:Sl,v=aG #[L O (U z0 1 7),L O t1,L O t2,L O i1,L O i2,dU s,Z Y 0 0]/\gT x B (dU s) ((qF has vals 7).map r5)
 | 9=>True
 | 10=>True
 | _=>True
noncomputable def aaS:Code:=((Tryz.f11.body.bind (eO 14)).getD .skip)
theorem aho (Q:Exit->Act->World->Prop) (W:World) (bq b7 b8:Nat) (z0 z1 z2 z3 z4 t1 t2 i1 i2:Int) (h1:Option Addr) (h2 h3:Nat) (g1:Option Addr) (g2 g3:Nat) (has vals:List Int) (u0 u1 u2 u3 u4 u5 u9 u10 u11 u12 u13 u14 u15 u16 u17 u18 u19 u20 u21 u22 u23 u24 u25 u26 u27 u28 u29 u30 u31 u32 u33 u34 u35 u36 u37 u38 u39 u40 u41 u42 u43 u44 u45 u46 u47 u48 u49 u50 u51 u52 u53 u54 u55 u56 u57 u58 u59 u60 u61 u62 u63 u64 u65 u66 u67 u68 u69 u70 u71 u72 u73 u74 u75 u76 u77 u78 u79 u80 u81 u82 u83 u84 u85 u86 u87 u88 u89 u90 u91 u92 u93 u94 u95 u96 u97 u98 u99 u100 u101 u102 u103 u104 u105 u106 u107 u108 u109 u110 u111 u112 u113 u114 u115 u116 u117 u118 u119 u120 u121 u122 u123:Value)
  (q:dK W bq #[L O z0,L O z1,L O z2,L O z3,L O z4,Z h1 h2 h3,Z g1 g2 g3] 86) (d0:-9223372036854775808<=z0/\z0<=9223372036854775807) (x7:dK W b7 #[L O t1,L O t2] 31) (x8:dK W b8 #[L O i1,L O i2] 31) (ih:In.nR W (Z h1 h2 h3) has) (iv:In.nR W (Z g1 g2 g3) vals) (lh:has.length<=maxLen) (lv:vals.length<=maxLen)
  (hQ:∀ (x:World) (bb:Nat) (v57 v58 v59 v60 v61 v62 v63 v64 v65:Value) (m1:Option Addr) (m2 m3:Nat),W.heap.size<=bb->dK x bb #[L O (U z0 1 7),L O t1,L O t2,L O i1,L O i2,Z m1 m2 m3,Z Y 0 0] 41->gT x W.heap.size (Z m1 m2 m3) ((qF has vals 7).map r5)->Below W.heap.size W x->Q .normal ⟨(u0::u1::u2::u3::u4::u5::V (ay ⟨bq,0,Y⟩)::V (ay ⟨b7,0,Y⟩)::V (ay ⟨b8,0,Y⟩)::u9::V (ay ⟨bb,0,Y⟩)::u11::u12::u13::u14::u15::u16::u17::u18::u19::u20::u21::u22::u23::u24::u25::u26::u27::u28::u29::u30::u31::u32::u33::u34::u35::u36::u37::u38::u39::u40::u41::u42::u43::u44::u45::u46::u47::u48::u49::u50::u51::u52::u53::u54::u55::u56::v57::v58::v59::v60::v61::v62::v63::v64::v65::u66::u67::u68::u69::u70::u71::u72::u73::u74::u75::u76::u77::u78::u79::u80::u81::u82::u83::u84::u85::u86::u87::u88::u89::u90::u91::u92::u93::u94::u95::u96::u97::u98::u99::u100::u101::u102::u103::u104::u105::u106::u107::u108::u109::u110::u111::u112::u113::u114::u115::u116::u117::u118::u119::u120::u121::u122::u123::[]).toArray,[]⟩ x) :
  Code.wp aD aaS Q ⟨(u0::u1::u2::u3::u4::u5::V (ay ⟨bq,0,Y⟩)::V (ay ⟨b7,0,Y⟩)::V (ay ⟨b8,0,Y⟩)::u9::u10::u11::u12::u13::u14::u15::u16::u17::u18::u19::u20::u21::u22::u23::u24::u25::u26::u27::u28::u29::u30::u31::u32::u33::u34::u35::u36::u37::u38::u39::u40::u41::u42::u43::u44::u45::u46::u47::u48::u49::u50::u51::u52::u53::u54::u55::u56::u57::u58::u59::u60::u61::u62::u63::u64::u65::u66::u67::u68::u69::u70::u71::u72::u73::u74::u75::u76::u77::u78::u79::u80::u81::u82::u83::u84::u85::u86::u87::u88::u89::u90::u91::u92::u93::u94::u95::u96::u97::u98::u99::u100::u101::u102::u103::u104::u105::u106::u107::u108::u109::u110::u111::u112::u113::u114::u115::u116::u117::u118::u119::u120::u121::u122::u123::[]).toArray,[]⟩ W:=by
 have HQ:=X hQ;have HQ6:=X q;have D0:=X d0;have H7:=X x7;have H8:=X x8;have IH:=X ih;have IV:=X iv;have LH:=X lh;have LV:=X lv;clear hQ q d0 x7 x8 ih iv lh lv;unfold aaS
 conv=>arg 2; whnf
 have nb6:∀ i,i<11->[57,58,59,60,61,62,63,64,65,10,10].getD i 0≠6:=by decide
 have nb7:∀ i,i<11->[57,58,59,60,61,62,63,64,65,10,10].getD i 0≠7:=by decide
 have nb8:∀ i,i<11->[57,58,59,60,61,62,63,64,65,10,10].getD i 0≠8:=by decide
 refine Rg.xY 11 9 10 8 (fun i=>[57,58,59,60,61,62,63,64,65,10,10].getD i 0) (fun i=>if i=7 then 8 else 11) (afm W.heap.size bq b7 b8 z0 z1 z2 z3 z4 t1 t2 i1 i2 h1 h2 h3 g1 g2 g3 has vals) 41 #[L O 0,L O 0,L O 0,L O 0,L O 0,Z Y 0 0,Z Y 0 0] (fun v=>match v with | aG c=>c | _=>#[]) (by kernel_rfl) (by kernel_rfl) rfl (by decide) (by decide) (by decide) (by decide) (by decide) (by decide) (by decide) (fun i j hi hj h1 h2 h=>(by decide:∀ i,i<11->∀ j,j<11->i≠10->j≠10->[57,58,59,60,61,62,63,64,65,10,10].getD i 0=[57,58,59,60,61,62,63,64,65,10,10].getD j 0->i=j) i hi j hj h1 h2 h) (fun i hi=>(by decide:∀ i,i<11->[57,58,59,60,61,62,63,64,65,10,10].getD i 0<124) i hi) ?_ ?_ ?_ ?_ ?_ ?_
 ·intro i v x x' hi h hb;rcases (by omega:i=0\/i=1\/i=2\/i=3\/i=4\/i=5\/i=6\/i=7\/i=8\/i=9\/i=10) with rfl|rfl|rfl|rfl|rfl|rfl|rfl|rfl|rfl|rfl|rfl
  ·exact h
  ·exact h
  ·exact h
  ·exact h
  ·exact h
  ·exact h
  ·exact h
  ·obtain⟨s,h1,h2⟩:=h; exact⟨s,h1,Bk.dI h2 hb⟩
  ·obtain⟨s,h1,h2⟩:=h; exact⟨s,h1,Bk.dI h2 hb⟩
  ·exact h
  ·exact h
 ·intro o ho;cases ho;exact⟨⟨⟨9,.data⟩,by simp,rfl,rfl⟩,⟨⟨8,.data⟩,by simp,rfl,rfl⟩⟩
 ·intro i o hi ZM Rj ho a x hb seen K hK;clear HQ;rcases (by omega:i=0\/i=1\/i=2\/i=3\/i=4\/i=5\/i=6\/i=7\/i=8) with rfl|rfl|rfl|rfl|rfl|rfl|rfl|rfl|rfl
  ·cases ho;have e6:a.eval (au 6)=V (ay ⟨bq,0,Y⟩):=seen.kp 6 _ nb6 rfl;exact Rg.dD rfl rfl (Rg.dR a.eval _ 86 (au 6) 0 rfl (by rw [e6]; simp [go_sem])) (hK _ x rfl (ah _ _))
  ·cases ho;have e57:a.eval (au 57)=V (ay ⟨bq,0,Y⟩):=seen.at_ ⟨0,.data⟩ (by simp) rfl (by decide) (by decide) (aB (by decide));have y0:=(HQ6.out.on hb).cell 0;simp only [aj,ak] at y0;exact Rg.dD rfl rfl (Rg.dX a.eval _ 3 (au 57) rfl (by rw [e57]; simp [go_sem,y0])) (hK _ x rfl (ah _ _))
  ·cases ho;have e58:a.eval (au 58)=L O z0:=seen.at_ ⟨1,.data⟩ (by simp) rfl (by decide) (by decide) (aB (by decide));exact Rg.gU rfl rfl (Rg.Ah a.eval _ (au 58) (.const (L O 1)) (.const (L O 7)) 3 13 rfl e58 rfl rfl rfl _ (gF aI rfl rfl _ _)) (aM z0 1 7 x (by omega) (by omega) (by omega) D0.out.1 D0.out.2) fun e w1 h=>by
    obtain⟨rfl,rfl⟩:=h;exact⟨_,rfl,hK _ _ rfl (ah _ _)⟩
  ·cases ho;have e7:a.eval (au 7)=V (ay ⟨b7,0,Y⟩):=seen.kp 7 _ nb7 rfl;obtain⟨y0,y1⟩:=(H7.out.on hb).cs2;exact Rg.dD rfl rfl (Rg.dX a.eval _ 31 (au 7) rfl (by rw [e7]; simp [go_sem,y0,y1])) (hK _ x rfl (ah _ _))
  ·cases ho;have e8:a.eval (au 8)=V (ay ⟨b8,0,Y⟩):=seen.kp 8 _ nb8 rfl;obtain⟨y0,y1⟩:=(H8.out.on hb).cs2;exact Rg.dD rfl rfl (Rg.dX a.eval _ 31 (au 8) rfl (by rw [e8]; simp [go_sem,y0,y1])) (hK _ x rfl (ah _ _))
  ·cases ho;have e6:a.eval (au 6)=V (ay ⟨bq,0,Y⟩):=seen.kp 6 _ nb6 rfl;exact Rg.dD rfl rfl (Rg.dR a.eval _ 86 (au 6) 5 rfl (by rw [e6]; simp [go_sem])) (hK _ x rfl (ah _ _))
  ·cases ho;have e62:a.eval (au 62)=V (ay ⟨bq,5,Y⟩):=seen.at_ ⟨5,.data⟩ (by simp) rfl (by decide) (by decide) (aB (by decide));have y5:=(HQ6.out.on hb).cell 5;have y6:=(HQ6.out.on hb).cell 6;simp only [aj,ak,aA] at y5 y6;exact Rg.dD rfl rfl (Rg.dX a.eval _ 49 (au 62) rfl (by rw [e62]; simp [go_sem,y5,y6])) (hK _ x rfl (ah _ _))
  ·cases ho;have e63:a.eval (au 63)=aG #[Z h1 h2 h3,Z g1 g2 g3]:=seen.at_ ⟨6,.data⟩ (by simp) rfl (by decide) (by decide) (aB (by decide));exact Rg.gU rfl rfl (Rw.iG a.eval _ (au 63) 49 16 rfl e63 rfl _ (gF Tryz.func16 rfl rfl _ _)) (Tn (Z h1 h2 h3) (Z g1 g2 g3) has vals x (IH.out.on hb) (IV.out.on hb) LH.out LV.out) fun e w1 h=>by
    obtain⟨v,rfl,q1,q2⟩:=h;obtain⟨a1,a2,hvv⟩:=(Row.dH q1).len;have q3:=dO q1 hb.size;rw [hvv] at q3;exact⟨_,rfl,hK _ _ ⟨(a1,_,a2),hvv,q3⟩ q2⟩
  ·cases ho;have e59:a.eval (au 59)=L O (U z0 1 7):=seen.at_ ⟨2,.data⟩ (by simp) rfl (by decide) (by decide) (aB (by decide));have e60:a.eval (au 60)=aG #[L O t1,L O t2]:=seen.at_ ⟨3,.data⟩ (by simp) rfl (by decide) (by decide) (aB (by decide));have e61:a.eval (au 61)=aG #[L O i1,L O i2]:=seen.at_ ⟨4,.data⟩ (by simp) rfl (by decide) (by decide) (aB (by decide));have E64:=seen.at_ ⟨7,.data⟩ (by simp) rfl (by decide) (by decide) (Or.inl rfl);obtain⟨s,q0,q1⟩:=E64;have q0:a.eval (au 64)=dU s:=q0;exact Rg.dD rfl rfl (Rg.jM a.eval _ 41 #[(0,au 59),(1,au 60),(2,au 61),(3,au 64)] rfl (ps:=#[(0,L O (U z0 1 7)),(1,aG #[L O t1,L O t2]),(2,aG #[L O i1,L O i2]),(3,dU s)]) (by simp only [aH,aK,aL,e59,e60,e61,q0]) (by simp [go_sem])) (hK _ x ⟨s,rfl,q1⟩ (ah _ _))
 ·intro o ho a x K hK;cases ho;exact Rg.dD rfl rfl (Rg.Ai a.eval _ 41 rfl (by simp [go_sem])) hK
 ·intro o ho a x bb v D hc hD hb hA hC Uu hbb nQ K hK;clear HQ;cases ho;obtain⟨⟨m1,m2,m3⟩,hv1,hv2⟩:=Uu;subst hv1;obtain⟨x0,x1,x2,x3,x4,x5,x6⟩:=nQ.mI;obtain⟨f0,f1,f2,f3,f4,f5,f6⟩:=nQ.Yb;have hst:(Instr.storeAt 41 (V (ay ⟨bb,0,Y⟩)) (aG #[L O (U z0 1 7),L O t1,L O t2,L O i1,L O i2,Z m1 m2 m3,Z Y 0 0])).run aD x=.ok () (((((((x.setCell ⟨bb,0,Y⟩ (L O (U z0 1 7))).setCell ⟨bb,1,Y⟩ (L O t1)).setCell ⟨bb,2,Y⟩ (L O t2)).setCell ⟨bb,3,Y⟩ (L O i1)).setCell ⟨bb,4,Y⟩ (L O i2)).setCell ⟨bb,5,Y⟩ (Z m1 m2 m3)).setCell ⟨bb,6,Y⟩ (Z Y 0 0)):=by simp [go_sem,x0,x1,x2,x3,x4,x5,x6,f0,f1,f2,f3,f4,f5,f6]
  have adh:=dW (k:=6) (dW (k:=5) (dW (k:=4) (dW (k:=3) (dW (k:=2) (dW (k:=1) (dW (k:=0) nQ (L O (U z0 1 7))) (L O t1)) (L O t2)) (L O i1)) (L O i2)) (Z m1 m2 m3)) (Z Y 0 0);have Zd:But bb x (((((((x.setCell ⟨bb,0,Y⟩ (L O (U z0 1 7))).setCell ⟨bb,1,Y⟩ (L O t1)).setCell ⟨bb,2,Y⟩ (L O t2)).setCell ⟨bb,3,Y⟩ (L O i1)).setCell ⟨bb,4,Y⟩ (L O i2)).setCell ⟨bb,5,Y⟩ (Z m1 m2 m3)).setCell ⟨bb,6,Y⟩ (Z Y 0 0)):=(((((((dP _ bb _ _).trans (dP _ bb _ _)).trans (dP _ bb _ _)).trans (dP _ bb _ _)).trans (dP _ bb _ _)).trans (dP _ bb _ _)).trans (dP _ bb _ _));refine Rg.fP 41 (au 10) (au 65) rfl rfl rfl rfl hA hC hst (hK _ (((((((hb.setCell (p:=⟨bb,0,Y⟩) hbb _).setCell (p:=⟨bb,1,Y⟩) hbb _).setCell (p:=⟨bb,2,Y⟩) hbb _).setCell (p:=⟨bb,3,Y⟩) hbb _).setCell (p:=⟨bb,4,Y⟩) hbb _).setCell (p:=⟨bb,5,Y⟩) hbb _).setCell (p:=⟨bb,6,Y⟩) hbb _) (by simpa using adh) ?_);exact fun j u hj hjA hjS hdj hnl hls h=>by
   rcases (by omega:j=0\/j=1\/j=2\/j=3\/j=4\/j=5\/j=6\/j=7\/j=8) with rfl|rfl|rfl|rfl|rfl|rfl|rfl|rfl|rfl
   ·have h2:u=V (ay ⟨bq,0,Y⟩):=h; exact h2
   ·have h2:u=L O z0:=h; exact h2
   ·have h2:u=L O (U z0 1 7):=h; exact h2
   ·have h2:u=aG #[L O t1,L O t2]:=h; exact h2
   ·have h2:u=aG #[L O i1,L O i2]:=h; exact h2
   ·have h2:u=V (ay ⟨bq,5,Y⟩):=h; exact h2
   ·have h2:u=aG #[Z h1 h2 h3,Z g1 g2 g3]:=h; exact h2
   ·exact absurd (hD ⟨8,.data⟩ (by simp) rfl) hnl
   ·obtain⟨s,h1,h2⟩:=h; exact⟨s,h1,Zd.own h2 nQ (by decide)⟩
 ·intro a x bb v df sz kp gA gC hbb nQ Uu hbel ⟨vs,hv⟩;obtain⟨⟨m1,m2,m3⟩,hv1,hv2⟩:=Uu;subst hv1;have g10:a.tmps[10]?=ay (V (ay ⟨bb,0,Y⟩)):=gA;have rV:∀ j,(j<10\/66<=j)->a.tmps[j]?=(u0::u1::u2::u3::u4::u5::V (ay ⟨bq,0,Y⟩)::V (ay ⟨b7,0,Y⟩)::V (ay ⟨b8,0,Y⟩)::u9::u10::u11::u12::u13::u14::u15::u16::u17::u18::u19::u20::u21::u22::u23::u24::u25::u26::u27::u28::u29::u30::u31::u32::u33::u34::u35::u36::u37::u38::u39::u40::u41::u42::u43::u44::u45::u46::u47::u48::u49::u50::u51::u52::u53::u54::u55::u56::u57::u58::u59::u60::u61::u62::u63::u64::u65::u66::u67::u68::u69::u70::u71::u72::u73::u74::u75::u76::u77::u78::u79::u80::u81::u82::u83::u84::u85::u86::u87::u88::u89::u90::u91::u92::u93::u94::u95::u96::u97::u98::u99::u100::u101::u102::u103::u104::u105::u106::u107::u108::u109::u110::u111::u112::u113::u114::u115::u116::u117::u118::u119::u120::u121::u122::u123::[])[j]?:=fun j hj=>(kp j (fun i hi h=>by have:=(by decide:∀ i,i<11->10<=[57,58,59,60,61,62,63,64,65,10,10].getD i 0/\[57,58,59,60,61,62,63,64,65,10,10].getD i 0<66) i hi; omega)).trans aj;obtain⟨mid,hmid,rfl⟩:=Rg.gI 10 56 df sz (by simp) rV
  match mid,hmid with
  | v10::v11::v12::v13::v14::v15::v16::v17::v18::v19::v20::v21::v22::v23::v24::v25::v26::v27::v28::v29::v30::v31::v32::v33::v34::v35::v36::v37::v38::v39::v40::v41::v42::v43::v44::v45::v46::v47::v48::v49::v50::v51::v52::v53::v54::v55::v56::v57::v58::v59::v60::v61::v62::v63::v64::v65::[],_ =>
   obtain rfl:v10=V (ay ⟨bb,0,Y⟩):=J g10;obtain rfl:v11=u11:=J (kp 11 (fun i hi h=>(by decide:∀ i,i<11->[57,58,59,60,61,62,63,64,65,10,10].getD i 0≠11) i hi h));obtain rfl:v12=u12:=J (kp 12 (fun i hi h=>(by decide:∀ i,i<11->[57,58,59,60,61,62,63,64,65,10,10].getD i 0≠12) i hi h));obtain rfl:v13=u13:=J (kp 13 (fun i hi h=>(by decide:∀ i,i<11->[57,58,59,60,61,62,63,64,65,10,10].getD i 0≠13) i hi h));obtain rfl:v14=u14:=J (kp 14 (fun i hi h=>(by decide:∀ i,i<11->[57,58,59,60,61,62,63,64,65,10,10].getD i 0≠14) i hi h));obtain rfl:v15=u15:=J (kp 15 (fun i hi h=>(by decide:∀ i,i<11->[57,58,59,60,61,62,63,64,65,10,10].getD i 0≠15) i hi h));obtain rfl:v16=u16:=J (kp 16 (fun i hi h=>(by decide:∀ i,i<11->[57,58,59,60,61,62,63,64,65,10,10].getD i 0≠16) i hi h));obtain rfl:v17=u17:=J (kp 17 (fun i hi h=>(by decide:∀ i,i<11->[57,58,59,60,61,62,63,64,65,10,10].getD i 0≠17) i hi h));obtain rfl:v18=u18:=J (kp 18 (fun i hi h=>(by decide:∀ i,i<11->[57,58,59,60,61,62,63,64,65,10,10].getD i 0≠18) i hi h));obtain rfl:v19=u19:=J (kp 19 (fun i hi h=>(by decide:∀ i,i<11->[57,58,59,60,61,62,63,64,65,10,10].getD i 0≠19) i hi h));obtain rfl:v20=u20:=J (kp 20 (fun i hi h=>(by decide:∀ i,i<11->[57,58,59,60,61,62,63,64,65,10,10].getD i 0≠20) i hi h));obtain rfl:v21=u21:=J (kp 21 (fun i hi h=>(by decide:∀ i,i<11->[57,58,59,60,61,62,63,64,65,10,10].getD i 0≠21) i hi h));obtain rfl:v22=u22:=J (kp 22 (fun i hi h=>(by decide:∀ i,i<11->[57,58,59,60,61,62,63,64,65,10,10].getD i 0≠22) i hi h));obtain rfl:v23=u23:=J (kp 23 (fun i hi h=>(by decide:∀ i,i<11->[57,58,59,60,61,62,63,64,65,10,10].getD i 0≠23) i hi h));obtain rfl:v24=u24:=J (kp 24 (fun i hi h=>(by decide:∀ i,i<11->[57,58,59,60,61,62,63,64,65,10,10].getD i 0≠24) i hi h));obtain rfl:v25=u25:=J (kp 25 (fun i hi h=>(by decide:∀ i,i<11->[57,58,59,60,61,62,63,64,65,10,10].getD i 0≠25) i hi h));obtain rfl:v26=u26:=J (kp 26 (fun i hi h=>(by decide:∀ i,i<11->[57,58,59,60,61,62,63,64,65,10,10].getD i 0≠26) i hi h));obtain rfl:v27=u27:=J (kp 27 (fun i hi h=>(by decide:∀ i,i<11->[57,58,59,60,61,62,63,64,65,10,10].getD i 0≠27) i hi h));obtain rfl:v28=u28:=J (kp 28 (fun i hi h=>(by decide:∀ i,i<11->[57,58,59,60,61,62,63,64,65,10,10].getD i 0≠28) i hi h));obtain rfl:v29=u29:=J (kp 29 (fun i hi h=>(by decide:∀ i,i<11->[57,58,59,60,61,62,63,64,65,10,10].getD i 0≠29) i hi h));obtain rfl:v30=u30:=J (kp 30 (fun i hi h=>(by decide:∀ i,i<11->[57,58,59,60,61,62,63,64,65,10,10].getD i 0≠30) i hi h));obtain rfl:v31=u31:=J (kp 31 (fun i hi h=>(by decide:∀ i,i<11->[57,58,59,60,61,62,63,64,65,10,10].getD i 0≠31) i hi h));obtain rfl:v32=u32:=J (kp 32 (fun i hi h=>(by decide:∀ i,i<11->[57,58,59,60,61,62,63,64,65,10,10].getD i 0≠32) i hi h));obtain rfl:v33=u33:=J (kp 33 (fun i hi h=>(by decide:∀ i,i<11->[57,58,59,60,61,62,63,64,65,10,10].getD i 0≠33) i hi h));obtain rfl:v34=u34:=J (kp 34 (fun i hi h=>(by decide:∀ i,i<11->[57,58,59,60,61,62,63,64,65,10,10].getD i 0≠34) i hi h));obtain rfl:v35=u35:=J (kp 35 (fun i hi h=>(by decide:∀ i,i<11->[57,58,59,60,61,62,63,64,65,10,10].getD i 0≠35) i hi h));obtain rfl:v36=u36:=J (kp 36 (fun i hi h=>(by decide:∀ i,i<11->[57,58,59,60,61,62,63,64,65,10,10].getD i 0≠36) i hi h));obtain rfl:v37=u37:=J (kp 37 (fun i hi h=>(by decide:∀ i,i<11->[57,58,59,60,61,62,63,64,65,10,10].getD i 0≠37) i hi h));obtain rfl:v38=u38:=J (kp 38 (fun i hi h=>(by decide:∀ i,i<11->[57,58,59,60,61,62,63,64,65,10,10].getD i 0≠38) i hi h));obtain rfl:v39=u39:=J (kp 39 (fun i hi h=>(by decide:∀ i,i<11->[57,58,59,60,61,62,63,64,65,10,10].getD i 0≠39) i hi h));obtain rfl:v40=u40:=J (kp 40 (fun i hi h=>(by decide:∀ i,i<11->[57,58,59,60,61,62,63,64,65,10,10].getD i 0≠40) i hi h));obtain rfl:v41=u41:=J (kp 41 (fun i hi h=>(by decide:∀ i,i<11->[57,58,59,60,61,62,63,64,65,10,10].getD i 0≠41) i hi h));obtain rfl:v42=u42:=J (kp 42 (fun i hi h=>(by decide:∀ i,i<11->[57,58,59,60,61,62,63,64,65,10,10].getD i 0≠42) i hi h));obtain rfl:v43=u43:=J (kp 43 (fun i hi h=>(by decide:∀ i,i<11->[57,58,59,60,61,62,63,64,65,10,10].getD i 0≠43) i hi h));obtain rfl:v44=u44:=J (kp 44 (fun i hi h=>(by decide:∀ i,i<11->[57,58,59,60,61,62,63,64,65,10,10].getD i 0≠44) i hi h));obtain rfl:v45=u45:=J (kp 45 (fun i hi h=>(by decide:∀ i,i<11->[57,58,59,60,61,62,63,64,65,10,10].getD i 0≠45) i hi h));obtain rfl:v46=u46:=J (kp 46 (fun i hi h=>(by decide:∀ i,i<11->[57,58,59,60,61,62,63,64,65,10,10].getD i 0≠46) i hi h));obtain rfl:v47=u47:=J (kp 47 (fun i hi h=>(by decide:∀ i,i<11->[57,58,59,60,61,62,63,64,65,10,10].getD i 0≠47) i hi h));obtain rfl:v48=u48:=J (kp 48 (fun i hi h=>(by decide:∀ i,i<11->[57,58,59,60,61,62,63,64,65,10,10].getD i 0≠48) i hi h));obtain rfl:v49=u49:=J (kp 49 (fun i hi h=>(by decide:∀ i,i<11->[57,58,59,60,61,62,63,64,65,10,10].getD i 0≠49) i hi h));obtain rfl:v50=u50:=J (kp 50 (fun i hi h=>(by decide:∀ i,i<11->[57,58,59,60,61,62,63,64,65,10,10].getD i 0≠50) i hi h));obtain rfl:v51=u51:=J (kp 51 (fun i hi h=>(by decide:∀ i,i<11->[57,58,59,60,61,62,63,64,65,10,10].getD i 0≠51) i hi h));obtain rfl:v52=u52:=J (kp 52 (fun i hi h=>(by decide:∀ i,i<11->[57,58,59,60,61,62,63,64,65,10,10].getD i 0≠52) i hi h));obtain rfl:v53=u53:=J (kp 53 (fun i hi h=>(by decide:∀ i,i<11->[57,58,59,60,61,62,63,64,65,10,10].getD i 0≠53) i hi h));obtain rfl:v54=u54:=J (kp 54 (fun i hi h=>(by decide:∀ i,i<11->[57,58,59,60,61,62,63,64,65,10,10].getD i 0≠54) i hi h));obtain rfl:v55=u55:=J (kp 55 (fun i hi h=>(by decide:∀ i,i<11->[57,58,59,60,61,62,63,64,65,10,10].getD i 0≠55) i hi h));obtain rfl:v56=u56:=J (kp 56 (fun i hi h=>(by decide:∀ i,i<11->[57,58,59,60,61,62,63,64,65,10,10].getD i 0≠56) i hi h));exact HQ.out x bb _ _ _ _ _ _ _ _ _ m1 m2 m3 hbb nQ hv2 hbel
end Av
end Go.Proofs.YtmklifheakemeaaGreat
