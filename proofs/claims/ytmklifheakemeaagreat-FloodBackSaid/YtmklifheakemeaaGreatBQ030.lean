/-
  copyEntry of package. Conditions as told.
-/
import Derived.Test.YtmklifheakemeaaGreatBQ027
set_option maxRecDepth 100000
set_option maxHeartbeats 64000000
open _root_.Go renaming World->aB,Value->aG
open Go.Ending renaming returned->aD
open Go.IntKind renaming i64->U
open Go.Lib renaming hid->L
open Go.Proofs.YtmklifheakemeaaGreat.Wi renaming within->V
open Go.RowKit.Below renaming refl->aA,heap_setCell->aL
open Go.Value renaming int->O,pointer->Z,slice->ay,bool->aJ,agg->aM
open _root_.List renaming getElem?_toArray->ah,getElem?_cons_zero->ak,getElem?_cons_succ->au,getElem?_eq_getElem->aC,mem_of_getElem?->aH,getElem?_map->aI,length_map->aK
open _root_.Option renaming none->aj,some->aF
open Option.some renaming inj->J
namespace Go.Proofs.YtmklifheakemeaaGreat
namespace Sb
open Go.RowKit Go.Sort Rw YtmklifheakemeaaGreat.Nm Pr Bk Av
abbrev Ip (W:aB) (b:Nat) (a0 a1 a2 a3 a4 a5 a6:aG):aB:=((((((W.setCell ⟨b,0,aj⟩ a0).setCell ⟨b,1,aj⟩ a1).setCell ⟨b,2,aj⟩ a2).setCell ⟨b,3,aj⟩ a3).setCell ⟨b,4,aj⟩ a4).setCell ⟨b,5,aj⟩ a5).setCell ⟨b,6,aj⟩ a6
theorem Ao {W:aB} {b:Nat} {t:TypeId} {z0 z1 z2 z3 z4 z5 z6:aG} (h:dJ W b #[z0,z1,z2,z3,z4,z5,z6] t) (a0 a1 a2 a3 a4 a5 a6:aG):dJ (Ip W b a0 a1 a2 a3 a4 a5 a6) b #[a0,a1,a2,a3,a4,a5,a6] t:=by
 have h2:=dR (k:=6) (dR (k:=5) (dR (k:=4) (dR (k:=3) (dR (k:=2) (dR (k:=1) (dR (k:=0) h a0) a1) a2) a3) a4) a5) a6;simpa using h2
theorem vH {B:Nat} {W0 W:aB} {b:Nat} (h:Below B W0 W) (hb:B<=b) (a0 a1 a2 a3 a4 a5 a6:aG):Below B W0 (Ip W b a0 a1 a2 a3 a4 a5 a6):=(((((((h).setCell (p:=⟨b,0,aj⟩) hb a0).setCell (p:=⟨b,1,aj⟩) hb a1).setCell (p:=⟨b,2,aj⟩) hb a2).setCell (p:=⟨b,3,aj⟩) hb a3).setCell (p:=⟨b,4,aj⟩) hb a4).setCell (p:=⟨b,5,aj⟩) hb a5).setCell (p:=⟨b,6,aj⟩) hb a6
theorem Uj {α:Type} {E:Ek α} {W:aB} {B:Nat} {v:aG} {l:List α} (h:Own E W B v l) (b:Nat) (hb:b<B) (a0 a1 a2 a3 a4 a5 a6:aG):Own E (Ip W b a0 a1 a2 a3 a4 a5 a6) B v l :=
 eO (eO (eO (eO (eO (eO (eO (h) b 0 a0 hb) b 1 a1 hb) b 2 a2 hb) b 3 a3 hb) b 4 a4 hb) b 5 a5 hb) b 6 a6 hb
theorem Iq (w:aB) (b:Nat) (a0 a1 a2 a3 a4 a5 a6:aG):But b w (Ip w b a0 a1 a2 a3 a4 a5 a6) :=
 ((((((dP _ b _ _).trans (dP _ b _ _)).trans (dP _ b _ _)).trans (dP _ b _ _)).trans (dP _ b _ _)).trans (dP _ b _ _)).trans (dP _ b _ _)
theorem Nj (x:iL) (p:List C5) (w:aB) (hp:fH w (dX x.2.2.2.2.1) p) (hl:p.length<=900) :
  Calls Tryz.prog 76 #[rV x] w fun e w'=>(∃ v':Sl,e=aD (rV (x.1,x.2.1,x.2.2.1,x.2.2.2.1,v',x.2.2.2.2.2.1,x.2.2.2.2.2.2))/\gP w' w.heap.size (dX v') p)/\Below w.heap.size w w':=by
 obtain⟨y1,y2,y3,y4,⟨s1,s2,s3⟩,y6,y7⟩:=x;obtain⟨h0,X,Y⟩:=gY w #[O U y1,O U y2,O U y3,O U y4,ay s1 s2 s3,O U y6,aJ y7] #[O U 0,O U 0,O U 0,O U 0,ay aj 0 0,O U 0,aJ false] 66 66;have C:=L (mI (s1,s2,s3) p _ (hp.on h0) hl);have B:=L h0;have x4:=X.cell 4;simp only [ah,ak,au] at x4;have X:=L X;have Y:=L Y;clear h0 hp hl;go_enter Tryz.func76,Tryz.ntmps76;go_wp2_with fail;generalize (w.alloc (.cells #[O U y1,O U y2,O U y3,O U y4,ay s1 s2 s3,O U y6,aJ y7] 66)).alloc (.cells #[O U 0,O U 0,O U 0,O U 0,ay aj 0 0,O U 0,aJ false] 66)=W at *;refine C.out.mono ?_;rintro e w1 ⟨⟨⟨u1,u2,u3⟩,rfl,ho⟩,hb⟩;have X1:=X.out.on hb;have Y1:=Y.out.on hb;have hs:w.heap.size<W.heap.size:=X.out.lt;have O1:=L (eO ho w.heap.size 4 (ay u1 u2 u3) hs);have XB:=L (show dJ _ _ #[O U y1,O U y2,O U y3,O U y4,ay u1 u2 u3,O U y6,aJ y7] _ from by simpa using dR (k:=4) X1 (ay u1 u2 u3));have YB:=L (show dJ _ _ _ _ from (aL w1 ⟨w.heap.size,4,aj⟩ (ay u1 u2 u3) _ (show w.heap.size+1≠w.heap.size by omega)).trans Y1);have B1:=L ((B.out.trans (hb.mono B.out.size)).setCell (p:=⟨w.heap.size,4,aj⟩) (Nat.le_refl _) (ay u1 u2 u3));have y4':=X1.cell 4;have f4:=X1.fr 4;have z4:=X1.lt;simp only [ah,ak,au] at y4';clear X1 Y1 ho hb x4 C;go_upto_region 2 with fail;clear y4' f4 z4;generalize w1.setCell ⟨w.heap.size,4,aj⟩ (ay u1 u2 u3)=w2 at *;obtain⟨x0,x1,x2,x3,x4,x5,x6⟩:=XB.out.oJ;obtain⟨r0,r1,r2,r3,r4,r5,r6⟩:=YB.out.oJ;obtain⟨t0,t1,t2,t3,t4,t5,t6⟩:=YB.out.fs7;have zz:=YB.out.lt;have hs2:w.heap.size+1<W.heap.size:=Y.out.lt;have FB:=L (Ao YB.out (O U y1) (O U y2) (O U y3) (O U y4) (ay u1 u2 u3) (O U y6) (aJ y7));have BL:=L (vH (b:=w.heap.size+1) B1.out (by omega) (O U y1) (O U y2) (O U y3) (O U y4) (ay u1 u2 u3) (O U y6) (aJ y7));have FO:=L (Uj O1.out (w.heap.size+1) hs2 (O U y1) (O U y2) (O U y3) (O U y4) (ay u1 u2 u3) (O U y6) (aJ y7));have HS:=L hs;clear hs hs2;go_wp2_with fail;obtain⟨v0,v1,v2,v3,v4,v5,v6⟩:=FB.out.oJ;refine bodyPost_ret (v:=aM #[O U y1,O U y2,O U y3,O U y4,ay u1 u2 u3,O U y6,aJ y7]) (by simp [results,Tryz.results76,go_sem,v0,v1,v2,v3,v4,v5,v6]) rfl ?_;exact⟨⟨(u1,u2,u3),rfl,dN FO.out (Nat.le_of_lt HS.out)⟩,BL.out⟩
end Sb
namespace Av
open Go.RowKit Go.Sort Rw YtmklifheakemeaaGreat.Nm Pr Bk
end Av
namespace Pr
open Go.RowKit Go.Sort Pu Rw Va
def YF:ByteArray:=⟨#[112,114,101,100]⟩
def Nk (w:aB) (l:List Cn) (e:Ending) (w':aB):Prop:=Below w.heap.size w w'/\(match zu l with
 | .ok m=>∃ pv,e=aD (.tuple #[pv,.nilIface])/\fH w' pv (m.map r5)
 | .error _=>∃ b,e=aD (.tuple #[ay aj 0 0,.iface 223 (Z (aF ⟨b,0,aj⟩))]))
theorem YG (op:ByteArray) (at_:Int) (tx:Nat) (x:aG) (w:aB) :
  Calls Tryz.prog 157 #[.string op,O U at_,.iface tx x] w fun e w'=>e=aD (.iface 223 (Z (aF ⟨w.heap.size,0,aj⟩)))/\w'=w.alloc (.cells #[.string op,O U at_,.iface tx x] 225):=by
 go_enter Tryz.func157,Tryz.ntmps157;go_wp2;go_ret;exact⟨rfl,rfl⟩
theorem K7 (at_:Nat) (m r:List Cn) (c:Cn):jW at_ m (c::r)=match nA m c with
  | .ok m'=>jW (at_+1) m' r
  | .error k=>.error (k,at_):=by
 simp only [jW,nA];cases nZ m c with
 | none=>rfl
 | some m'=>simp only; split <;> rfl
theorem QD {m:List Cn} {c:Cn} {m':List Cn} (h:jN m) (hs:nA m c=.ok m'):jN m'/\m'.length<=5:=by
 unfold nA at hs;cases hi:nZ m c with
 | none=>rw [hi] at hs; cases hs
 | some n =>
  rw [hi] at hs;simp only at hs
  split at hs
  ·cases hs
  ·rename_i h5
   injection hs with hs
   subst hs;exact⟨(kF m c n h hi).1,by omega⟩
theorem Uk (lv:aG) (l:List Cn) (w:aB) (hl:fH w lv (l.map r5)) (hs:Sy l) (hgd:∀ c∈l,uF c=true):Calls Tryz.prog 121 #[lv] w (Nk w l):=by
 have HL:=L hl;have LN:=L (show (l.map r5).length=l.length from aK ..);have h100:=hs.1;have SM:=L hs.2;have GD:=L hgd;obtain⟨ao,ac,rfl⟩:=hl.len;rw [aK] at HL ⊢;obtain⟨n,hn⟩:∃ n,n=l.length:=⟨_,rfl⟩;rw [<- hn] at HL h100 ⊢;have HN:=L hn;obtain⟨res,hres⟩:∃ r,r=zu l:=⟨_,rfl⟩;have MQ:=L (show ∀ e w',(Below w.heap.size w w'/\(match res with
 | .ok m=>∃ pv,e=aD (.tuple #[pv,.nilIface])/\fH w' pv (m.map r5)
 | .error _=>∃ b,e=aD (.tuple #[ay aj 0 0,.iface 223 (Z (aF ⟨b,0,aj⟩))])))->Nk w l e w' from fun e w' h=>by unfold Nk; rw [<- hres]; exact h)
 have HR:=L hres;clear hl hs hgd hn hres;generalize hq:Nk w l=q at *;clear hq;go_enter Tryz.func121,Tryz.ntmps121;go_wp2
 go_loopw [13] (fun i wr=>∃ k:Nat,k<=n/\i=O U k/\Below w.heap.size w wr) (fun i _=>n-(intOf i).toNat)
 case atStart=>exact⟨0,Nat.zero_le _,rfl,aA _ _⟩
 case round =>
  obtain⟨k,hk,rfl,hb⟩:=hrel;have HB:=L hb;clear hb;by_cases hlt:k<n
  ·obtain⟨⟨xn,xk⟩,hx⟩:∃ x,l[k]?=aF x:=⟨_,aC (by have:=HN.out; omega)⟩;obtain⟨p,ix,px⟩:=Xv (x:=r5 (xn,xk)) HL.out rfl (LN.out.trans HN.out.symm) (by rw [aI,hx]; rfl);obtain⟨p0,p1,p2,p3,p4⟩:=px _ HB.out;have C:=L (Yf (xn,xk) (wr.alloc (.cells (cells5 (r5 (xn,xk))).toArray 70)) (by have:=(SM.out _ (aH hx)).1; unfold maxLen; omega));rw [GD.out _ (aH hx)] at C;have B4:=L (HB.out.alloc HB.out.size (.cells (cells5 (r5 (xn,xk))).toArray 70));simp only [r5] at p0 p1 p2 p3 p4 C;clear hx px;go_wp2_with fail;refine C.out.mono ?_;rintro e5 w5 ⟨rfl,hb5⟩;have B5:=L (B4.out.trans (hb5.mono B4.out.size));clear hb5 C B4 ix p0 p1 p2 p3 p4;go_wp2
   go_roundw
   case rel=>exact⟨k+1,by omega,by go_num,B5.out⟩
   case measure=>simp [intOf]; omega
  ·obtain rfl:k=n:=by omega
   go_wp2
   go_loopw [6,27] (fun mv i wr=>∃ (j:Nat) (m:List Cn),j<=k/\i=O U j/\gP wr w.heap.size mv (m.map r5)/\jN m/\m.length<=5/\res=jW j m (l.drop j)/\Below w.heap.size w wr) (fun _ i _=>k-(intOf i).toNat)
   case atStart=>exact⟨0,[],Nat.zero_le _,rfl,iM _ _,List.Pairwise.nil,by simp,by rw [HR.out]; rfl,HB.out⟩
   case round =>
    obtain⟨j,m,hj,rfl,hown,hrise,hm5,Ir,hb⟩:=hrel;have BW:=L hb;have OW:=L hown;have RM:=L hrise;have FO:=L Ir;clear hb hown hrise Ir;by_cases hjl:j<k
    ·obtain⟨⟨xn,xk⟩,hx⟩:∃ x,l[j]?=aF x:=⟨_,aC (by have:=HN.out; omega)⟩;obtain⟨p,ix,px⟩:=Xv (x:=r5 (xn,xk)) HL.out rfl (LN.out.trans HN.out.symm) (by rw [aI,hx]; rfl);obtain⟨p0,p1,p2,p3,p4⟩:=px _ BW.out;have B4:=L (BW.out.alloc BW.out.size (.cells (cells5 (r5 (xn,xk))).toArray 70));have C:=L (Aa w.heap.size _ m (xn,xk) (wr.alloc (.cells (cells5 (r5 (xn,xk))).toArray 70)) (dI OW.out ((aA _ _).alloc (Nat.le_refl _) _)) RM.out hm5 B4.out.size);have DR:l.drop j=(xn,xk)::l.drop (j+1):=by
      have h:=List.drop_eq_getElem_cons (l:=l) (i:=j) (by have:=HN.out; omega);rw [h]
      congr 1
      exact (List.getElem?_eq_some_iff.1 hx).2
     have F2:=FO.out;rw [DR,K7] at F2;have F3:=L F2;simp only [r5] at p0 p1 p2 p3 p4 C;clear hx px F2 DR FO;cases hst:nA m (xn,xk) with
     | ok m' =>
      have RR:=L (QD RM.out hst);have F4:=L (show res=jW (j+1) m' (l.drop (j+1)) by rw [F3.out,hst]);rw [hst] at C;clear hst F3;go_wp2_with fail;refine C.out.mono ?_;rintro e5 w5 ⟨hb5,v',rfl,ho5⟩;have B5:=L (B4.out.trans hb5);have O5:=L ho5;clear hb5 ho5 C B4 ix p0 p1 p2 p3 p4 OW BW RM;go_wp2
      go_roundw
      case rel=>exact⟨j+1,m',by omega,by go_num,O5.out,RR.out.1,RR.out.2,F4.out,B5.out⟩
      case measure=>simp [intOf]; omega
     | error er =>
      have F4:=L (show res=.error (er,j) by rw [F3.out,hst]);rw [hst] at C;clear hst F3;go_wp2_with fail;refine C.out.mono ?_;rintro e5 w5 ⟨hb5,rfl⟩;have B5:=L (B4.out.trans hb5);clear hb5 C B4 ix p0 p1 p2 p3 p4 OW BW RM;go_wp2_with fail;refine (YG YF j 205 (O U er) w5).mono ?_;rintro e6 w6 ⟨rfl,rfl⟩;go_wp2;refine MQ.out _ _ ⟨B5.out.alloc B5.out.size _,?_⟩;rw [F4.out];exact⟨w5.heap.size,rfl⟩
    ·obtain rfl:j=k:=by omega
     have F2:=L (show res=.ok m by rw [FO.out,List.drop_of_length_le (by have:=HN.out; omega)]; rfl);go_wp2;refine MQ.out _ _ ⟨BW.out,?_⟩;rw [F2.out];exact⟨_,rfl,Row.dH OW.out⟩
end Pr
namespace Av
open Go.RowKit Go.Sort Rw YtmklifheakemeaaGreat.Nm Pr Bk
def aeZ (_:Nat) (bq:Nat) (_ _ _ z3 z4:Int) (_:Option Addr) (_ _:Nat) (_:Option Addr) (_ _:Nat) (i:Nat) (v:aG) (_:aB):Prop :=
 match i with
 | 0=>v=Z (aF ⟨bq,3,aj⟩)
 | 1=>v=O U z3
 | 2=>v=O U (V z3 0 4)
 | 3=>v=Z (aF ⟨bq,4,aj⟩)
 | 4=>v=O U z4
 | 5=>v=O U (V z4 0 2)
 | 6=>v=aM #[O U (V z3 0 4),O U (V z4 0 2)]
 | 7=>True
 | 8=>True
 | _=>True
noncomputable def ZG:Code:=((Tryz.f11.body.bind (eT 12)).getD .skip)
theorem ahC (Q:Exit->Act->aB->Prop) (W:aB) (bq:Nat) (z0 z1 z2 z3 z4:Int) (h1:Option Addr) (h2 h3:Nat) (g1:Option Addr) (g2 g3:Nat) (u0 u1 u2 u3 u4 u5 u7 u8 u9 u10 u11 u12 u13 u14 u15 u16 u17 u18 u19 u20 u21 u22 u23 u24 u25 u26 u27 u28 u29 u30 u31 u32 u33 u34 u35 u36 u37 u38 u39 u40 u41 u42 u43 u44 u45 u46 u47 u48 u49 u50 u51 u52 u53 u54 u55 u56 u57 u58 u59 u60 u61 u62 u63 u64 u65 u66 u67 u68 u69 u70 u71 u72 u73 u74 u75 u76 u77 u78 u79 u80 u81 u82 u83 u84 u85 u86 u87 u88 u89 u90 u91 u92 u93 u94 u95 u96 u97 u98 u99 u100 u101 u102 u103 u104 u105 u106 u107 u108 u109 u110 u111 u112 u113 u114 u115 u116 u117 u118 u119 u120 u121 u122 u123:aG)
  (q:dJ W bq #[O U z0,O U z1,O U z2,O U z3,O U z4,ay h1 h2 h3,ay g1 g2 g3] 86) (d3:-9223372036854775808<=z3/\z3<=9223372036854775807) (d4:-9223372036854775808<=z4/\z4<=9223372036854775807)
  (hQ:∀ (x:aB) (bb:Nat) (v46 v47 v48 v49 v50 v51 v52:aG),W.heap.size<=bb->dJ x bb #[O U (V z3 0 4),O U (V z4 0 2)] 31->Below W.heap.size W x->Q .normal ⟨(u0::u1::u2::u3::u4::u5::Z (aF ⟨bq,0,aj⟩)::u7::Z (aF ⟨bb,0,aj⟩)::u9::u10::u11::u12::u13::u14::u15::u16::u17::u18::u19::u20::u21::u22::u23::u24::u25::u26::u27::u28::u29::u30::u31::u32::u33::u34::u35::u36::u37::u38::u39::u40::u41::u42::u43::u44::u45::v46::v47::v48::v49::v50::v51::v52::u53::u54::u55::u56::u57::u58::u59::u60::u61::u62::u63::u64::u65::u66::u67::u68::u69::u70::u71::u72::u73::u74::u75::u76::u77::u78::u79::u80::u81::u82::u83::u84::u85::u86::u87::u88::u89::u90::u91::u92::u93::u94::u95::u96::u97::u98::u99::u100::u101::u102::u103::u104::u105::u106::u107::u108::u109::u110::u111::u112::u113::u114::u115::u116::u117::u118::u119::u120::u121::u122::u123::[]).toArray,[]⟩ x) :
  Code.wp Tryz.prog ZG Q ⟨(u0::u1::u2::u3::u4::u5::Z (aF ⟨bq,0,aj⟩)::u7::u8::u9::u10::u11::u12::u13::u14::u15::u16::u17::u18::u19::u20::u21::u22::u23::u24::u25::u26::u27::u28::u29::u30::u31::u32::u33::u34::u35::u36::u37::u38::u39::u40::u41::u42::u43::u44::u45::u46::u47::u48::u49::u50::u51::u52::u53::u54::u55::u56::u57::u58::u59::u60::u61::u62::u63::u64::u65::u66::u67::u68::u69::u70::u71::u72::u73::u74::u75::u76::u77::u78::u79::u80::u81::u82::u83::u84::u85::u86::u87::u88::u89::u90::u91::u92::u93::u94::u95::u96::u97::u98::u99::u100::u101::u102::u103::u104::u105::u106::u107::u108::u109::u110::u111::u112::u113::u114::u115::u116::u117::u118::u119::u120::u121::u122::u123::[]).toArray,[]⟩ W:=by
 have HQ:=L hQ;have HQ6:=L q;have D3:=L d3;have D4:=L d4;clear hQ q d3 d4;unfold ZG
 conv=>arg 2; whnf
 have nb6:∀ i,i<9->[46,47,48,49,50,51,52,8,8].getD i 0≠6:=by decide
 refine Rg.xD 9 7 8 6 (fun i=>[46,47,48,49,50,51,52,8,8].getD i 0) (fun i=>9) (aeZ W.heap.size bq z0 z1 z2 z3 z4 h1 h2 h3 g1 g2 g3) 31 #[O U 0,O U 0] (fun v=>match v with | aM c=>c | _=>#[]) (by kernel_rfl) (by kernel_rfl) rfl (by decide) (by decide) (by decide) (by decide) (by decide) (by decide) (by decide) (fun i j hi hj h1 h2 h=>(by decide:∀ i,i<9->∀ j,j<9->i≠8->j≠8->[46,47,48,49,50,51,52,8,8].getD i 0=[46,47,48,49,50,51,52,8,8].getD j 0->i=j) i hi j hj h1 h2 h) (fun i hi=>(by decide:∀ i,i<9->[46,47,48,49,50,51,52,8,8].getD i 0<124) i hi) ?_ ?_ ?_ ?_ ?_ ?_
 ·intro i v x x' hi h hb;rcases (by omega:i=0\/i=1\/i=2\/i=3\/i=4\/i=5\/i=6\/i=7\/i=8) with rfl|rfl|rfl|rfl|rfl|rfl|rfl|rfl|rfl
  ·exact h
  ·exact h
  ·exact h
  ·exact h
  ·exact h
  ·exact h
  ·exact h
  ·exact h
  ·exact h
 ·intro o ho;cases ho;exact⟨⟨⟨7,.data⟩,by simp,rfl,rfl⟩,⟨⟨6,.data⟩,by simp,rfl,rfl⟩⟩
 ·intro i o hi Zn Rc ho a x hb seen K hK;clear HQ;rcases (by omega:i=0\/i=1\/i=2\/i=3\/i=4\/i=5\/i=6) with rfl|rfl|rfl|rfl|rfl|rfl|rfl
  ·cases ho;have e6:a.eval (.tmp 6)=Z (aF ⟨bq,0,aj⟩):=seen.kp 6 _ nb6 rfl;exact Rg.dD rfl rfl (Rg.dU a.eval _ 86 (.tmp 6) 3 rfl (by rw [e6]; simp [go_sem])) (hK _ x rfl (aA _ _))
  ·cases ho;have e46:a.eval (.tmp 46)=Z (aF ⟨bq,3,aj⟩):=seen.at_ ⟨0,.data⟩ (by simp) rfl (by decide) (by decide) (Or.inr (by decide));have y3:=(HQ6.out.on hb).cell 3;simp only [ah,ak,au] at y3;exact Rg.dD rfl rfl (Rg.dW a.eval _ 3 (.tmp 46) rfl (by rw [e46]; simp [go_sem,y3])) (hK _ x rfl (aA _ _))
  ·cases ho;have e47:a.eval (.tmp 47)=O U z3:=seen.at_ ⟨1,.data⟩ (by simp) rfl (by decide) (by decide) (Or.inr (by decide));exact Rg.gT rfl rfl (Rg.zA a.eval _ (.tmp 47) (.const (O U 0)) (.const (O U 4)) 3 13 rfl e47 rfl rfl rfl _ (gD Tryz.func13 rfl rfl _ _)) (Wi.jy z3 0 4 x (by omega) (by omega) (by omega) D3.out.1 D3.out.2) fun e w1 h=>by
    obtain⟨rfl,rfl⟩:=h;exact⟨_,rfl,hK _ _ rfl (aA _ _)⟩
  ·cases ho;have e6:a.eval (.tmp 6)=Z (aF ⟨bq,0,aj⟩):=seen.kp 6 _ nb6 rfl;exact Rg.dD rfl rfl (Rg.dU a.eval _ 86 (.tmp 6) 4 rfl (by rw [e6]; simp [go_sem])) (hK _ x rfl (aA _ _))
  ·cases ho;have e49:a.eval (.tmp 49)=Z (aF ⟨bq,4,aj⟩):=seen.at_ ⟨3,.data⟩ (by simp) rfl (by decide) (by decide) (Or.inr (by decide));have y4:=(HQ6.out.on hb).cell 4;simp only [ah,ak,au] at y4;exact Rg.dD rfl rfl (Rg.dW a.eval _ 3 (.tmp 49) rfl (by rw [e49]; simp [go_sem,y4])) (hK _ x rfl (aA _ _))
  ·cases ho;have e50:a.eval (.tmp 50)=O U z4:=seen.at_ ⟨4,.data⟩ (by simp) rfl (by decide) (by decide) (Or.inr (by decide));exact Rg.gT rfl rfl (Rg.zA a.eval _ (.tmp 50) (.const (O U 0)) (.const (O U 2)) 3 13 rfl e50 rfl rfl rfl _ (gD Tryz.func13 rfl rfl _ _)) (Wi.jy z4 0 2 x (by omega) (by omega) (by omega) D4.out.1 D4.out.2) fun e w1 h=>by
    obtain⟨rfl,rfl⟩:=h;exact⟨_,rfl,hK _ _ rfl (aA _ _)⟩
  ·cases ho;have e48:a.eval (.tmp 48)=O U (V z3 0 4):=seen.at_ ⟨2,.data⟩ (by simp) rfl (by decide) (by decide) (Or.inr (by decide));have e51:a.eval (.tmp 51)=O U (V z4 0 2):=seen.at_ ⟨5,.data⟩ (by simp) rfl (by decide) (by decide) (Or.inr (by decide));exact Rg.dD rfl rfl (Rg.jP a.eval _ 31 #[(0,.tmp 48),(1,.tmp 51)] rfl (ps:=#[(0,O U (V z3 0 4)),(1,O U (V z4 0 2))]) (by simp only [List.map_toArray,List.map_cons,List.map_nil,e48,e51]) (by simp [go_sem])) (hK _ x rfl (aA _ _))
 ·intro o ho a x K hK;cases ho;exact Rg.dD rfl rfl (Rg.zD a.eval _ 31 rfl (by simp [go_sem])) hK
 ·intro o ho a x bb v D hc hD hb hA hC Ul hbb mo K hK;clear HQ;cases ho;have hv:v=aM #[O U (V z3 0 4),O U (V z4 0 2)]:=Ul;subst hv;obtain⟨x0,x1⟩:=mo.cs2;obtain⟨f0,f1⟩:=mo.fs2;have hst:(Instr.storeAt 31 (Z (aF ⟨bb,0,aj⟩)) (aM #[O U (V z3 0 4),O U (V z4 0 2)])).run Tryz.prog x=.ok () ((x.setCell ⟨bb,0,aj⟩ (O U (V z3 0 4))).setCell ⟨bb,1,aj⟩ (O U (V z4 0 2))):=by simp [go_sem,x0,x1,f0,f1]
  have acA:=dR (k:=1) (dR (k:=0) mo (O U (V z3 0 4))) (O U (V z4 0 2));refine Rg.fQ 31 (.tmp 8) (.tmp 52) rfl rfl rfl rfl hA hC hst (hK _ ((hb.setCell (p:=⟨bb,0,aj⟩) hbb _).setCell (p:=⟨bb,1,aj⟩) hbb _) (by simpa using acA) ?_);exact fun j u hj hjA hjS hdj hnl hls h=>by
   rcases (by omega:j=0\/j=1\/j=2\/j=3\/j=4\/j=5\/j=6) with rfl|rfl|rfl|rfl|rfl|rfl|rfl
   ·have h2:u=Z (aF ⟨bq,3,aj⟩):=h; exact h2
   ·have h2:u=O U z3:=h; exact h2
   ·have h2:u=O U (V z3 0 4):=h; exact h2
   ·have h2:u=Z (aF ⟨bq,4,aj⟩):=h; exact h2
   ·have h2:u=O U z4:=h; exact h2
   ·have h2:u=O U (V z4 0 2):=h; exact h2
   ·have h2:u=aM #[O U (V z3 0 4),O U (V z4 0 2)]:=h; exact h2
 ·intro a x bb v df sz kp gA gC hbb mo Ul hbel ⟨vs,hv⟩;have hv9:v=aM #[O U (V z3 0 4),O U (V z4 0 2)]:=Ul;subst hv9;have g8:a.tmps[8]?=aF (Z (aF ⟨bb,0,aj⟩)):=gA;have rA:∀ j,(j<8\/53<=j)->a.tmps[j]?=(u0::u1::u2::u3::u4::u5::Z (aF ⟨bq,0,aj⟩)::u7::u8::u9::u10::u11::u12::u13::u14::u15::u16::u17::u18::u19::u20::u21::u22::u23::u24::u25::u26::u27::u28::u29::u30::u31::u32::u33::u34::u35::u36::u37::u38::u39::u40::u41::u42::u43::u44::u45::u46::u47::u48::u49::u50::u51::u52::u53::u54::u55::u56::u57::u58::u59::u60::u61::u62::u63::u64::u65::u66::u67::u68::u69::u70::u71::u72::u73::u74::u75::u76::u77::u78::u79::u80::u81::u82::u83::u84::u85::u86::u87::u88::u89::u90::u91::u92::u93::u94::u95::u96::u97::u98::u99::u100::u101::u102::u103::u104::u105::u106::u107::u108::u109::u110::u111::u112::u113::u114::u115::u116::u117::u118::u119::u120::u121::u122::u123::[])[j]?:=fun j hj=>(kp j (fun i hi h=>by have:=(by decide:∀ i,i<9->8<=[46,47,48,49,50,51,52,8,8].getD i 0/\[46,47,48,49,50,51,52,8,8].getD i 0<53) i hi; omega)).trans ah;obtain⟨mid,hmid,rfl⟩:=Rg.gG 8 45 df sz (by simp) rA
  match mid,hmid with
  | v8::v9::v10::v11::v12::v13::v14::v15::v16::v17::v18::v19::v20::v21::v22::v23::v24::v25::v26::v27::v28::v29::v30::v31::v32::v33::v34::v35::v36::v37::v38::v39::v40::v41::v42::v43::v44::v45::v46::v47::v48::v49::v50::v51::v52::[],_ =>
   obtain rfl:v8=Z (aF ⟨bb,0,aj⟩):=J g8;obtain rfl:v9=u9:=J (kp 9 (fun i hi h=>(by decide:∀ i,i<9->[46,47,48,49,50,51,52,8,8].getD i 0≠9) i hi h));obtain rfl:v10=u10:=J (kp 10 (fun i hi h=>(by decide:∀ i,i<9->[46,47,48,49,50,51,52,8,8].getD i 0≠10) i hi h));obtain rfl:v11=u11:=J (kp 11 (fun i hi h=>(by decide:∀ i,i<9->[46,47,48,49,50,51,52,8,8].getD i 0≠11) i hi h));obtain rfl:v12=u12:=J (kp 12 (fun i hi h=>(by decide:∀ i,i<9->[46,47,48,49,50,51,52,8,8].getD i 0≠12) i hi h));obtain rfl:v13=u13:=J (kp 13 (fun i hi h=>(by decide:∀ i,i<9->[46,47,48,49,50,51,52,8,8].getD i 0≠13) i hi h));obtain rfl:v14=u14:=J (kp 14 (fun i hi h=>(by decide:∀ i,i<9->[46,47,48,49,50,51,52,8,8].getD i 0≠14) i hi h));obtain rfl:v15=u15:=J (kp 15 (fun i hi h=>(by decide:∀ i,i<9->[46,47,48,49,50,51,52,8,8].getD i 0≠15) i hi h));obtain rfl:v16=u16:=J (kp 16 (fun i hi h=>(by decide:∀ i,i<9->[46,47,48,49,50,51,52,8,8].getD i 0≠16) i hi h));obtain rfl:v17=u17:=J (kp 17 (fun i hi h=>(by decide:∀ i,i<9->[46,47,48,49,50,51,52,8,8].getD i 0≠17) i hi h));obtain rfl:v18=u18:=J (kp 18 (fun i hi h=>(by decide:∀ i,i<9->[46,47,48,49,50,51,52,8,8].getD i 0≠18) i hi h));obtain rfl:v19=u19:=J (kp 19 (fun i hi h=>(by decide:∀ i,i<9->[46,47,48,49,50,51,52,8,8].getD i 0≠19) i hi h));obtain rfl:v20=u20:=J (kp 20 (fun i hi h=>(by decide:∀ i,i<9->[46,47,48,49,50,51,52,8,8].getD i 0≠20) i hi h));obtain rfl:v21=u21:=J (kp 21 (fun i hi h=>(by decide:∀ i,i<9->[46,47,48,49,50,51,52,8,8].getD i 0≠21) i hi h));obtain rfl:v22=u22:=J (kp 22 (fun i hi h=>(by decide:∀ i,i<9->[46,47,48,49,50,51,52,8,8].getD i 0≠22) i hi h));obtain rfl:v23=u23:=J (kp 23 (fun i hi h=>(by decide:∀ i,i<9->[46,47,48,49,50,51,52,8,8].getD i 0≠23) i hi h));obtain rfl:v24=u24:=J (kp 24 (fun i hi h=>(by decide:∀ i,i<9->[46,47,48,49,50,51,52,8,8].getD i 0≠24) i hi h));obtain rfl:v25=u25:=J (kp 25 (fun i hi h=>(by decide:∀ i,i<9->[46,47,48,49,50,51,52,8,8].getD i 0≠25) i hi h));obtain rfl:v26=u26:=J (kp 26 (fun i hi h=>(by decide:∀ i,i<9->[46,47,48,49,50,51,52,8,8].getD i 0≠26) i hi h));obtain rfl:v27=u27:=J (kp 27 (fun i hi h=>(by decide:∀ i,i<9->[46,47,48,49,50,51,52,8,8].getD i 0≠27) i hi h));obtain rfl:v28=u28:=J (kp 28 (fun i hi h=>(by decide:∀ i,i<9->[46,47,48,49,50,51,52,8,8].getD i 0≠28) i hi h));obtain rfl:v29=u29:=J (kp 29 (fun i hi h=>(by decide:∀ i,i<9->[46,47,48,49,50,51,52,8,8].getD i 0≠29) i hi h));obtain rfl:v30=u30:=J (kp 30 (fun i hi h=>(by decide:∀ i,i<9->[46,47,48,49,50,51,52,8,8].getD i 0≠30) i hi h));obtain rfl:v31=u31:=J (kp 31 (fun i hi h=>(by decide:∀ i,i<9->[46,47,48,49,50,51,52,8,8].getD i 0≠31) i hi h));obtain rfl:v32=u32:=J (kp 32 (fun i hi h=>(by decide:∀ i,i<9->[46,47,48,49,50,51,52,8,8].getD i 0≠32) i hi h));obtain rfl:v33=u33:=J (kp 33 (fun i hi h=>(by decide:∀ i,i<9->[46,47,48,49,50,51,52,8,8].getD i 0≠33) i hi h));obtain rfl:v34=u34:=J (kp 34 (fun i hi h=>(by decide:∀ i,i<9->[46,47,48,49,50,51,52,8,8].getD i 0≠34) i hi h));obtain rfl:v35=u35:=J (kp 35 (fun i hi h=>(by decide:∀ i,i<9->[46,47,48,49,50,51,52,8,8].getD i 0≠35) i hi h));obtain rfl:v36=u36:=J (kp 36 (fun i hi h=>(by decide:∀ i,i<9->[46,47,48,49,50,51,52,8,8].getD i 0≠36) i hi h));obtain rfl:v37=u37:=J (kp 37 (fun i hi h=>(by decide:∀ i,i<9->[46,47,48,49,50,51,52,8,8].getD i 0≠37) i hi h));obtain rfl:v38=u38:=J (kp 38 (fun i hi h=>(by decide:∀ i,i<9->[46,47,48,49,50,51,52,8,8].getD i 0≠38) i hi h));obtain rfl:v39=u39:=J (kp 39 (fun i hi h=>(by decide:∀ i,i<9->[46,47,48,49,50,51,52,8,8].getD i 0≠39) i hi h));obtain rfl:v40=u40:=J (kp 40 (fun i hi h=>(by decide:∀ i,i<9->[46,47,48,49,50,51,52,8,8].getD i 0≠40) i hi h));obtain rfl:v41=u41:=J (kp 41 (fun i hi h=>(by decide:∀ i,i<9->[46,47,48,49,50,51,52,8,8].getD i 0≠41) i hi h));obtain rfl:v42=u42:=J (kp 42 (fun i hi h=>(by decide:∀ i,i<9->[46,47,48,49,50,51,52,8,8].getD i 0≠42) i hi h));obtain rfl:v43=u43:=J (kp 43 (fun i hi h=>(by decide:∀ i,i<9->[46,47,48,49,50,51,52,8,8].getD i 0≠43) i hi h));obtain rfl:v44=u44:=J (kp 44 (fun i hi h=>(by decide:∀ i,i<9->[46,47,48,49,50,51,52,8,8].getD i 0≠44) i hi h));obtain rfl:v45=u45:=J (kp 45 (fun i hi h=>(by decide:∀ i,i<9->[46,47,48,49,50,51,52,8,8].getD i 0≠45) i hi h));exact HQ.out x bb _ _ _ _ _ _ _ hbb mo hbel
end Av
end Go.Proofs.YtmklifheakemeaaGreat
