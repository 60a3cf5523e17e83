/-
  CarryTrees' loop tha. Conditions as told.
-/
import Derived.Test.YtkcfgbddlpomgaaGreatDQ044
set_option maxRecDepth 100000
set_option maxHeartbeats 64000000
open Go.IntKind renaming i64->K
open Go.Lib renaming hid->D
open Go.Obj renaming cells->O
open Go.Value renaming int->J,slice->L,bool->U,pointer->V
namespace Go.Proofs.YtkcfgbddlpomgaaGreat
namespace Ca
open Go.RowKit Go.Sort Rw YtkcfgbddlpomgaaGreat.Nm Pr Bk Av Rl Sb Fl
def VX (c d:Int) (y:iA):Bool:=y.1 == c && y.2.1 == d
noncomputable def aeu:Code:=((Tryz.f5.body.bind (iY 0)).getD .skip)
theorem abT (Q:Exit->Act->World->Prop) (W0 W:World) (bT bC:Nat) (c d me:Int) (y1 y2 y3 y5:Value) (so:Option Addr) (sn sc:Nat) (le:List iA) (u0 u1 u2 u3 u4 u5 u6 u7 u8 u9 u11 u12 u13 u14 u15 u16 u17 u19 u20 u21 u22 u23 u24 u25 u26 u27 u28 u29 u30 u31 u32 u33 u34 u35 u36 u37 u38 u39 u40 u41 u42 u43 u44 u45 u46 u47 u48 u49 u50 u51 u52 u53 u54 u55 u56 u57 u58 u59 u60 u61 u62 u63 u64 u65 u66 u67 u68 u69 u70 u71 u72 u73 u74 u78 u79 u80 u81 u82 u83 u84 u85 u86 u87 u88 u89 u90 u91 u92 u93 u94 u95 u96 u97 u98 u99 u100 u101 u102 u103 u104 u105 u106 u107 u108 u109 u110 u111 u112 u113 u114 u115 u116 u117 u118 u119 u120 u121 u122 u123 u124 u125 u126 u127:Value)
  (hC:dJ W bC #[J K me,y1,y2,y3,L none 0 0,y5] 33) (hT:dJ W bT #[J K c,J K d] 38) (hne:bT≠bC) (hW:Below W0.heap.size W0 W) (hBC:W0.heap.size<=bC) (hs:jZ W0 (L so sn sc) le) (hn:le.length=sn) (hsn:sn<=900)
  (hQ:∀ (wr:World) (v:Value) (v20 v77 v78 v79 v80 v81 v82 v83 v84 v85 v86 v87 v88 v89 v90 v91:Value),Below W0.heap.size W0 wr->But bC W wr->dJ wr bC #[J K me,y1,y2,y3,v,y5] 33->jg wr W.heap.size v (le.filter (VX c d))->Q .normal ⟨(u0::u1::u2::u3::u4::u5::u6::u7::u8::u9::V (some ⟨bT,0,none⟩)::u11::u12::u13::u14::u15::u16::u17::V (some ⟨bC,0,none⟩)::u19::v20::u21::u22::u23::u24::u25::u26::u27::u28::u29::u30::u31::u32::u33::u34::u35::u36::u37::u38::u39::u40::u41::u42::u43::u44::u45::u46::u47::u48::u49::u50::u51::u52::u53::u54::u55::u56::u57::u58::u59::u60::u61::u62::u63::u64::u65::u66::u67::u68::u69::u70::u71::u72::u73::u74::L so sn sc::J K (sn:Int)::v77::v78::v79::v80::v81::v82::v83::v84::v85::v86::v87::v88::v89::v90::v91::u92::u93::u94::u95::u96::u97::u98::u99::u100::u101::u102::u103::u104::u105::u106::u107::u108::u109::u110::u111::u112::u113::u114::u115::u116::u117::u118::u119::u120::u121::u122::u123::u124::u125::u126::u127::[]).toArray,[]⟩ wr) :
  Code.wp Tryz.prog aeu Q ⟨(u0::u1::u2::u3::u4::u5::u6::u7::u8::u9::V (some ⟨bT,0,none⟩)::u11::u12::u13::u14::u15::u16::u17::V (some ⟨bC,0,none⟩)::u19::u20::u21::u22::u23::u24::u25::u26::u27::u28::u29::u30::u31::u32::u33::u34::u35::u36::u37::u38::u39::u40::u41::u42::u43::u44::u45::u46::u47::u48::u49::u50::u51::u52::u53::u54::u55::u56::u57::u58::u59::u60::u61::u62::u63::u64::u65::u66::u67::u68::u69::u70::u71::u72::u73::u74::L so sn sc::J K (sn:Int)::J K 0::u78::u79::u80::u81::u82::u83::u84::u85::u86::u87::u88::u89::u90::u91::u92::u93::u94::u95::u96::u97::u98::u99::u100::u101::u102::u103::u104::u105::u106::u107::u108::u109::u110::u111::u112::u113::u114::u115::u116::u117::u118::u119::u120::u121::u122::u123::u124::u125::u126::u127::[]).toArray,[]⟩ W:=by
 have HQ:=D hQ;have HT:=D hT;have NE:=D hne;have HW:=D hW;have HBC:=D hBC;have HS:=D hs;have HN:=D hn;have HC:=D hC;have LC:=D hC.lt;clear hQ hC hT hne hW hBC hs hn
 conv=>arg 2; whnf
 go_wp2
 go_loopw [77] (fun i wr=>∃ (k:Nat) (v:Value),k<=sn/\i=J K k/\Below W0.heap.size W0 wr/\But bC W wr/\dJ wr bC #[J K me,y1,y2,y3,v,y5] 33/\jg wr W.heap.size v ((le.take k).filter (VX c d))) (fun i _=>sn-(intOf i).toNat)
 case atStart=>exact⟨0,L none 0 0,Nat.zero_le _,rfl,HW.out,But.of_below (Below.refl _ _),HC.out,fZ _ _⟩
 case round =>
  obtain⟨k,v,hk,rfl,hbe,hbu,hbx,hown⟩:=hrel;have BE:=D hbe;have BU:=D hbu;have CB:=D hbx;have OE:=D hown;clear hbe hbu hbx hown HC HW;by_cases hlt:k<sn
  ·obtain⟨y,hy⟩:∃ y,le[k]?=some y:=⟨_,List.getElem?_eq_getElem (by rw [HN.out]; exact hlt)⟩;have FS:=D (uM le k y (VX c d) hy);obtain⟨q,ix,px⟩:=P7 HS.out rfl HN.out hy;obtain⟨p0,p1,p2,p3,p4,p5,p6⟩:=px wr BE.out;obtain⟨y1_,y2_,y3_,y4_,⟨yo,yn,yc⟩,y6_,y7_⟩:=y;simp only at p0 p1 p2 p3 p4 p5 p6;have NB:=D (fE wr (O #[J K y1_,J K y2_,J K y3_,J K y4_,L yo yn yc,J K y6_,U y7_] 68));have BF:=D (BE.out.trans (NB.out.mono BE.out.size));have hx:=dL wr #[J K y1_,J K y2_,J K y3_,J K y4_,L yo yn yc,J K y6_,U y7_] 68;obtain⟨v0,v1,v2,v3,v4,v5,v6⟩:=hx.mU;have ht_:=(BU.out.box HT.out NE.out).on NB.out;obtain⟨t0,t1⟩:=ht_.cs2;have C1:=D (CB.out.on NB.out);obtain⟨vo,vc,hv⟩:=(Row.dx OE.out).len;obtain⟨vn,J8⟩:∃ n,n=((le.take k).filter (VX c d)).length:=⟨_,rfl⟩
   replace hv:v=L vo vn vc:=by rw [J8]; exact hv
   have VN:=D J8;subst hv;clear J8;have c4:=C1.out.cell 4;simp only [List.getElem?_toArray,List.getElem?_cons_zero,List.getElem?_cons_succ] at c4;have hw3:IntKind.i64.wrap ((k:Int)+1)=(k:Int)+1:=IntWalk.i64_in _ (by omega);obtain⟨r,hr⟩:∃ r,(y1_ == c && y2_ == d)=r:=⟨_,rfl⟩;have he:=rz y1_ y2_ c d r hr;have hf:VX c d (y1_,y2_,y3_,y4_,(yo,yn,yc),y6_,y7_)=r:=hr;rw [hf] at FS;clear px hy hx ht_ hr hf;cases r
   ·have BG:=D (BU.out.trans (But.of_below NB.out));have OG:=D (Bk.dB OE.out NB.out);go_wp2
    go_roundw
    case rel=>exact⟨k+1,_,by omega,by go_num,BF.out,BG.out,C1.out,by
     rw [FS.out];simpa using OG.out⟩
    case measure=>simp [intOf]; omega
   ·have Ya:=D (fE (wr.alloc (O #[J K y1_,J K y2_,J K y3_,J K y4_,L yo yn yc,J K y6_,U y7_] 68)) (O #[J K y1_,J K y2_,J K y3_,J K y4_,L yo yn yc,J K y6_,U y7_] 68));have hlit:=gT mY (wr.alloc (O #[J K y1_,J K y2_,J K y3_,J K y4_,L yo yn yc,J K y6_,U y7_] 68)) [((y1_,y2_,y3_,y4_,(yo,yn,yc),y6_,y7_):iA)] 1 rfl (by simp) #[J K y1_,J K y2_,J K y3_,J K y4_,L yo yn yc,J K y6_,U y7_] rfl;have o2:=Bk.dB (Bk.dB OE.out NB.out) Ya.out;have C2:=C1.out.on Ya.out;have hsz:W.heap.size<=wr.heap.size:=BU.out.2;have hB2:W.heap.size<=((wr.alloc (O #[J K y1_,J K y2_,J K y3_,J K y4_,L yo yn yc,J K y6_,U y7_] 68)).alloc (O #[J K y1_,J K y2_,J K y3_,J K y4_,L yo yn yc,J K y6_,U y7_] 68)).heap.size:=by simp; omega
    obtain⟨v',w',r',o',gr⟩:=fT mY W.heap.size o2 (Row.dx hlit) (by
     have h1:=List.length_filter_le (VX c d) (le.take k);rw [List.length_take] at h1;omega) (by simp) hB2 30
    have r':(Builtin.append_ #[30,30] 30 #[L vo vn vc,L (some ⟨wr.heap.size+1,0,none⟩) 1 1]).run Tryz.prog ((wr.alloc (O #[J K y1_,J K y2_,J K y3_,J K y4_,L yo yn yc,J K y6_,U y7_] 68)).alloc (O #[J K y1_,J K y2_,J K y3_,J K y4_,L yo yn yc,J K y6_,U y7_] 68))=.ok v' w':=by
     simpa [EN] using r'
    have hnb:some bC≠(L vo vn vc).ownBlock:=fun h=>absurd (o2.lt bC h.symm).1 (by have:=LC.out; omega);have C3:dJ w' bC #[J K me,y1,y2,y3,L vo vn vc,y5] 33:=(gr.block bC C2.lt hnb).trans C2;have U3:=Go.Proofs.YtkcfgbddlpomgaaGreat.Sb.But.off ((BU.out.trans (But.of_below NB.out)).trans (But.of_below Ya.out)) (wY gr) fun b hb=>(o2.lt b hb).1;have B3:Below W0.heap.size W0 w':=(BF.out.trans (Ya.out.mono BF.out.size)).grown gr (by have:=BF.out.size; have:=Ya.out.size; omega) fun j hj=>Nat.le_trans (Nat.le_of_lt (Nat.lt_of_le_of_lt HBC.out LC.out)) (o2.lt j hj).1;obtain⟨wo,wc,hv'⟩:=(Row.dx o').len;obtain⟨wn,hwn⟩:∃ n,n=((le.take k).filter (VX c d)++[((y1_,y2_,y3_,y4_,(yo,yn,yc),y6_,y7_):iA)]).length:=⟨_,rfl⟩
    replace hv':v'=L wo wn wc:=by rw [hwn]; exact hv'
    clear hwn;subst hv';have z4:=C3.cell 4;have zf:=C3.fr 4;have zl:=C3.lt;simp only [List.getElem?_toArray,List.getElem?_cons_zero,List.getElem?_cons_succ] at z4;have C4:=D (show dJ (w'.setCell ⟨bC,4,none⟩ (L wo wn wc)) bC #[J K me,y1,y2,y3,L wo wn wc,y5] 33 from by simpa using dN (k:=4) C3 (L wo wn wc));have B4:=D (B3.setCell (p:=⟨bC,4,none⟩) HBC.out (L wo wn wc));have U4:=D (U3.trans (dQ w' bC 4 (L wo wn wc)));have O4:=D ((dQ w' bC 4 (L wo wn wc)).own o' C3 (by decide));clear hlit o2 hB2 o' gr OE C2 C3 U3 B3 hnb hsz;go_wp2_with (first | (at_builtin; refine wpList_append_run rfl _ _ 30 rfl rfl rfl r' ?_) | fail)
    go_roundw
    case rel=>exact⟨k+1,_,by omega,by go_num,B4.out,U4.out,C4.out,by
     rw [FS.out];simpa using O4.out⟩
    case measure=>simp [intOf]; omega
  ·obtain rfl:sn=k:=by omega
   have e:le.take sn=le:=List.take_of_length_le (by have:=HN.out; omega);rw [e] at OE;clear e;have HF:=D (fun v20 v77 v78 v79 v80 v81 v82 v83 v84 v85 v86 v87 v88 v89 v90 v91=>HQ.out wr v v20 v77 v78 v79 v80 v81 v82 v83 v84 v85 v86 v87 v88 v89 v90 v91 BE.out BU.out CB.out OE.out);clear HQ;go_wp2;exact HF.out _ _ _ _ _ _ _ _ _ _ _ _ _ _ _ _
end Ca
namespace Fl
open Go.RowKit Go.Sort Rw YtkcfgbddlpomgaaGreat.Nm Pr Bk Av Rl Sb
structure aev (b:Br) (f:Int) (p:List C5):Prop where
 few:Np b
 Bf:xQ b
 ok:jC b
 ls:b.seen.length<=899
 la:b.dO.length<=899
 lo:b.ent.length+b.own.length<=900
 pe:∀ e∈b.ent,dW e.p
 po:∀ o∈b.own,dW o.p
 pp:dW p
 co:jR b.near f=true
 rp:Wr.iX p=true
end Fl
namespace Sb
open Go.RowKit Go.Sort Rw YtkcfgbddlpomgaaGreat.Nm Pr Bk Av Rl
end Sb
namespace Fl
open Go.RowKit Go.Sort Rw YtkcfgbddlpomgaaGreat.Nm Pr Bk Av Rl Sb
structure Cut (b c:Br) (t:eO) (f:Int):Prop where
 dO:aev c f []
 none_:fV c.dO t=none
 un:zM c f t=(c,[])
 anew:kF c f t []=(c,[])
 len:c.dO.length+1=b.dO.length
 br:qY c.ent t=[]
 seen:t∈c.seen
 mem:∀ e∈b.ent,e.tree≠t->e∈c.ent
theorem UM {w W:World} {B:Nat} {b:Br} {nv av sv ev ov:Sl} (h:RV w W B b nv av sv ev ov) (hb:Below w.heap.size w W):xG W b nv av sv ev ov:=by
 refine⟨⟨Row.dx h.near,?_,Row.dx h.seen,?_,?_⟩,B,h.near⟩
 ·obtain⟨l,h1,h2⟩:=h.dO; exact⟨l,Row.dx h1,h2.mono fun _ _ q=>q.on hb⟩
 ·obtain⟨l,h1,h2⟩:=h.ent; exact⟨l,Row.dx h1,h2.mono fun _ _ q=>q.on hb⟩
 ·obtain⟨l,h1,h2⟩:=h.own; exact⟨l,Row.dx h1,h2.mono fun _ _ q=>q.on hb⟩
end Fl
end Go.Proofs.YtkcfgbddlpomgaaGreat
