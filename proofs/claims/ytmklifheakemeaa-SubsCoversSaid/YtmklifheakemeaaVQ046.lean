/-
  Chapter 10's runs: S. Conditions as told.
-/
import Derived.Test.YtmklifheakemeaaVQ045
import Derived.Test.YtmklifheakemeaaVQ038
set_option maxRecDepth 100000
set_option maxHeartbeats 64000000
open _root_.Bool renaming true->L,false->O
open Go.Lib renaming hid->D
open _root_.List renaming mem_singleton->J,pairwise_singleton->K
namespace Go.Proofs.Ytmklifheakemeaa.Sb
open Go.RowKit Go.Sort Rw Ytmklifheakemeaa.Nm Pr Bk Av Rl
abbrev GK:Br:={ Es with ent:=[⟨(1,0),(2,0),iI 1 9,2,L⟩] }
abbrev wZ:Br:={ Es with ent:=[⟨(1,0),(2,0),iI 1 9,2,L⟩,⟨(1,0),(3,0),iI 2 3,2,O⟩] }
theorem GN:dU Es ⟨(1,0),(2,0),iI 1 9,2,O⟩=(GK,L):=rfl
theorem GQ:dU GK ⟨(1,0),(3,0),iI 2 3,2,O⟩=(wZ,O):=rfl
theorem GR:takeB wZ (1,0) (2,0) 2=({ Es with ent:=[⟨(1,0),(3,0),iI 2 3,2,L⟩] },[⟨(1,0),(3,0),iI 2 3,2,L⟩],L):=rfl
theorem D8:sO wZ=L:=rfl
theorem yK (lo hi:Int) (h:vg ((⟨#[97]⟩,.rg lo hi):Cn)=L/\(-9223372036854775808<=lo/\lo<=9223372036854775807)/\(-9223372036854775808<=hi/\hi<=9223372036854775807)):eO (iI lo hi) :=
 ⟨[(⟨#[97]⟩,.rg lo hi)],⟨K _ _,by simp,by simpa using h.1,by
  intro c hc;rw [J.1 hc];exact⟨by simp [ByteArray.size],by simp [kT,ByteArray.size],h.2.1,h.2.2⟩⟩,rfl⟩
theorem Jw:wM Es:=⟨by simp,by simp,by simp,by simp,by simp⟩
theorem GU:lW Es:=⟨by simp,by simp,by simp⟩
theorem GV:wM GK:=⟨by simp,by simp,by simp,by simp,by simp⟩
theorem D9:lW GK:=⟨by simp,by simp,by simp⟩
theorem GY:wM wZ:=⟨by simp,by simp,by simp,by simp,by simp⟩
theorem Ea:lW wZ:=⟨by simp,by simp,by simp⟩
theorem wC:fC wZ.ent:=by decide
theorem Cm:∀ e∈wZ.ent,eO e.p:=by
 intro e he;rcases List.mem_cons.1 he with rfl|he
 ·exact yK 1 9 (by decide)
 ·rw [J.1 he]; exact yK 2 3 (by decide)
theorem wD {w W x:World} {bb:Nat} (h:Below w.heap.size w W) (hb:w.heap.size<=bb) (hs:Rg.JI bb W x):Below w.heap.size w x:=h.trans (hs.2 _ hb)
theorem Eb (w:World):Calls Try.prog 16 #[] w fun e w'=>e=.returned (.bool L)/\Below w.heap.size w w':=by
 have n0:=iG w (.cells #[.int .i64 1,.int .i64 0] 25);have X:=D (dO w #[.int .i64 1,.int .i64 0] 25);have B0:=D n0;have SZ:=D (show (w.alloc (.cells #[.int .i64 1,.int .i64 0] 25)).heap.size=w.heap.size+1 by simp);clear n0;go_enter Try.func16,Try.ntmps16;go_upto_region 3 with fail;generalize w.alloc (.cells #[.int .i64 1,.int .i64 0] 25)=W at *;refine TM _ W w.heap.size _ _ _ _ _ _ _ _ _ _ _ _ _ _ _ _ _ _ _ _ _ _ _ _ _ _ _ _ _ _ _ _ _ _ _ _ _ _ _ _ _ _ _ _ _ _ _ _ _ _ _ _ _ _ _ _ _ _ _ _ _ _ _ _ _ _ _ _ _ _ _ _ _ _ _ _ _ X.out ?_;intro x bb v11 v12 v13 v14 v15 v16 v17 v18 m1 m2 m3 m4 m5 m6 m7 m8 m9 m10 m11 m12 m13 m14 m15 hbb eP hbr hbel;have XB:=D eP;have BR:=D hbr;have XT:=D (X.out.on hbel);have B1:=D (B0.out.trans (hbel.mono B0.out.size));have BL:=D (show w.heap.size+1<=bb by have:=SZ.out; omega);clear hbb eP hbr hbel X B0 SZ;go_upto_region 4 with fail;refine TR _ x bb w.heap.size Es m1 m2 m3 m4 m5 m6 m7 m8 m9 m10 m11 m12 m13 m14 m15 _ _ _ _ _ _ _ _ _ _ _ _ _ _ _ _ _ _ _ _ _ _ _ _ _ _ _ _ _ _ _ _ _ _ _ _ _ _ _ _ _ _ _ _ _ _ _ _ _ _ _ _ _ _ _ _ _ _ _ _ _ _ _ _ _ _ _ _ _ _ _ _ _ _ _ XT.out XB.out BR.out Jw GU (List.Pairwise.nil) (by simp) (yK 1 9 (by decide)) ?_;intro x2 v19 v20 v21 v22 v23 v24 v25 v26 v27 v28 n1 n2 n3 n4 n5 n6 n7 n8 n9 n10 n11 n12 n13 n14 n15 eP hbr tF;rw [GN] at eP hbr ⊢;have Sd:=D eP;have Sg:=D hbr;have QB:=D (tF.1.box XT.out (by have:=BL.out; omega));have B2:=D (wD B1.out (by have:=BL.out; omega) tF);clear eP hbr tF XT XB BR B1;go_upto_region 5 with fail;refine TU _ x2 bb w.heap.size GK n1 n2 n3 n4 n5 n6 n7 n8 n9 n10 n11 n12 n13 n14 n15 _ _ _ _ _ _ _ _ _ _ _ _ _ _ _ _ _ _ _ _ _ _ _ _ _ _ _ _ _ _ _ _ _ _ _ _ _ _ _ _ _ _ _ _ _ _ _ _ _ _ _ _ _ _ _ _ _ _ _ _ _ _ _ _ _ _ _ _ _ _ _ _ _ _ _ QB.out Sd.out Sg.out GV D9 (K _ _) (by intro e he; rw [J.1 he]; exact yK 1 9 (by decide)) (yK 2 3 (by decide)) ?_;intro x3 v29 v30 v31 v32 v33 v34 v35 v36 v37 v38 k1 k2 k3 k4 k5 k6 k7 k8 k9 k10 k11 k12 k13 k14 k15 eP hbr tF;rw [GQ] at eP hbr ⊢;have QC:=D eP;have QD:=D hbr;have T9:=D (tF.1.box QB.out (by have:=BL.out; omega));have B3:=D (wD B2.out (by have:=BL.out; omega) tF);clear eP hbr tF QB Sd Sg B2;obtain⟨b0,b1,b2,b3,b4,b5⟩:=QC.out.jc;obtain⟨t0,t1⟩:=T9.out.cs2;go_wp2_with fail;refine (wo wZ (k1,k2,k3) (k4,k5,k6) (k7,k8,k9) (k10,k11,k12) (k13,k14,k15) (1,0) (2,0) 2 x3 QD.out.br GY Ea wC Cm).mono ?_;rw [GR];rintro e4 x4 ⟨⟨⟨h1,h2,h3⟩,⟨h4,h5,h6⟩,⟨h7,h8,h9⟩,⟨h10,h11,h12⟩,⟨h13,h14,h15⟩,⟨l1,l2,l3⟩,lu,rfl,_,hr,ha,_⟩,hb⟩;have nb:=iG x4 (.cells #[.int .i64 0,.slice h1 h2 h3,.slice h4 h5 h6,.slice h7 h8 h9,.slice h10 h11 h12,.slice h13 h14 h15] 31);have hb4:=hb.trans (nb.mono hb.size);have Ua:=D (QC.out.on hb4);have Ub:=D (QD.out.on hb4);have B4:=D (B3.out.trans (hb4.mono B3.out.size));have HR:=D (hr.on nb);obtain⟨y,rfl,hy⟩:∃ y,lu=[y]/\iC x4 y ⟨(1,0),(3,0),iI 2 3,2,L⟩:=by
  match lu,ha with
  | [y],.cons q .nil=>exact⟨y,rfl,q⟩
 have hl:([y]:List gM).length=l2:=gX hr;obtain rfl:l2=1:=hl.symm;obtain⟨p,ix,px⟩:=Iw (k:=0) HR.out rfl rfl rfl;obtain⟨p0,p1,p2,p3,p4,p5,p6⟩:=px _ (Below.refl _ _);obtain⟨y1,y2,y3,y4,⟨yo,yn,yc⟩,y6,y7⟩:=y;have hy2:((y3,y4):eu)=(3,0):=hy.2.1;have Uc:y7=L:=hy.2.2.2.1;subst Uc;clear hy;obtain⟨rfl,rfl⟩:y3=3/\y4=0:=by simpa using hy2
 simp only at p2 p3 p6
 replace ix:∀ w,(Instr.indexAt 28 (.slice l1 1 l3) (.int .i64 0)).run Try.prog w=.ok (.pointer (some p)) w:=ix
 have he:=Ag 3 0 3 0 L rfl;clear b0 b1 b2 b3 b4 b5;clear t0 t1;clear hb nb hb4 hr ha px hy2 p0 p1 p4 p5 QC QD B3 hl;obtain⟨b0,b1,b2,b3,b4,b5⟩:=Ua.out.jc;go_wp2_with fail;refine (oV wZ (k1,k2,k3) (k4,k5,k6) (k7,k8,k9) (k10,k11,k12) (k13,k14,k15) _ Ub.out.br wC (by simp) Cm).mono ?_;rw [D8];rintro e5 x5 ⟨rfl,hb⟩;go_wp2;go_ret;exact⟨rfl,B4.out.trans (hb.mono B4.out.size)⟩
end Go.Proofs.Ytmklifheakemeaa.Sb
