/-
  Rows of messages to . Conditions as told.
-/
import Derived.Test.YtmklifheakemeaaGreatLQ012
import Derived.Test.YtmklifheakemeaaGreatLQ011
set_option maxRecDepth 100000
set_option maxHeartbeats 64000000
open _root_.Go renaming Value->aI,World->aJ,Addr->aS
open Go.Addr renaming add->aH
open Go.IntKind renaming i64->ah
open Go.Lib renaming hid->aA
open Go.Operand renaming tmp->ak
open Go.Proofs.Tryz renaming prog->aG
open Go.Proofs.YtmklifheakemeaaGreat.Rg renaming get_put->aj,dF->aF,done->aL,size_put->aM,dH->aO,fF->aR,eu->aT,eP->aU,fM->aV,jB->aW
open Go.RowKit.Below renaming refl->V,heap_setCell->aK
open Go.Value renaming slice->J,pointer->O,int->Z,bool->aQ
open _root_.List renaming getElem?_toArray->ay,getElem?_cons_zero->aB,getElem?_cons_succ->aC,length_take->aN
open _root_.Option renaming some->U,none->au
open _root_.Or renaming inr->aD,inl->aP
namespace Go.Proofs.YtmklifheakemeaaGreat
namespace Bk
open Go.RowKit Go.Sort Rw YtmklifheakemeaaGreat.Nm Pr
abbrev mg:=Int×Int×Int×Int×Int×Int×Sl×Sl
abbrev nK (x:mg):List aI:=[Z ah x.1,Z ah x.2.1,Z ah x.2.2.1,Z ah x.2.2.2.1,Z ah x.2.2.2.2.1,Z ah x.2.2.2.2.2.1,dO x.2.2.2.2.2.2.1,dO x.2.2.2.2.2.2.2]
abbrev AV (x:mg):aI:=.agg #[Z ah x.1,Z ah x.2.1,Z ah x.2.2.1,Z ah x.2.2.2.1,Z ah x.2.2.2.2.1,Z ah x.2.2.2.2.2.1,dO x.2.2.2.2.2.2.1,dO x.2.2.2.2.2.2.2]
def EU:Ek mg:=⟨43,35,8,96,.agg #[Z ah 0,Z ah 0,Z ah 0,Z ah 0,Z ah 0,Z ah 0,J au 0 0,J au 0 0],AV,nK⟩
theorem XI:(Tryz.prog.info? 43).map (fun i=>(i.zero,i.size,i.bytes))=U (U (.agg #[Z ah 0,Z ah 0,Z ah 0,Z ah 0,Z ah 0,Z ah 0,J au 0 0,J au 0 0]),8,96):=by kernel_rfl
theorem XJ (w:aJ) (p:aS) (x:mg) (h:∀ j u,(nK x)[j]?=U u->w.cell? (p.add j)=U u):(Instr.loadAt 43 (O (U p))).run aG w=.ok (AV x) w:=by
 have h0:=h 0 _ rfl;have h1:=h 1 _ rfl;have h2:=h 2 _ rfl;have h3:=h 3 _ rfl;have h4:=h 4 _ rfl;have h5:=h 5 _ rfl;have h6:=h 6 _ rfl;have h7:=h 7 _ rfl;simp [aH] at h0 h1 h2 h3 h4 h5 h6 h7;simp [go_sem,h0,h1,h2,h3,h4,h5,h6,h7]
theorem QF:EU.Ok where
 hu:=Tryz.underlying35
 info:=by
  have h:=XI;cases hi:Tryz.prog.info? 43 with
  | none=>rw [hi] at h; cases h
  | some i =>
   rw [hi] at h;simp only [Option.map_some,Option.some.injEq,Prod.mk.injEq] at h;exact⟨i,hi,h.1,h.2.1,h.2.2⟩
 zs:=rfl
 len:=fun _=>rfl
 one:=fun x u hu=>by
  simp only [EU,nK,List.mem_cons,List.not_mem_nil,or_false] at hu;rcases hu with rfl|rfl|rfl|rfl|rfl|rfl|rfl|rfl <;> rfl
 pos:=by decide
 few:=by decide
 load:=fun w p x h=>XJ w p x h
abbrev XK (W:aJ) (v:aI) (l:List mg):Prop:=Row EU W v l
abbrev vL (W:aJ) (B:Nat) (v:aI) (l:List mg):Prop:=Own EU W B v l
theorem elU {W:aJ} {v:aI} {l:List mg} {ao:Option aS} {n c k:Nat} {x:mg} (h:XK W v l) (hv:v=J ao n c) (hn:l.length=n) (hk:l[k]?=U x) :
  ∃ p:aS,(∀ w,(Instr.indexAt 35 (J ao n c) (Z ah k)).run aG w=.ok (O (U p)) w)/\∀ w,Below W.heap.size W w->w.cell? p=U (Z ah x.1)/\w.cell? ⟨p.block,p.off+1,au⟩=U (Z ah x.2.1)/\w.cell? ⟨p.block,p.off+2,au⟩=U (Z ah x.2.2.1)/\w.cell? ⟨p.block,p.off+3,au⟩=U (Z ah x.2.2.2.1)/\w.cell? ⟨p.block,p.off+4,au⟩=U (Z ah x.2.2.2.2.1)/\w.cell? ⟨p.block,p.off+5,au⟩=U (Z ah x.2.2.2.2.2.1)/\w.cell? ⟨p.block,p.off+6,au⟩=U (dO x.2.2.2.2.2.2.1)/\w.cell? ⟨p.block,p.off+7,au⟩=U (dO x.2.2.2.2.2.2.2):=by
 obtain⟨p,h1,_,h2⟩:=nE QF h hv hn hk;exact⟨p,h1,fun w hw=>⟨by simpa [aH] using h2 w hw 0 _ rfl,by simpa [aH] using h2 w hw 1 _ rfl,by simpa [aH] using h2 w hw 2 _ rfl,by simpa [aH] using h2 w hw 3 _ rfl,by simpa [aH] using h2 w hw 4 _ rfl,by simpa [aH] using h2 w hw 5 _ rfl,by simpa [aH] using h2 w hw 6 _ rfl,by simpa [aH] using h2 w hw 7 _ rfl⟩⟩
end Bk
namespace Av
open Go.RowKit Go.Sort Rw YtmklifheakemeaaGreat.Nm Pr Bk
theorem su (x y:fB) (w:aJ):Calls aG 120 #[nU x,nU y] w fun e w'=>e=.returned (aQ (dY x y))/\Below w.heap.size w w':=by
 have C:=vH x y;have R:=aA (show decide (l8 x y<0)=dY x y from by
  have h:=qL x y;cases hl:dY x y
  ·rw [hl] at h; simp at h; simpa using h
  ·rw [hl] at h; simp at h; simpa using h)
 obtain⟨a,b⟩:=x;obtain⟨c,d⟩:=y;obtain⟨h0,X,Y⟩:=gT w #[Z ah a,Z ah b] #[Z ah c,Z ah d] 31 31;obtain⟨x0,x1⟩:=X.cs2;obtain⟨y0,y1⟩:=Y.cs2;have B:=aA h0;generalize l8 (a,b) (c,d)=r at *;generalize dY (a,b) (c,d)=s at *;clear X Y h0;go_enter Tryz.func120,Tryz.ntmps120;go_wp2_with fail;have C:=C ((w.alloc (.cells #[Z ah a,Z ah b] 31)).alloc (.cells #[Z ah c,Z ah d] 31));refine C.mono ?_;rintro e w1 ⟨rfl,hb⟩;go_wp2;go_ret;exact⟨by have h:=R.out; subst h; rfl,B.out.trans (hb.mono B.out.size)⟩
theorem Ju (x y:jk) (w:aJ):Calls aG 58 #[lQ x,lQ y] w fun e w'=>e=.returned (Z ah (l8 (x.1,x.2.1) (y.1,y.2.1)))/\Below w.heap.size w w':=by
 obtain⟨a,b,⟨s1,s2,s3⟩,p⟩:=x;obtain⟨c,d,⟨t1,t2,t3⟩,q⟩:=y;have C:=vH (a,b) (c,d);obtain⟨h0,X,Y⟩:=gT w #[Z ah a,Z ah b,J s1 s2 s3,Z ah p] #[Z ah c,Z ah d,J t1 t2 t3,Z ah q] 74 74;have x1:=X.cell 1;have x0:=X.cell 0;have y1:=Y.cell 1;have y0:=Y.cell 0;simp only [ay,aB,aC] at x0 x1 y0 y1;have B:=aA h0;generalize l8 (a,b) (c,d)=r at *;clear X Y h0;go_enter Tryz.func58,Tryz.ntmps58;go_wp2_with fail;have C:=C ((w.alloc (.cells #[Z ah a,Z ah b,J s1 s2 s3,Z ah p] 74)).alloc (.cells #[Z ah c,Z ah d,J t1 t2 t3,Z ah q] 74));refine C.mono ?_;rintro e w1 ⟨rfl,hb⟩;go_wp2;go_ret;exact⟨rfl,B.out.trans (hb.mono B.out.size)⟩
def jR (near:List Int) (f:Int):Bool:=decide (f∈near) || f == -1
end Av
namespace Bk
open Go.RowKit Rw YtmklifheakemeaaGreat.Nm Pr
noncomputable def RQ:Code:=((Tryz.f47.body.bind (eT 9)).getD .skip)
structure P9 (base:Act) (v0 v2:aI) (p:aI) (W W':aJ) (L:Array Bool) (a:Act) (x:aJ):Prop where
 df:a.defers=base.defers
 sz:a.tmps.size=base.tmps.size
 kp:∀ j,j≠112->j≠113->j≠114->j≠5->a.tmps[j]?=base.tmps[j]?
 t0:aL L 0->a.tmps[112]?=U v0
 t1:aL L 1->a.tmps[113]?=U p
 t2:aL L 2->a.tmps[114]?=U v2
 t4:aL L 4->a.tmps[5]?=U v2
 w0:¬ aL L 3->x=W.drew
 w1:aL L 3->x=W'
 c3:aL L 3->aL L 0
theorem sw (Q:Exit->Act->aJ->Prop) (W:aJ) (b2 b3 b4:Nat) (me:Int) (o1 o2 o3 o4 o5:Option aS) (n1 c1 n2 c2 n3 c3 n4 c4 n5 c5:Nat) (e0 e1 e2 e3 e4 e5 z0 z1 z2 z3 z4 z5:aI) (up:Bool) (u0 u1 u5 u6 u7 u8 u9 u10 u11 u12 u13 u14 u15 u16 u17 u18 u19 u20 u21 u22 u23 u24 u25 u26 u27 u28 u29 u30 u31 u32 u33 u34 u35 u36 u37 u38 u39 u40 u41 u42 u43 u44 u45 u46 u47 u48 u49 u50 u51 u52 u53 u54 u55 u56 u57 u58 u59 u60 u61 u62 u63 u64 u65 u66 u67 u68 u69 u70 u71 u72 u73 u74 u75 u76 u77 u78 u79 u80 u81 u82 u83 u84 u85 u86 u87 u88 u89 u90 u91 u92 u93 u94 u95 u96 u97 u98 u99 u100 u101 u102 u103 u104 u105 u106 u107 u108 u109 u110 u111 u112 u113 u114:aI)
  (h2:dI W b2 #[Z ah me,J o1 n1 c1,J o2 n2 c2,J o3 n3 c3,J o4 n4 c4,J o5 n5 c5] 28) (h3:dI W b3 #[e0,e1,e2,e3,e4,e5,aQ up] 66) (h4:dI W b4 #[z0,z1,z2,z3,z4,z5] 28) (hne:b3≠b4)
  (hQ:∀ (a:Act) (x:aJ),a.defers=[]->a.tmps[4]?=U (O (U ⟨b4,0,au⟩))->a.tmps[5]?=U (aQ up)->x=iF W.drew b4 (Z ah me) (J o1 n1 c1) (J o2 n2 c2) (J o3 n3 c3) (J o4 n4 c4) (J o5 n5 c5)->Q .normal a x) :
  Code.wp aG RQ Q ⟨(u0::u1::O (U ⟨b2,0,au⟩)::O (U ⟨b3,0,au⟩)::O (U ⟨b4,0,au⟩)::u5::u6::u7::u8::u9::u10::u11::u12::u13::u14::u15::u16::u17::u18::u19::u20::u21::u22::u23::u24::u25::u26::u27::u28::u29::u30::u31::u32::u33::u34::u35::u36::u37::u38::u39::u40::u41::u42::u43::u44::u45::u46::u47::u48::u49::u50::u51::u52::u53::u54::u55::u56::u57::u58::u59::u60::u61::u62::u63::u64::u65::u66::u67::u68::u69::u70::u71::u72::u73::u74::u75::u76::u77::u78::u79::u80::u81::u82::u83::u84::u85::u86::u87::u88::u89::u90::u91::u92::u93::u94::u95::u96::u97::u98::u99::u100::u101::u102::u103::u104::u105::u106::u107::u108::u109::u110::u111::u112::u113::u114::[]).toArray,[]⟩ W:=by
 have HQ:=aA hQ;have H2:=aA h2.drew;have H3:=aA h3.drew;have H4:=aA h4.drew;have X3:=aA (show dI (iF W.drew b4 (Z ah me) (J o1 n1 c1) (J o2 n2 c2) (J o3 n3 c3) (J o4 n4 c4) (J o5 n5 c5)) b3 #[e0,e1,e2,e3,e4,e5,aQ up] 66 from (iw W.drew b4 (Z ah me) (J o1 n1 c1) (J o2 n2 c2) (J o3 n3 c3) (J o4 n4 c4) (J o5 n5 c5) b3 hne).trans h3.drew);clear hQ h2 h3 h4 hne;unfold RQ
 conv=>arg 2; whnf
 obtain⟨base,hbase⟩:∃ b:Act,b=⟨(u0::u1::O (U ⟨b2,0,au⟩)::O (U ⟨b3,0,au⟩)::O (U ⟨b4,0,au⟩)::u5::u6::u7::u8::u9::u10::u11::u12::u13::u14::u15::u16::u17::u18::u19::u20::u21::u22::u23::u24::u25::u26::u27::u28::u29::u30::u31::u32::u33::u34::u35::u36::u37::u38::u39::u40::u41::u42::u43::u44::u45::u46::u47::u48::u49::u50::u51::u52::u53::u54::u55::u56::u57::u58::u59::u60::u61::u62::u63::u64::u65::u66::u67::u68::u69::u70::u71::u72::u73::u74::u75::u76::u77::u78::u79::u80::u81::u82::u83::u84::u85::u86::u87::u88::u89::u90::u91::u92::u93::u94::u95::u96::u97::u98::u99::u100::u101::u102::u103::u104::u105::u106::u107::u108::u109::u110::u111::u112::u113::u114::[]).toArray,[]⟩:=⟨_,rfl⟩;have b2t:base.tmps[2]?=U (O (U ⟨b2,0,au⟩)):=by rw [hbase]; rfl
 have b3t:base.tmps[3]?=U (O (U ⟨b3,0,au⟩)):=by rw [hbase]; rfl
 have b4t:base.tmps[4]?=U (O (U ⟨b4,0,au⟩)):=by rw [hbase]; rfl
 have bsz:base.tmps.size=115:=by rw [hbase]; rfl
 have bdf:base.defers=[]:=by rw [hbase]
 rw [<- hbase];clear hbase;generalize hW':iF W.drew b4 (Z ah me) (J o1 n1 c1) (J o2 n2 c2) (J o3 n3 c3) (J o4 n4 c4) (J o5 n5 c5)=W' at *;refine Rg.kC (fun L a x=>P9 base (.agg #[Z ah me,J o1 n1 c1,J o2 n2 c2,J o3 n3 c3,J o4 n4 c4,J o5 n5 c5]) (aQ up) (O (U ⟨b3,6,au⟩)) W W' L a x) (by kernel_rfl) (by kernel_rfl) ?_ ?_ ?_
 ·exact⟨rfl,rfl,fun _ _ _ _ _=>rfl,fun h=>absurd h (aR _ _),fun h=>absurd h (aR _ _),fun h=>absurd h (aR _ _),fun h=>absurd h (aR _ _),fun _=>rfl,fun h=>absurd h (aR _ _),fun h=>absurd h (aR _ _)⟩
 ·intro L a x i o hsz I ho hnd jO;have hi:i<5:=(List.getElem?_eq_some_iff.1 ho).1;have hL:L.size=5:=hsz;have rV:i<L.size:=by omega
  have k2:a.eval (ak 2)=O (U ⟨b2,0,au⟩):=aO ((I.kp 2 (by decide) (by decide) (by decide) (by decide)).trans b2t);have k3:a.eval (ak 3)=O (U ⟨b3,0,au⟩):=aO ((I.kp 3 (by decide) (by decide) (by decide) (by decide)).trans b3t);have k4:a.eval (ak 4)=O (U ⟨b4,0,au⟩):=aO ((I.kp 4 (by decide) (by decide) (by decide) (by decide)).trans b4t);have asz:a.tmps.size=115:=I.sz.trans bsz;have self:∀ (d:Nat) (v:aI),d<115->(a.put (U d) v).tmps[d]?=U v:=fun d v hd=>by
   have:d<a.tmps.size:=by omega
   simp [Act.put,this]
  have ds:=fun j=>Rg.fQ rV j;rcases (by omega:i=0\/i=1\/i=2\/i=3\/i=4) with rfl|rfl|rfl|rfl|rfl
  ·cases ho;have hx:x=W.drew:=I.w0 fun h=>hnd (I.c3 h);exact aF rfl rfl (aT a.eval _ 28 (ak 2) rfl (by rw [k2,hx]; exact vG H2.out)) ⟨I.df,(aM a _ _).trans I.sz,fun j j1 j2 j3 j4=>(aj _ _ _ j (by omega)).trans (I.kp j j1 j2 j3 j4),fun _=>self 112 _ (by decide),fun h=>(aj _ _ _ 113 (by decide)).trans (I.t1 (((ds 1).1 h).resolve_left (by decide))),fun h=>(aj _ _ _ 114 (by decide)).trans (I.t2 (((ds 2).1 h).resolve_left (by decide))),fun h=>(aj _ _ _ 5 (by decide)).trans (I.t4 (((ds 4).1 h).resolve_left (by decide))),fun h=>I.w0 fun h3=>h ((ds 3).2 (aD h3)),fun h=>I.w1 (((ds 3).1 h).resolve_left (by decide)),fun h=>(ds 0).2 (aP rfl)⟩
  ·cases ho;exact aF rfl rfl (aU a.eval _ 66 (ak 3) 4 rfl (by rw [k3]; simp [go_sem])) ⟨I.df,(aM a _ _).trans I.sz,fun j j1 j2 j3 j4=>(aj _ _ _ j (by omega)).trans (I.kp j j1 j2 j3 j4),fun h=>(aj _ _ _ 112 (by decide)).trans (I.t0 (((ds 0).1 h).resolve_left (by decide))),fun _=>self 113 _ (by decide),fun h=>(aj _ _ _ 114 (by decide)).trans (I.t2 (((ds 2).1 h).resolve_left (by decide))),fun h=>(aj _ _ _ 5 (by decide)).trans (I.t4 (((ds 4).1 h).resolve_left (by decide))),fun h=>I.w0 fun h3=>h ((ds 3).2 (aD h3)),fun h=>I.w1 (((ds 3).1 h).resolve_left (by decide)),fun h=>(ds 0).2 (aD (I.c3 (((ds 3).1 h).resolve_left (by decide))))⟩
  ·cases ho;have k113:a.eval (ak 113)=O (U ⟨b3,6,au⟩):=aO (I.t1 (jO ⟨1,.data⟩ (by simp) rfl));have hc:x.cell? ⟨b3,6,au⟩=U (aQ up):=by
    by_cases h3:aL L 3
    ·rw [I.w1 h3]; exact X3.out.cell 6
    ·rw [I.w0 h3]; exact H3.out.cell 6
   exact aF rfl rfl (aT a.eval _ 4 (ak 113) rfl (by rw [k113]; simp [go_sem,hc])) ⟨I.df,(aM a _ _).trans I.sz,fun j j1 j2 j3 j4=>(aj _ _ _ j (by omega)).trans (I.kp j j1 j2 j3 j4),fun h=>(aj _ _ _ 112 (by decide)).trans (I.t0 (((ds 0).1 h).resolve_left (by decide))),fun h=>(aj _ _ _ 113 (by decide)).trans (I.t1 (((ds 1).1 h).resolve_left (by decide))),fun _=>self 114 _ (by decide),fun h=>(aj _ _ _ 5 (by decide)).trans (I.t4 (((ds 4).1 h).resolve_left (by decide))),fun h=>I.w0 fun h3=>h ((ds 3).2 (aD h3)),fun h=>I.w1 (((ds 3).1 h).resolve_left (by decide)),fun h=>(ds 0).2 (aD (I.c3 (((ds 3).1 h).resolve_left (by decide))))⟩
  ·cases ho;have hx:x=W.drew:=I.w0 hnd;refine Rg.gB 28 (ak 4) (ak 112) rfl rfl rfl rfl k4 (aO (I.t0 (jO ⟨0,.data⟩ (by simp) rfl))) (w':=W') (by rw [hx,<- hW']; exact nJ H4.out me _ _ _ _ _ _ _ _ _ _ _ _ _ _ _) ?_;exact⟨I.df,I.sz,I.kp,fun h=>I.t0 (((ds 0).1 h).resolve_left (by decide)),fun h=>I.t1 (((ds 1).1 h).resolve_left (by decide)),fun h=>I.t2 (((ds 2).1 h).resolve_left (by decide)),fun h=>I.t4 (((ds 4).1 h).resolve_left (by decide)),fun h=>absurd ((ds 3).2 (aP rfl)) h,fun _=>rfl,fun _=>(ds 0).2 (aD (jO ⟨0,.data⟩ (by simp) rfl))⟩
  ·cases ho;have k114:a.eval (ak 114)=aQ up:=aO (I.t2 (jO ⟨2,.data⟩ (by simp) rfl));exact aF rfl rfl (Rg.kD a.eval _ (ak 114) rfl x) (by rw [k114]; exact⟨I.df,(aM a _ _).trans I.sz,fun j j1 j2 j3 j4=>(aj _ _ _ j (by omega)).trans (I.kp j j1 j2 j3 j4),fun h=>(aj _ _ _ 112 (by decide)).trans (I.t0 (((ds 0).1 h).resolve_left (by decide))),fun h=>(aj _ _ _ 113 (by decide)).trans (I.t1 (((ds 1).1 h).resolve_left (by decide))),fun h=>(aj _ _ _ 114 (by decide)).trans (I.t2 (((ds 2).1 h).resolve_left (by decide))),fun _=>self 5 _ (by decide),fun h=>I.w0 fun h3=>h ((ds 3).2 (aD h3)),fun h=>I.w1 (((ds 3).1 h).resolve_left (by decide)),fun h=>(ds 0).2 (aD (I.c3 (((ds 3).1 h).resolve_left (by decide))))⟩)
 ·intro L a x I hd;exact HQ.out a x (I.df.trans bdf) ((I.kp 4 (by decide) (by decide) (by decide) (by decide)).trans b4t) (I.t4 (hd 4 (by decide))) ((I.w1 (hd 3 (by decide))))
def zM (B b2 _:Nat) (so:Option aS) (sn sc at_:Nat) (lo hiv:aI) (z:nS) (lt ld:List nS) (i:Nat) (v:aI) (x:aJ):Prop :=
 match i with
 | 0=>∃ g,v=J (U ⟨g,0,au⟩) 0 0/\B<=g/\dI x g #[] 34
 | 1=>v=O (U ⟨b2,5,au⟩)
 | 2=>v=J so sn sc
 | 3=>v=Z ah (at_:Int)
 | 4=>v=lo
 | 5=>nI x B v lt
 | 6=>v=nU (z.1,z.2.1)
 | 7=>v=dO z.2.2
 | 8=>v=KF z
 | 9=>nI x B v [z]
 | 10=>nI x B v (lt++[z])
 | 11=>v=O (U ⟨b2,5,au⟩)
 | 12=>v=J so sn sc
 | 13=>v=Z ah (at_:Int)
 | 14=>v=hiv
 | 15=>nI x B v (lt++[z]++ld)
 | 16=>v=O (U ⟨b2,5,au⟩)
 | _=>True
noncomputable def Lg:Code:=((Tryz.f23.body.bind (eT 6)).getD .skip)
theorem Jv (B b2 b3:Nat) (so:Option aS) (sn sc at_:Nat) (lo hiv:aI) (z:nS) (lt ld:List nS) (i:Nat) (v:aI) (x x':aJ) (h:zM B b2 b3 so sn sc at_ lo hiv z lt ld i v x) (hb:Below x.heap.size x x'):zM B b2 b3 so sn sc at_ lo hiv z lt ld i v x':=by
 by_cases hi:i<17
 ·rcases (by omega:i=0\/i=1\/i=2\/i=3\/i=4\/i=5\/i=6\/i=7\/i=8\/i=9\/i=10\/i=11\/i=12\/i=13\/i=14\/i=15\/i=16) with rfl|rfl|rfl|rfl|rfl|rfl|rfl|rfl|rfl|rfl|rfl|rfl|rfl|rfl|rfl|rfl|rfl
  ·obtain⟨g,h1,h2,h3⟩:=h;exact⟨g,h1,h2,h3.on hb⟩
  ·exact h
  ·exact h
  ·exact h
  ·exact h
  ·exact dJ h hb
  ·exact h
  ·exact h
  ·exact h
  ·exact dJ h hb
  ·exact dJ h hb
  ·exact h
  ·exact h
  ·exact h
  ·exact h
  ·exact dJ h hb
  ·exact h
 ·unfold zM
  split <;> first | omega | trivial
theorem RS (Q:Exit->Act->aJ->Prop) (W:aJ) (b2 b3:Nat) (me:Int) (y1 y2 y3 y4:aI) (so:Option aS) (sn sc at_:Nat) (l:List nS) (z:nS) (u0 u1 u5 u6 u7 u9 u10 u11 u12 u13 u14 u15 u16 u17 u18 u19 u20 u21 u22 u23 u24 u25 u26 u27 u28 u29 u30 u31 u32 u33 u34 u35 u36 u37 u38 u39 u40 u41 u42 u43 u44 u45 u46 u47 u48 u49 u50 u51 u52 u53 u54 u55 u56 u57 u58 u59 u60 u61 u62 u63 u64 u65 u66 u67 u68 u69 u70 u71 u72 u73 u74 u75 u76 u77 u78 u79 u80 u81 u82 u83 u84 u85 u86 u87 u88 u89 u90 u91 u92 u93 u94 u95 u96 u97 u98:aI)
  (h2:dI W b2 #[Z ah me,y1,y2,y3,y4,J so sn sc] 28) (hx:∀ x,Below W.heap.size W x->∀ j u,(jP (z.1,z.2.1))[j]?=U u->x.cell? ((⟨b3,0,au⟩:aS).add j)=U u) (hs:I9 W (J so sn sc) l) (hat:at_<=l.length) (hlen:l.length<=900)
  (hQ:∀ (x:aJ) (v47 v48 v49 v50 v51 v52 v53 v54 v55 v56 v57 v58 v59 v60 v61 v62 v63:aI),dI x b2 #[Z ah me,y1,y2,y3,y4,v62] 28->nI x W.heap.size v62 (l.take at_++[z]++l.drop at_)->(∀ B,B<=b2->Below B W x)->(∀ c cs t,c≠b2->dI W c cs t->dI x c cs t)->(∀ k,k<W.heap.size->k≠b2->x.heap[k]?=W.heap[k]?)->Q .normal ⟨(u0::u1::dO z.2.2::O (U ⟨b2,0,au⟩)::O (U ⟨b3,0,au⟩)::u5::u6::u7::Z ah (at_:Int)::u9::u10::u11::u12::u13::u14::u15::u16::u17::u18::u19::u20::u21::u22::u23::u24::u25::u26::u27::u28::u29::u30::u31::u32::u33::u34::u35::u36::u37::u38::u39::u40::u41::u42::u43::u44::u45::u46::v47::v48::v49::v50::v51::v52::v53::v54::v55::v56::v57::v58::v59::v60::v61::v62::v63::u64::u65::u66::u67::u68::u69::u70::u71::u72::u73::u74::u75::u76::u77::u78::u79::u80::u81::u82::u83::u84::u85::u86::u87::u88::u89::u90::u91::u92::u93::u94::u95::u96::u97::u98::[]).toArray,[]⟩ x) :
  Code.wp aG Lg Q ⟨(u0::u1::dO z.2.2::O (U ⟨b2,0,au⟩)::O (U ⟨b3,0,au⟩)::u5::u6::u7::Z ah (at_:Int)::u9::u10::u11::u12::u13::u14::u15::u16::u17::u18::u19::u20::u21::u22::u23::u24::u25::u26::u27::u28::u29::u30::u31::u32::u33::u34::u35::u36::u37::u38::u39::u40::u41::u42::u43::u44::u45::u46::u47::u48::u49::u50::u51::u52::u53::u54::u55::u56::u57::u58::u59::u60::u61::u62::u63::u64::u65::u66::u67::u68::u69::u70::u71::u72::u73::u74::u75::u76::u77::u78::u79::u80::u81::u82::u83::u84::u85::u86::u87::u88::u89::u90::u91::u92::u93::u94::u95::u96::u97::u98::[]).toArray,[]⟩ W:=by
 have HQ:=aA hQ;have H2:=aA h2;have LX:=aA hx;obtain⟨lo,Qx,Ej⟩:=DN okW hs at_ (by omega);obtain⟨hiv,Qy,El⟩:=rU okW hs (at_) hat;have LT:=aA (show (l.take at_).length<=1000 by rw [aN]; omega);have LTD:=aA (show (l.take at_).length<=900 by rw [aN]; omega);have LD:=aA (show (l.drop (at_)).length<=1000 by rw [List.length_drop]; omega);generalize l.take at_=lt at *;generalize l.drop (at_)=ld at *;have SL:=aA Qx;have SH:=aA Qy;have RL:=aA Ej;have RH:=aA El;clear hQ h2 hx hs Qx Qy Ej El hat hlen;have jG:=Jv W.heap.size b2 b3 so sn sc at_ lo hiv z lt ld;unfold Lg
 conv=>arg 2; whnf
 have nd:∀ j,(j<47\/64<=j)->∀ i,i<17->(fun i=>47+i) i≠j:=by
  intro j hj i hi h;simp only at h;omega
 refine Rg.gN 18 17 (fun i=>47+i) (fun i=>if i=0 then 5 else if i=5 then 10 else if i=9 then 10 else if i=10 then 15 else 17) (zM W.heap.size b2 b3 so sn sc at_ lo hiv z lt ld) (by kernel_rfl) (by kernel_rfl) rfl (by decide) (fun i j _ _ h=>by have h2:47+i=47+j:=h; omega) (fun i hi=>by show 47+i<99; omega) ?_ (fun _=>Rg.jN 1 (by kernel_rfl)) (fun kk o h1 h2=>by omega) ?_
 ·intro i o hi ho a x D hnd hc hD hb seen K hK;clear HQ;rcases (by omega:i=0\/i=1\/i=2\/i=3\/i=4\/i=5\/i=6\/i=7\/i=8\/i=9\/i=10\/i=11\/i=12\/i=13\/i=14\/i=15\/i=16) with rfl|rfl|rfl|rfl|rfl|rfl|rfl|rfl|rfl|rfl|rfl|rfl|rfl|rfl|rfl|rfl|rfl
  ·cases ho;exact aF rfl rfl (Rg.mH a.eval _ 26 0 #[] rfl rfl (by simp [go_sem])) (hK (J (U ⟨x.heap.size,0,au⟩) 0 0) (x.alloc (.cells #[] 34)) ⟨x.heap.size,rfl,hb.size,dL x #[] 34⟩ ((V _ _).alloc hb.size _) fun j u _ _ _ _ _ h=>jG j u _ _ h ((V _ _).alloc (Nat.le_refl _) _))
  ·cases ho;have e3:a.eval (ak 3)=O (U ⟨b2,0,au⟩):=seen.kp 3 _ (nd 3 (by omega)) rfl;exact aF rfl rfl (aU a.eval _ 28 (ak 3) 5 rfl (by rw [e3]; simp [go_sem])) (hK _ _ rfl (V _ _) fun _ _ _ _ _ _ _ h=>h)
  ·cases ho;have e48:a.eval (ak 48)=O (U ⟨b2,5,au⟩):=seen.at_ ⟨1,.data⟩ (by simp) rfl (aD (by decide));have y:=(H2.out.on hb).cell 5;simp only [ay,aB,aC] at y;exact aF rfl rfl (aT a.eval _ 26 (ak 48) rfl (by rw [e48]; simp [go_sem,y])) (hK _ _ rfl (V _ _) fun _ _ _ _ _ _ _ h=>h)
  ·cases ho;have e8:a.eval (ak 8)=Z ah (at_:Int):=seen.kp 8 _ (nd 8 (by omega)) rfl;exact aF rfl rfl (aV a.eval _ (ak 8) rfl x) (hK _ _ e8 (V _ _) fun _ _ _ _ _ _ _ h=>h)
  ·cases ho;have e49:a.eval (ak 49)=J so sn sc:=seen.at_ ⟨2,.data⟩ (by simp) rfl (aD (by decide));have e50:a.eval (ak 50)=Z ah (at_:Int):=seen.at_ ⟨3,.data⟩ (by simp) rfl (aD (by decide));exact aF rfl rfl (Rg.qG a.eval _ 26 (ak 49) au (U (ak 50)) au rfl (by show (Instr.sliceAt 26 (a.eval (ak 49)) au (U (a.eval (ak 50))) au).run aG x=.ok lo x; rw [e49,e50]; exact SL.out x)) (hK _ _ rfl (V _ _) fun _ _ _ _ _ _ _ h=>h)
  ·cases ho;obtain⟨g,q0,hBg,hbx⟩:=seen.at_ ⟨0,.data⟩ (by simp) rfl (aP rfl);have q0:a.eval (ak 47)=J (U ⟨g,0,au⟩) 0 0:=q0;have e51:a.eval (ak 51)=lo:=seen.at_ ⟨4,.data⟩ (by simp) rfl (aD (by decide));obtain⟨v',x',r,o',gr⟩:=jW okW W.heap.size hbx hBg (RL.out.on hb) LT.out 26;exact aF rfl rfl (aW a.eval _ (ak 47) (ak 51) 26 rfl q0 e51 r) (hK v' x' o' (gr.mono hb.size) fun j u _ _ _ _ _ h=>jG j u _ _ h gr)
  ·cases ho;have e4:a.eval (ak 4)=O (U ⟨b3,0,au⟩):=seen.kp 4 _ (nd 4 (by omega)) rfl;exact aF rfl rfl (aT a.eval _ 31 (ak 4) rfl (by rw [e4]; exact RF x _ (z.1,z.2.1) (LX.out x hb))) (hK _ _ rfl (V _ _) fun _ _ _ _ _ _ _ h=>h)
  ·cases ho;have e2:a.eval (ak 2)=dO z.2.2:=seen.kp 2 _ (nd 2 (by omega)) rfl;exact aF rfl rfl (aV a.eval _ (ak 2) rfl x) (hK _ _ e2 (V _ _) fun _ _ _ _ _ _ _ h=>h)
  ·cases ho;have e53:a.eval (ak 53)=nU (z.1,z.2.1):=seen.at_ ⟨6,.data⟩ (by simp) rfl (aD (by decide));have e54:a.eval (ak 54)=dO z.2.2:=seen.at_ ⟨7,.data⟩ (by simp) rfl (aD (by decide));exact aF rfl rfl (Rg.mI a.eval _ 34 #[(0,ak 53),(1,ak 54)] rfl (ps:=#[(0,nU (z.1,z.2.1)),(1,dO z.2.2)]) (by simp only [List.map_toArray,List.map_cons,List.map_nil,e53,e54]) (by simp [go_sem])) (hK _ _ rfl (V _ _) fun _ _ _ _ _ _ _ h=>h)
  ·cases ho;have e55:a.eval (ak 55)=KF z:=seen.at_ ⟨8,.data⟩ (by simp) rfl (aD (by decide));have hl:=kK okW x [z] 1 rfl (by simp) (qp z).toArray (by simp [flat,EW]);have hl:nI (x.alloc (.cells (qp z).toArray 34)) x.heap.size (J (U ⟨x.heap.size,0,au⟩) 1 1) [z]:=hl;exact aF rfl rfl (Rg.mH a.eval _ 26 1 #[(0,ak 55)] rfl (ps:=#[(0,KF z)]) (by simp [e55]) (by simp [go_sem])) (hK (J (U ⟨x.heap.size,0,au⟩) 1 1) (x.alloc (.cells (qp z).toArray 34)) (dK hl hb.size) ((V _ _).alloc hb.size _) fun j u _ _ _ _ _ h=>jG j u _ _ h ((V _ _).alloc (Nat.le_refl _) _))
  ·cases ho;have o52:nI x W.heap.size (a.eval (ak 52)) (lt):=seen.at_ ⟨5,.data⟩ (by simp) rfl (aP rfl);have o56:nI x W.heap.size (a.eval (ak 56)) ([z]):=seen.at_ ⟨9,.data⟩ (by simp) rfl (aP rfl);have ox:=Row.dG o56;obtain⟨v',x',r,o',gr⟩:=ji okW W.heap.size o52 ox (by have:=LT.out; omega) (by simp) hb.size 26;exact aF rfl rfl (aW a.eval _ (ak 52) (ak 56) 26 rfl rfl rfl r) (hK v' x' o' ((V _ x).grown gr hb.size fun j hj=>(o52.lt j hj).1) fun j u hj dj nl nx ni h=>by
    rcases (by omega:j=0\/j=1\/j=2\/j=3\/j=4\/j=5\/j=6\/j=7\/j=8\/j=9\/j=10\/j=11\/j=12\/j=13\/j=14\/j=15\/j=16) with rfl|rfl|rfl|rfl|rfl|rfl|rfl|rfl|rfl|rfl|rfl|rfl|rfl|rfl|rfl|rfl|rfl
    ·exact absurd rfl (fun _:(0:Nat)=0=>nl (hc 5 _ (hD ⟨5,.data⟩ (by simp) rfl) rfl ⟨0,.data⟩ (by simp) rfl |> fun _=>hD ⟨5,.data⟩ (by simp) rfl))
    ·exact h
    ·exact h
    ·exact h
    ·exact h
    ·exact absurd rfl (fun _:(0:Nat)=0=>nx rfl)
    ·exact h
    ·exact h
    ·exact h
    ·exact absurd rfl (fun _:(0:Nat)=0=>nx rfl)
    ·exact absurd rfl (fun _:(0:Nat)=0=>ni rfl)
    ·exact h
    ·exact h
    ·exact h
    ·exact h
    ·exact absurd rfl (fun _:(0:Nat)=0=>hnd (hc 15 _ dj rfl ⟨10,.data⟩ (by simp) rfl))
    ·exact h)
  ·cases ho;have e3:a.eval (ak 3)=O (U ⟨b2,0,au⟩):=seen.kp 3 _ (nd 3 (by omega)) rfl;exact aF rfl rfl (aU a.eval _ 28 (ak 3) 5 rfl (by rw [e3]; simp [go_sem])) (hK _ _ rfl (V _ _) fun _ _ _ _ _ _ _ h=>h)
  ·cases ho;have e58:a.eval (ak 58)=O (U ⟨b2,5,au⟩):=seen.at_ ⟨11,.data⟩ (by simp) rfl (aD (by decide));have y:=(H2.out.on hb).cell 5;simp only [ay,aB,aC] at y;exact aF rfl rfl (aT a.eval _ 26 (ak 58) rfl (by rw [e58]; simp [go_sem,y])) (hK _ _ rfl (V _ _) fun _ _ _ _ _ _ _ h=>h)
  ·cases ho;have e8:a.eval (ak 8)=Z ah (at_:Int):=seen.kp 8 _ (nd 8 (by omega)) rfl;exact aF rfl rfl (aV a.eval _ (ak 8) rfl x) (hK _ _ e8 (V _ _) fun _ _ _ _ _ _ _ h=>h)
  ·cases ho;have e59:a.eval (ak 59)=J so sn sc:=seen.at_ ⟨12,.data⟩ (by simp) rfl (aD (by decide));have e60:a.eval (ak 60)=Z ah (at_:Int):=seen.at_ ⟨13,.data⟩ (by simp) rfl (aD (by decide));exact aF rfl rfl (Rg.qG a.eval _ 26 (ak 59) (U (ak 60)) au au rfl (by show (Instr.sliceAt 26 (a.eval (ak 59)) (U (a.eval (ak 60))) au au).run aG x=.ok hiv x; rw [e59,e60]; exact SH.out x)) (hK _ _ rfl (V _ _) fun _ _ _ _ _ _ _ h=>h)
  ·cases ho;have o57:nI x W.heap.size (a.eval (ak 57)) ((lt++[z])):=seen.at_ ⟨10,.data⟩ (by simp) rfl (aP rfl);have e61:a.eval (ak 61)=hiv:=seen.at_ ⟨14,.data⟩ (by simp) rfl (aD (by decide));have ox:I9 x (a.eval (ak 61)) ld:=by rw [e61]; exact RH.out.on hb
   obtain⟨v',x',r,o',gr⟩:=ji okW W.heap.size o57 ox (by have:=LTD.out; rw [List.length_append,List.length_singleton]; omega) LD.out hb.size 26;exact aF rfl rfl (aW a.eval _ (ak 57) (ak 61) 26 rfl rfl rfl r) (hK v' x' o' ((V _ x).grown gr hb.size fun j hj=>(o57.lt j hj).1) fun j u hj dj nl nx ni h=>by
    rcases (by omega:j=0\/j=1\/j=2\/j=3\/j=4\/j=5\/j=6\/j=7\/j=8\/j=9\/j=10\/j=11\/j=12\/j=13\/j=14\/j=15\/j=16) with rfl|rfl|rfl|rfl|rfl|rfl|rfl|rfl|rfl|rfl|rfl|rfl|rfl|rfl|rfl|rfl|rfl
    ·exact absurd rfl (fun _:(0:Nat)=0=>nl (hc 10 _ (hD ⟨10,.data⟩ (by simp) rfl) rfl ⟨5,.data⟩ (by simp) rfl))
    ·exact h
    ·exact h
    ·exact h
    ·exact h
    ·exact absurd rfl (fun _:(0:Nat)=0=>nl (hD ⟨10,.data⟩ (by simp) rfl))
    ·exact h
    ·exact h
    ·exact h
    ·exact absurd rfl (fun _:(0:Nat)=0=>nl (hD ⟨10,.data⟩ (by simp) rfl))
    ·exact absurd rfl (fun _:(0:Nat)=0=>nx rfl)
    ·exact h
    ·exact h
    ·exact h
    ·exact h
    ·exact absurd rfl (fun _:(0:Nat)=0=>ni rfl)
    ·exact h)
  ·cases ho;have e3:a.eval (ak 3)=O (U ⟨b2,0,au⟩):=seen.kp 3 _ (nd 3 (by omega)) rfl;exact aF rfl rfl (aU a.eval _ 28 (ak 3) 5 rfl (by rw [e3]; simp [go_sem])) (hK _ _ rfl (V _ _) fun _ _ _ _ _ _ _ h=>h)
 ·intro a w' df sz kp ⟨vs,hv⟩ hb;have gr:a.tmps[62]?=U (vs 15):=(hv 15 (by omega)).1;have gp:a.tmps[63]?=U (O (U ⟨b2,5,au⟩)):=by
   have h:vs 16=O (U ⟨b2,5,au⟩):=(hv 16 (by omega)).2 (by decide);rw [<- h];exact (hv 16 (by omega)).1
  have oR:nI w' W.heap.size (vs 15) (lt++[z]++ld):=(hv 15 (by omega)).2 (by decide);generalize vs 15=xR at *;obtain⟨ca,cp,eR⟩:=(Row.dG oR).len;have hbx:=H2.out.on hb;have hblt:=H2.out.lt;have c5:=hbx.cell 5;have f5:=hbx.fr 5;simp only [ay,aB,aC] at c5;have hb1:=eD (k:=5) hbx xR;show Rg.fP _ _ _ 1 17 a w';simp only [Rg.fP];refine Rg.gB 26 (ak 63) (ak 62) rfl rfl rfl rfl (aO gp) (aO gr) (w':=w'.setCell ⟨b2,5,au⟩ xR) (by rw [eR]; simp [go_sem,c5,f5]) ?_;have pQ:∀ j,(j<47\/64<=j)->a.tmps[j]?=(u0::u1::dO z.2.2::O (U ⟨b2,0,au⟩)::O (U ⟨b3,0,au⟩)::u5::u6::u7::Z ah (at_:Int)::u9::u10::u11::u12::u13::u14::u15::u16::u17::u18::u19::u20::u21::u22::u23::u24::u25::u26::u27::u28::u29::u30::u31::u32::u33::u34::u35::u36::u37::u38::u39::u40::u41::u42::u43::u44::u45::u46::u47::u48::u49::u50::u51::u52::u53::u54::u55::u56::u57::u58::u59::u60::u61::u62::u63::u64::u65::u66::u67::u68::u69::u70::u71::u72::u73::u74::u75::u76::u77::u78::u79::u80::u81::u82::u83::u84::u85::u86::u87::u88::u89::u90::u91::u92::u93::u94::u95::u96::u97::u98::[])[j]?:=fun j hj=>(kp j (nd j hj)).trans ay;obtain⟨mid,hmid,rfl⟩:=Rg.gF 47 17 df sz (by simp) pQ
  match mid,hmid with
  | [v47,v48,v49,v50,v51,v52,v53,v54,v55,v56,v57,v58,v59,v60,v61,v62,v63],_ =>
   have e1:U v62=U xR:=gr;obtain rfl:=Option.some.inj e1;refine HQ.out _ v47 v48 v49 v50 v51 v52 v53 v54 v55 v56 v57 v58 v59 v60 v61 v62 v63 ?_ ?_ ?_ ?_ ?_
   ·simpa using hb1
   ·exact eU oR b2 5 _ hblt
   ·exact fun B hB=>(hb.mono (Nat.le_of_lt (Nat.lt_of_le_of_lt hB hblt))).setCell hB _
   ·intro c cs t hc hbc;exact (aK _ _ _ _ hc).trans (hbc.on hb)
   ·intro k hk hne;exact (aK _ _ _ _ hne).trans (hb.block k hk)
end Bk
end Go.Proofs.YtmklifheakemeaaGreat
