/-
  slices.Delete of one. Conditions as told.
-/
import Derived.Test.YtghlpefopidlaaaGreatBQ028
set_option maxRecDepth 100000
set_option maxHeartbeats 64000000
open _root_.Go renaming cell_regrown->Z,World->aG,redrawn->aK,below_regrown->aM,Calls->aN,Addr->aO,Value->aR
open Go.Ending renaming returned->ah
open Go.IntKind renaming i64->ak
open Go.Lib renaming hid->D
open Go.Obj renaming cells->aC
open Go.Proofs.Tryz renaming prog->O,func111->aP
open Go.Value renaming slice->L,int->aj,pointer->au,bool->aQ
open _root_.List renaming getElem?_eq_getElem->J,length_append->Q,getElem?_eq_some_iff->V,length_drop->ay,length_take->aA,mem_of_getElem?->aB,getElem?_cons_zero->aD,takeWhile_cons->aH,getElem?_map->aI,length_map->aJ
open _root_.Option renaming some->K,none->U
open Option.some renaming inj->aF
namespace Go.Proofs.YtghlpefopidlaaaGreat
namespace Sb
open Go.RowKit Go.Sort Rw YtghlpefopidlaaaGreat.Nm Pr Bk Av
theorem Jz {w:aG} {B g n cap k:Nat} {l:List jl} (ho:jM w B (L (K ⟨g,0,U⟩) n cap) l) (hk:k<n) (ty:TypeId) :
  ∃ w',(Builtin.append_ #[27,27] ty #[L (K ⟨g,0,U⟩) k cap,L (K (if cap=k+1 then ⟨g,0,U⟩ else ⟨g,(k+1) * 7,U⟩)) (n-(k+1)) (cap-(k+1))]).run O w=.ok (L (K ⟨g,0,U⟩) (n-1) cap) w' /\
   jM w' B (L (K ⟨g,0,U⟩) n cap) (cutAt l k++l.drop (n-1))/\But g w w'/\(∀ B' W,B'<=g->Below B' W w->Below B' W w'):=by
 have hl:l.length=n:=fu ho;rcases eZ ho with⟨h1,_⟩|⟨g',cap',cur,h1,h2,h3,h4,h5,h6,h7⟩
 ·cases h1
 ·obtain⟨rfl,_,rfl⟩:g=g'/\n=l.length/\cap=cap':=by simpa using h1
  obtain⟨i,i1,i2,i3,i4⟩:=lY.info;have hE:EN.n=7:=rfl;have Bn:i.size=7:=i3;rw [hl] at h4 h7;rw [hE] at h6 h7;have hd:(l.drop (k+1)).length=n-(k+1):=by rw [ay,hl]
  have JA:(flat EN (l.drop (k+1))).length=(n-(k+1)) * 7:=by rw [dJ lY,hd,hE]
  have hsz:cur.toList.length=cap * 7:=by rw [Array.length_toList]; exact h6
  have hcell:∀ j u,(flat EN (l.drop (k+1)))[j]?=K u->w.cell? ((if cap=k+1 then (⟨g,0,U⟩:aO) else ⟨g,(k+1) * 7,U⟩).add j)=K u:=fun j u hj=>by
   have hlt:=(V.1 hj).1;rw [JA] at hlt;rw [if_neg (by omega)];exact qX lY h3 (by rw [hl,hE]; exact h7) (k+1) j u hj
  have hr:=run_append_room (P:=O) w 27 ty 67 i lY.hu i1 g k cap cur h3 _ (n-(k+1)) (cap-(k+1)) (flat EN (l.drop (k+1))) (by rw [JA,Bn]) hcell (jU lY _) (by omega) (by rw [JA,Bn,h6]; omega);rw [show k+(n-(k+1))=n-1 by omega] at hr;refine⟨_,hr,kD lY ?_ h2 (dG.set h3 _) h4 h5 ?_ ?_,⟨fun j _ hne=>setRow_other w g j _ hne,by simp⟩,fun B' W hB hb=>Rw.below_setRow hb hB _⟩
  ·rw [Q,ay];unfold cutAt;rw [Q,aA,hd,hl];omega
  ·rw [List.size_toArray,Q,Q,aA,ay,JA,hsz,Bn,hE];omega
  ·have t1:cur.toList.take (k * 7)=flat EN (l.take k):=by
    rw [<- kX lY,<- h7,List.take_take,hE,Nat.min_eq_left (by omega)]
   have t2:(cur.toList.drop ((n-1) * 7)).take 7=flat EN (l.drop (n-1)):=by
    rw [<- sD lY,<- h7,hE,List.drop_take,show n * 7-(n-1) * 7=7 by omega]
   rw [Bn,hE,JA,show k * 7+(n-(k+1)) * 7=(n-1) * 7 by omega,t1];have e1:(flat EN (l.take k)++flat EN (l.drop (k+1))).length=(n-1) * 7:=by
    rw [Q,JA,dJ lY,aA,hE,hl];omega
   rw [List.take_append,e1,List.take_of_length_le (by rw [e1]; omega),show n * 7-(n-1) * 7=7 by omega,t2];unfold cutAt;rw [fC,fC]
theorem MX {l:List jl} {n k:Nat} (hl:l.length=n) (hk:k<n):(cutAt l k++l.drop (n-1)).take (n-1)=cutAt l k:=by
 have h:(cutAt l k).length=n-1:=by
  unfold cutAt;rw [Q,aA,ay,hl];omega
 rw [<- h,List.take_left]
theorem slice3 (a:aO) (f e len cap:Nat) (h:f<=e) (h2:e<=len) (h3:len<=cap) (w:aG):(Instr.sliceAt 27 (L (K a) len cap) (K (aj ak f)) (K (aj ak e)) (K (aj ak len))).run O w=.ok (L (K (if len=f then a else a.add (f * 7))) (e-f) (len-f)) w:=by
 obtain⟨i,i1,i2,i3,i4⟩:=lY.info;have Pw:Tryz.prog.info? 67=K i:=i1;have hu':Tryz.prog.underlying 27=K (.slice 67):=lY.hu;have Bn:i.size=7:=i3;by_cases he:len=f
 ·subst he;obtain rfl:e=len:=by omega
  simp [go_sem,hu',sizeOf,typeInfo,Pw,Bn,h3]
 ·simp [go_sem,hu',sizeOf,typeInfo,Pw,Bn,he,h,h2,h3]
theorem Qz (B g n cap k:Nat) (l:List jl) (w:aG) (ho:jM w B (L (K ⟨g,0,U⟩) n cap) l) (hk:k<n) (hn:n<=1000) :
  aN O 158 #[L (K ⟨g,0,U⟩) n cap,aj ak k,aj ak ((k:Int)+1)] w fun e w'=>e=ah (L (K ⟨g,0,U⟩) (n-1) cap) /\
   jM w' B (L (K ⟨g,0,U⟩) (n-1) cap) (cutAt l k)/\But g w w'/\(∀ B' W,B'<=g->Below B' W w->Below B' W w'):=by
 have hl:l.length=n:=fu ho;have hnc:n<=cap:=by
  rcases eZ ho with⟨h1,_⟩|⟨g',cap',cur,h1,_,_,h4,_⟩
  ·cases h1
  ·obtain⟨_,_,rfl⟩:g=g'/\n=l.length/\cap=cap':=by simpa using h1
   rw [hl] at h4;exact h4
 have s3:=fun w=>slice3 ⟨g,0,U⟩ k (k+1) n cap (by omega) (by omega) hnc w;rw [show (((k+1:Nat):Int))=(k:Int)+1 by omega] at s3;have s1:∀ w,(Instr.sliceAt 27 (L (K ⟨g,0,U⟩) n cap) U (K (aj ak k)) U).run O w=.ok (L (K ⟨g,0,U⟩) k cap) w:=fun w=>iQ lY ⟨g,0,U⟩ k n cap (by omega) w;have s2:∀ w,(Instr.sliceAt 27 (L (K ⟨g,0,U⟩) n cap) (K (aj ak ((k:Int)+1))) U U).run O w=.ok (L (K (if cap=k+1 then ⟨g,0,U⟩ else ⟨g,(k+1) * 7,U⟩)) (n-(k+1)) (cap-(k+1))) w:=fun w=>by
  have h:=qU lY ⟨g,0,U⟩ (k+1) n cap (by omega) w;rw [show (((k+1:Nat):Int))=(k:Int)+1 by omega,mD] at h;exact h
 have hne:((k:Int) == (k:Int)+1)=false:=by simp; omega
 obtain⟨w1,r1,o1,b1,l1⟩:=Jz (Bk.dL ho (Below.refl _ _).drew) hk 27;obtain⟨p,hp⟩:∃ p:aO,(if cap=k+1 then (⟨g,0,U⟩:aO) else ⟨g,(k+1) * 7,U⟩)=p:=⟨_,rfl⟩;obtain⟨q,hq⟩:∃ p:aO,(if n=k then (⟨g,0,U⟩:aO) else (⟨g,0,U⟩:aO).add (k * 7))=p:=⟨_,rfl⟩;rw [hp] at s2 r1;rw [hq] at s3;obtain⟨m,hm⟩:∃ m,n=m+1:=⟨n-1,by omega⟩;obtain⟨w2,r2_,o2,b2,l2⟩:=yS lY (by decide) o1 (show n-1<n by omega) 0;rw [MX hl hk] at o2;have O2:=D o2;have B2:=D (show But g w w2 from ((But.of_below (Below.refl w.heap.size w).drew).trans b1).trans b2);have L2:=D (show ∀ B' W,B'<=g->Below B' W w->Below B' W w2 from fun B' W hB hb=>l2 B' W hB (l1 B' W hB hb.drew));have r2:(Builtin.clear_ #[27] 0 #[L (K ⟨g,(n-1) * 7,U⟩) (n-(n-1)) (cap-(n-1))]).run O w1=.ok (.tuple #[]) w2:=r2_;clear hp hq o1 b1 l1 o2 b2 l2 ho hl;generalize n-(k+1)=x1 at s2 r1;generalize cap-(k+1)=x2 at s2 r1;generalize k+1-k=x3 at s3;generalize n-k=x4 at s3;rw [show n-(n-1)=1 by omega] at r2;clear r2_;subst hm;rw [Nat.add_sub_cancel] at *;go_enter Tryz.func158,Tryz.ntmps158;go_wp2
 go_region_law (refine oG rfl (.tmp 22) (.tmp 25) 27 rfl (v:=L (K ⟨g,0,U⟩) k cap) (xv:=L (K p) x1 x2) rfl rfl r1 ?_)
 all_goals simp only [Exit.then]
 all_goals apply_assumption
 all_goals
  go_wp2_with (first | (at_builtin; refine tC rfl _ _ rfl rfl r2 ?_) | fail);go_ret;exact⟨rfl,O2.out,B2.out,L2.out⟩
end Sb
namespace Rt
open Go.RowKit Go.Sort Rw YtghlpefopidlaaaGreat.Nm Pr Bk Av Sb
theorem JB {α:Type} (key:α->dV) (l:List α) (x:dV) (j:Nat) (y:α) (hj:j<eG key l x) (hy:l[j]?=K y):dP (key y) x=true:=by
 have ht:(l.takeWhile fun a=>dP (key a) x)[j]?=K y:=by
  obtain⟨t,ht⟩:=List.takeWhile_prefix (fun a=>dP (key a) x) (l:=l);rw [<- ht,List.getElem?_append_left hj] at hy;exact hy
 exact List.all_eq_true.1 List.all_takeWhile y (aB ht)
theorem zn {α:Type} (key:α->dV) (x:dV):∀ (m:List α) (y:α),m[eG key m x]?=K y->dP (key y) x=false
 | [],_,h=>by simp [eG] at h
 | a::m,y,h=>by
  unfold eG at h;cases ha:dP (key a) x with
  | true =>
   simp only [aH,ha,if_true,List.length_cons,List.getElem?_cons_succ] at h;exact zn key x m y h
  | false =>
   simp only [aH,ha,Bool.false_eq_true,if_false,List.length_nil,aD] at h;rw [<- aF h];exact ha
theorem tF {α:Type} (key:α->dV) (l:List α) (x:dV):eG key l x<=l.length:=(List.takeWhile_sublist _).length_le
theorem JC {α:Type} {key:α->dV} {l:List α} (hr:iN key l) (x:dV) {i:Nat} {e:α} (hi:eG key l x<=i) (he:l[i]?=K e):dP (key e) x=false:=by
 have hlt:=(V.1 he).1;obtain⟨z,hz⟩:∃ z,l[eG key l x]?=K z:=⟨_,J (by omega)⟩;have h0:=zn key x l z hz;rcases Nat.lt_or_ge (eG key l x) i with h|h
 ·have h1:=jy hr h hz he;cases hq:dP (key e) x with
  | false=>rfl
  | true=>rw [gF h1 hq] at h0; cases h0
 ·have e1:i=eG key l x:=by omega
  rw [e1,hz] at he;rw [<- aF he];exact h0
theorem MZ {W W1:aG} {v:aR} {l:List lZ} {ao:Option aO} {n c k:Nat} {x:lZ} (h:Es W v l) (hv:v=L ao n c) (hn:l.length=n) (hk:l[k]?=K x) (hb:Below W.heap.size W W1) :
  ∃ p:aO,(∀ w,(Instr.indexAt 28 (L ao n c) (aj ak k)).run O w=.ok (au (K p)) w) /\
   (∀ d os,(grow (aK W1 d) os).cell? p=K (aj ak x.1))/\(∀ d os,(grow (aK W1 d) os).cell? ⟨p.block,p.off+1,U⟩=K (aj ak x.2.1)) /\
   (∀ d os,(grow (aK W1 d) os).cell? ⟨p.block,p.off+2,U⟩=K (dQ x.2.2)):=by
 obtain⟨p,h1,h2⟩:=elW h hv hn hk;obtain⟨c0,c1,c2⟩:=h2 _ hb;exact⟨p,h1,Z c0,Z c1,Z c2⟩
theorem M0 (args:Array aR) (w:aG):(callFunc 111 args).run O w=.ok (.enter 111 args) w:=fD aP rfl rfl args w
theorem M4 (i:Nat) (b1 b2:Nat) (ao:Option aO) (n ac:Nat) (l:List lZ) (t:dV) (y:lZ) (r:Bool) (w:aG) (hv:Es w (L ao n ac) l) (hn:l.length=n) (hy:l[i]?=K y) (hr:(!dP (y.1,y.2.1) t)=r)
  (h1:dG w b1 #[L ao n ac] 28) (h2:dG w b2 #[aj ak t.1,aj ak t.2] 23) :
  aN O 111 #[aj ak i,au (K ⟨b1,0,U⟩),au (K ⟨b2,0,U⟩)] w fun e w'=>e=ah (aQ r)/\Below w.heap.size w w':=by
 obtain⟨p,ix,p0,p1,p2⟩:=MZ hv rfl hn hy (Below.refl _ _);have a0:=Z (h1.cell 0);have b0:=Z (h2.cell 0);have b1':=Z (h2.cell 1);have C:∀ k os,aN O 31 #[oK (y.1,y.2.1),oK t] (grow (aK w k) os) fun e w''=>e=ah (aQ (dP (y.1,y.2.1) t))/\∃ p:Regrown,w''=grow (aK w p.d) p.os:=fun k os=>Calls.regrown_of (pY (y.1,y.2.1) t _);generalize dP (y.1,y.2.1) t=q at *;have R:=D hr;have BN:=D (fun dq osq=>aM w dq osq);obtain⟨y1,y2,⟨yo,yn,yc⟩⟩:=y;obtain⟨c,d⟩:=t;simp only at p0 p1 p2 b0 b1' C;clear hv hn hy hr h1 h2 p2;go_enter aP,Tryz.ntmps111;go_wp2;refine wp_region_quiet_below (by kernel_rfl) (by kernel_rfl) ?_
 repeat (go_big_quiet_step (first | (with_reducible exact C _ _) | exact Js _ _))
 refine wpQuiet_nil ?_;intro _ hw';obtain⟨⟨dq,osq⟩,hw''⟩:=hw';subst hw'';go_wp2;go_ret;exact⟨congrArg (fun b=>ah (aQ b)) R.out,BN.out _ _⟩
theorem tH {W:aG} {l:List lZ} {m:List Ow} (h:eT (II W) l m) {i:Nat} {y:lZ} (hy:l[i]?=K y):∃ e,m[i]?=K e/\(y.1,y.2.1)=e.id:=by
 have hlt:=(V.1 hy).1;obtain⟨e,he⟩:∃ e,m[i]?=K e:=⟨_,J (by rw [<- h.len]; exact hlt)⟩;obtain⟨y',hy',hx⟩:=h.at i e he;rw [hy] at hy';obtain rfl:=aF hy';exact⟨e,he,hx.1⟩
theorem wD (v:Sl) (l:List lZ) (m:List Ow) (t:dV) (w:aG) (hv:Es w (dQ v) l) (hA:eT (II w) l m) (hr:iN Ow.id m) (hl:l.length<=1000) :
  aN O 42 #[dQ v,oK t] w fun e w'=>e=ah (.tuple #[aj ak (eG Ow.id m t),aQ (fO Ow.id m t)])/\Below w.heap.size w w':=by
 obtain⟨so,n,sc⟩:=v;have hn:l.length=n:=gZ hv;obtain⟨c,d⟩:=t;obtain⟨k,hk⟩:∃ k,eG Ow.id m (c,d)=k:=⟨_,rfl⟩;obtain⟨th,hth⟩:∃ k,fO Ow.id m (c,d)=k:=⟨_,rfl⟩;have hkn:k<=n:=by rw [<- hk,<- hn,hA.len]; exact tF _ _ _
 rw [hk,hth];obtain⟨h0,X,Y⟩:=jd w #[L so n sc] #[aj ak c,aj ak d] 28 23;have BB:=D h0;have HV:=D (hv.on h0);have HA:=D (hA.mono fun _ _ q=>q.on h0);have X1:=D X;have Y1:=D Y;have x0:=X.cell 0;simp only [List.getElem?_toArray,aD] at x0;have HF:=D (show ∀ i,i<n->∀ W,Below ((w.alloc (aC #[L so n sc] 28)).alloc (aC #[aj ak c,aj ak d] 23)).heap.size ((w.alloc (aC #[L so n sc] 28)).alloc (aC #[aj ak c,aj ak d] 23)) W ->
   aN O 111 (#[aj ak i]++#[au (K ⟨w.heap.size,0,U⟩),au (K ⟨w.heap.size+1,0,U⟩)]) W fun e w'=>e=ah (aQ ((fun i=>match l[i]? with | some y=>!dP (y.1,y.2.1) (c,d) | none=>true) i))/\Below W.heap.size W w' from fun i hi W hb=>by
  obtain⟨y,hy⟩:∃ y,l[i]?=K y:=⟨_,J (by omega)⟩;refine M4 i _ _ so n sc l (c,d) y _ W (HV.out.on hb) hn hy ?_ (X1.out.on hb) (Y1.out.on hb);simp only [hy])
 have RF:=D (show ∀ i,i<k->(fun i=>match l[i]? with | some y=>!dP (y.1,y.2.1) (c,d) | none=>true) i=false from fun i hi=>by
  obtain⟨y,hy⟩:∃ y,l[i]?=K y:=⟨_,J (by omega)⟩;obtain⟨e,he,hke⟩:=tH HA.out hy;have h1:=JB Ow.id m (c,d) i e (by rw [hk]; exact hi) he;simp only [hy,hke,h1]
  rfl)
 have RH:=D (show ∀ i,k<=i->i<n->(fun i=>match l[i]? with | some y=>!dP (y.1,y.2.1) (c,d) | none=>true) i=true from fun i hi hi2=>by
  obtain⟨y,hy⟩:∃ y,l[i]?=K y:=⟨_,J (by omega)⟩;obtain⟨e,he,hke⟩:=tH HA.out hy;have h1:=JC hr (c,d) (by rw [hk]; exact hi) he;simp only [hy,hke,h1]
  rfl)
 have HK:=D hk;have HT:=D hth;have HN:=D hn;have ln:n<=1000:=by omega
 clear hv hA h0 X Y hk hth hl hn hr;go_enter Tryz.func42,Tryz.ntmps42;go_wp2_with fail;generalize (w.alloc (aC #[L so n sc] 28)).alloc (aC #[aj ak c,aj ak d] 23)=W at *;refine (qP 111 #[au (K ⟨w.heap.size,0,U⟩),au (K ⟨w.heap.size+1,0,U⟩)] M0 n k _ W (by omega) HF.out hkn RF.out RH.out).mono ?_;rintro e1 w1 ⟨rfl,hb⟩;have BN:=D (fun dq osq=>(BB.out.trans (hb.mono BB.out.size)).trans ((aM w1 dq osq).mono (BB.out.trans (hb.mono BB.out.size)).size));have a0:=Z (show w1.cell? ⟨w.heap.size,0,U⟩=K (L so n sc) from (X1.out.on hb).cell 0);have b0:=Z (show w1.cell? ⟨w.heap.size+1,0,U⟩=K (aj ak c) from (Y1.out.on hb).cell 0);have b1:=Z (show w1.cell? ⟨w.heap.size+1,1,U⟩=K (aj ak d) from (Y1.out.on hb).cell 1);clear x0 HF RF RH;by_cases hkl:k<n
 ·obtain⟨y,hy⟩:∃ y,l[k]?=K y:=⟨_,J (by rw [HN.out]; exact hkl)⟩;obtain⟨p,ix,p0,p1,p2⟩:=MZ HV.out rfl HN.out hy hb;have TH:=D (show th=decide ((y.1,y.2.1)=(c,d)) from by
   obtain⟨e,he,hke⟩:=tH HA.out hy;rw [<- HT.out,fO,HK.out,he,hke])
  have g4:decide ((k:Int)<(n:Int))=true:=by simp; omega
  obtain⟨y1,y2,⟨yo,yn,yc⟩⟩:=y;simp only at p0 p1 p2;clear p2 hb hy;obtain⟨r1,hr1⟩:∃ r,(y1 == c && y2 == d)=r:=⟨_,rfl⟩;have e1:=Ae y1 y2 c d r1 hr1;have R:=D (show th=r1 from by
   rw [TH.out,<- hr1,Bool.eq_iff_iff];simp only [decide_eq_true_eq,Bool.and_eq_true,beq_iff_eq,Prod.mk.injEq])
  clear hr1 TH HT;cases r1
  all_goals
   go_wp2;refine wp_region_quiet_below (by kernel_rfl) (by kernel_rfl) ?_
   repeat (go_big_quiet_step (fail))
   refine wpQuiet_nil ?_;intro _ hw';obtain⟨⟨dq,osq⟩,hw''⟩:=hw';subst hw'';go_wp2
   go_ret2
   exact⟨by rw [R.out]; rfl,BN.out _ _⟩
 ·have TH:=D (show th=false from by
   rw [<- HT.out,fO,HK.out,List.getElem?_eq_none (by rw [<- HA.out.len,HN.out]; omega)])
  have g4:decide ((k:Int)<(n:Int))=false:=by simp; omega
  clear hb HT;go_wp2;refine wp_region_quiet_below (by kernel_rfl) (by kernel_rfl) ?_
  repeat (go_big_quiet_step (fail))
  refine wpQuiet_nil ?_;intro _ hw';obtain⟨⟨dq,osq⟩,hw''⟩:=hw';subst hw'';go_wp2
  go_ret2
  exact⟨by rw [TH.out]; rfl,BN.out _ _⟩
end Rt
namespace Pr
open Go.RowKit Go.Sort Pu Rw Va
def QA:ByteArray:=⟨#[112,114,101,100]⟩
def Hr (w:aG) (l:List Cn) (e:Ending) (w':aG):Prop:=Below w.heap.size w w'/\(match uY l with
 | .ok m=>∃ pv,e=ah (.tuple #[pv,.nilIface])/\fF w' pv (m.map r5)
 | .error _=>∃ b,e=ah (.tuple #[L U 0 0,.iface 226 (au (K ⟨b,0,U⟩))]))
theorem QB (op:ByteArray) (at_:Int) (tx:Nat) (x:aR) (w:aG) :
  aN O 169 #[.string op,aj ak at_,.iface tx x] w fun e w'=>e=ah (.iface 226 (au (K ⟨w.heap.size,0,U⟩)))/\w'=w.alloc (aC #[.string op,aj ak at_,.iface tx x] 228):=by
 go_enter Tryz.func169,Tryz.ntmps169;go_wp2;go_ret;exact⟨rfl,rfl⟩
theorem Fu (at_:Nat) (m r:List Cn) (c:Cn):jg at_ m (c::r)=match kG m c with
  | .ok m'=>jg (at_+1) m' r
  | .error k=>.error (k,at_):=by
 simp only [jg,kG];cases kL m c with
 | none=>rfl
 | some m'=>simp only; split <;> rfl
theorem JD {m:List Cn} {c:Cn} {m':List Cn} (h:iB m) (hs:kG m c=.ok m'):iB m'/\m'.length<=5:=by
 unfold kG at hs;cases hi:kL m c with
 | none=>rw [hi] at hs; cases hs
 | some n =>
  rw [hi] at hs;simp only at hs
  split at hs
  ·cases hs
  ·rename_i h5
   injection hs with hs
   subst hs;exact⟨(kC m c n h hi).1,by omega⟩
theorem M5 (lv:aR) (l:List Cn) (w:aG) (hl:fF w lv (l.map r5)) (hs:K9 l) (hgd:∀ c∈l,qz c=true):aN O 134 #[lv] w (Hr w l):=by
 have HL:=D hl;have LN:=D (show (l.map r5).length=l.length from aJ ..);have h100:=hs.1;have SM:=D hs.2;have GD:=D hgd;obtain⟨ao,ac,rfl⟩:=hl.len;rw [aJ] at HL ⊢;obtain⟨n,hn⟩:∃ n,n=l.length:=⟨_,rfl⟩;rw [<- hn] at HL h100 ⊢;have HN:=D hn;obtain⟨res,hres⟩:∃ r,r=uY l:=⟨_,rfl⟩;have MQ:=D (show ∀ e w',(Below w.heap.size w w'/\(match res with
 | .ok m=>∃ pv,e=ah (.tuple #[pv,.nilIface])/\fF w' pv (m.map r5)
 | .error _=>∃ b,e=ah (.tuple #[L U 0 0,.iface 226 (au (K ⟨b,0,U⟩))])))->Hr w l e w' from fun e w' h=>by unfold Hr; rw [<- hres]; exact h)
 have HR:=D hres;clear hl hs hgd hn hres;generalize hq:Hr w l=q at *;clear hq;go_enter Tryz.func134,Tryz.ntmps134;go_wp2
 go_loopw [13] (fun i wr=>∃ k:Nat,k<=n/\i=aj ak k/\Below w.heap.size w wr) (fun i _=>n-(intOf i).toNat)
 case atStart=>exact⟨0,Nat.zero_le _,rfl,Below.refl _ _⟩
 case round =>
  obtain⟨k,hk,rfl,hb⟩:=hrel;have HB:=D hb;clear hb;by_cases hlt:k<n
  ·obtain⟨⟨xn,xk⟩,hx⟩:∃ x,l[k]?=K x:=⟨_,J (by have:=HN.out; omega)⟩;obtain⟨p,ix,px⟩:=VW (x:=r5 (xn,xk)) HL.out rfl (LN.out.trans HN.out.symm) (by rw [aI,hx]; rfl);obtain⟨p0,p1,p2,p3,p4⟩:=px _ HB.out;have C:=D (PY (xn,xk) (wr.alloc (aC (cells5 (r5 (xn,xk))).toArray 91)) (by have:=(SM.out _ (aB hx)).1; unfold maxLen; omega));rw [GD.out _ (aB hx)] at C;have B4:=D (HB.out.alloc HB.out.size (aC (cells5 (r5 (xn,xk))).toArray 91));simp only [r5] at p0 p1 p2 p3 p4 C;clear hx px;go_wp2_with fail;refine C.out.mono ?_;rintro e5 w5 ⟨rfl,hb5⟩;have B5:=D (B4.out.trans (hb5.mono B4.out.size));clear hb5 C B4 ix p0 p1 p2 p3 p4;go_wp2
   go_roundw
   case rel=>exact⟨k+1,by omega,by go_num,B5.out⟩
   case measure=>simp [intOf]; omega
  ·obtain rfl:k=n:=by omega
   go_wp2
   go_loopw [6,27] (fun mv i wr=>∃ (j:Nat) (m:List Cn),j<=k/\i=aj ak j/\iE wr w.heap.size mv (m.map r5)/\iB m/\m.length<=5/\res=jg j m (l.drop j)/\Below w.heap.size w wr) (fun _ i _=>k-(intOf i).toNat)
   case atStart=>exact⟨0,[],Nat.zero_le _,rfl,iP _ _,List.Pairwise.nil,by simp,by rw [HR.out]; rfl,HB.out⟩
   case round =>
    obtain⟨j,m,hj,rfl,hown,hrise,hm5,RJ,hb⟩:=hrel;have BW:=D hb;have OW:=D hown;have RM:=D hrise;have FO:=D RJ;clear hb hown hrise RJ;by_cases hjl:j<k
    ·obtain⟨⟨xn,xk⟩,hx⟩:∃ x,l[j]?=K x:=⟨_,J (by have:=HN.out; omega)⟩;obtain⟨p,ix,px⟩:=VW (x:=r5 (xn,xk)) HL.out rfl (LN.out.trans HN.out.symm) (by rw [aI,hx]; rfl);obtain⟨p0,p1,p2,p3,p4⟩:=px _ BW.out;have B4:=D (BW.out.alloc BW.out.size (aC (cells5 (r5 (xn,xk))).toArray 91));have C:=D (LK w.heap.size _ m (xn,xk) (wr.alloc (aC (cells5 (r5 (xn,xk))).toArray 91)) (dL OW.out ((Below.refl _ _).alloc (Nat.le_refl _) _)) RM.out hm5 B4.out.size);have DR:l.drop j=(xn,xk)::l.drop (j+1):=by
      have h:=List.drop_eq_getElem_cons (l:=l) (i:=j) (by have:=HN.out; omega);rw [h]
      congr 1
      exact (V.1 hx).2
     have F2:=FO.out;rw [DR,Fu] at F2;have F3:=D F2;simp only [r5] at p0 p1 p2 p3 p4 C;clear hx px F2 DR FO;cases hst:kG m (xn,xk) with
     | ok m' =>
      have RR:=D (JD RM.out hst);have F4:=D (show res=jg (j+1) m' (l.drop (j+1)) by rw [F3.out,hst]);rw [hst] at C;clear hst F3;go_wp2_with fail;refine C.out.mono ?_;rintro e5 w5 ⟨hb5,v',rfl,Wv⟩;have B5:=D (B4.out.trans hb5);have O5:=D Wv;clear hb5 Wv C B4 ix p0 p1 p2 p3 p4 OW BW RM;go_wp2
      go_roundw
      case rel=>exact⟨j+1,m',by omega,by go_num,O5.out,RR.out.1,RR.out.2,F4.out,B5.out⟩
      case measure=>simp [intOf]; omega
     | error er =>
      have F4:=D (show res=.error (er,j) by rw [F3.out,hst]);rw [hst] at C;clear hst F3;go_wp2_with fail;refine C.out.mono ?_;rintro e5 w5 ⟨hb5,rfl⟩;have B5:=D (B4.out.trans hb5);clear hb5 C B4 ix p0 p1 p2 p3 p4 OW BW RM;go_wp2_with fail;refine (QB QA j 211 (aj ak er) w5).mono ?_;rintro e6 w6 ⟨rfl,rfl⟩;go_wp2;refine MQ.out _ _ ⟨B5.out.alloc B5.out.size _,?_⟩;rw [F4.out];exact⟨w5.heap.size,rfl⟩
    ·obtain rfl:j=k:=by omega
     have F2:=D (show res=.ok m by rw [FO.out,List.drop_of_length_le (by have:=HN.out; omega)]; rfl);go_wp2;refine MQ.out _ _ ⟨BW.out,?_⟩;rw [F2.out];exact⟨_,rfl,Row.dH OW.out⟩
end Pr
end Go.Proofs.YtghlpefopidlaaaGreat
