/-
  slices.Delete of one. Conditions as told.
-/
import Derived.Test.YtghlpefopidlaaaGreatLQ032
import Derived.Test.YtghlpefopidlaaaGreatLQ031
set_option maxRecDepth 100000
set_option maxHeartbeats 64000000
open Go.Proofs.Tryz renaming prog->U
open Go.Value renaming slice->J,int->V
open _root_.List renaming length_append->D,length_drop->L,length_take->O
open _root_.Option renaming none->K,some->Q
namespace Go.Proofs.YtghlpefopidlaaaGreat.Rt
open Go.RowKit Go.Sort Rw YtghlpefopidlaaaGreat.Nm Pr Bk Av Sb
theorem PS {w:World} {B g n cap k:Nat} {l:List ny} (ho:nM w B (J (Q ⟨g,0,K⟩) n cap) l) (hk:k<n) (ty:TypeId) :
  ∃ w',(Builtin.append_ #[28,28] ty #[J (Q ⟨g,0,K⟩) k cap,J (Q (if cap=k+1 then ⟨g,0,K⟩ else ⟨g,(k+1) * 3,K⟩)) (n-(k+1)) (cap-(k+1))]).run U w=.ok (J (Q ⟨g,0,K⟩) (n-1) cap) w' /\
   nM w' B (J (Q ⟨g,0,K⟩) n cap) (cutAt l k++l.drop (n-1))/\But g w w'/\(∀ B' W,B'<=g->Below B' W w->Below B' W w'):=by
 have hl:l.length=n:=gL ho;rcases gB ho with⟨h1,_⟩|⟨g',cap',cur,h1,h2,h3,h4,h5,h6,h7⟩
 ·cases h1
 ·obtain⟨rfl,_,rfl⟩:g=g'/\n=l.length/\cap=cap':=by simpa using h1
  obtain⟨i,i1,i2,i3,i4⟩:=okW.info;have hE:EW.n=3:=rfl;have JM:i.size=3:=i3;rw [hl] at h4 h7;rw [hE] at h6 h7;have hd:(l.drop (k+1)).length=n-(k+1):=by rw [L,hl]
  have U0:(flat EW (l.drop (k+1))).length=(n-(k+1)) * 3:=by rw [eD okW,hd,hE]
  have hsz:cur.toList.length=cap * 3:=by rw [Array.length_toList]; exact h6
  have hcell:∀ j u,(flat EW (l.drop (k+1)))[j]?=Q u->w.cell? ((if cap=k+1 then (⟨g,0,K⟩:Addr) else ⟨g,(k+1) * 3,K⟩).add j)=Q u:=fun j u hj=>by
   have hlt:=(List.getElem?_eq_some_iff.1 hj).1;rw [U0] at hlt;rw [if_neg (by omega)];exact xL okW h3 (by rw [hl,hE]; exact h7) (k+1) j u hj
  have hr:=run_append_room (P:=U) w 28 ty 88 i okW.hu i1 g k cap cur h3 _ (n-(k+1)) (cap-(k+1)) (flat EW (l.drop (k+1))) (by rw [U0,JM]) hcell (nR okW _) (by omega) (by rw [U0,JM,h6]; omega);rw [show k+(n-(k+1))=n-1 by omega] at hr;refine⟨_,hr,oI okW ?_ h2 (dK.set h3 _) h4 h5 ?_ ?_,⟨fun j _ hne=>setRow_other w g j _ hne,by simp⟩,fun B' W hB hb=>Rw.below_setRow hb hB _⟩
  ·rw [D,L];unfold cutAt;rw [D,O,hd,hl];omega
  ·rw [List.size_toArray,D,D,O,L,U0,hsz,JM,hE];omega
  ·have t1:cur.toList.take (k * 3)=flat EW (l.take k):=by
    rw [<- qb okW,<- h7,List.take_take,hE,Nat.min_eq_left (by omega)]
   have t2:(cur.toList.drop ((n-1) * 3)).take 3=flat EW (l.drop (n-1)):=by
    rw [<- yX okW,<- h7,hE,List.drop_take,show n * 3-(n-1) * 3=3 by omega]
   rw [JM,hE,U0,show k * 3+(n-(k+1)) * 3=(n-1) * 3 by omega,t1];have e1:(flat EW (l.take k)++flat EW (l.drop (k+1))).length=(n-1) * 3:=by
    rw [D,U0,eD okW,O,hE,hl];omega
   rw [List.take_append,e1,List.take_of_length_le (by rw [e1]; omega),show n * 3-(n-1) * 3=3 by omega,t2];unfold cutAt;rw [gK,gK]
theorem Vw {l:List ny} {n k:Nat} (hl:l.length=n) (hk:k<n):(cutAt l k++l.drop (n-1)).take (n-1)=cutAt l k:=by
 have h:(cutAt l k).length=n-1:=by
  unfold cutAt;rw [D,O,L,hl];omega
 rw [<- h,List.take_left]
theorem adb (a:Addr) (f e len cap:Nat) (h:f<=e) (h2:e<=len) (h3:len<=cap) (w:World):(Instr.sliceAt 28 (J (Q a) len cap) (Q (V .i64 f)) (Q (V .i64 e)) (Q (V .i64 len))).run U w=.ok (J (Q (if len=f then a else a.add (f * 3))) (e-f) (len-f)) w:=by
 obtain⟨i,i1,i2,i3,i4⟩:=okW.info;have i1':Tryz.prog.info? 88=Q i:=i1;have hu':Tryz.prog.underlying 28=Q (.slice 88):=okW.hu;have JM:i.size=3:=i3;by_cases he:len=f
 ·subst he;obtain rfl:e=len:=by omega
  simp [go_sem,hu',sizeOf,typeInfo,i1',JM,h3]
 ·simp [go_sem,hu',sizeOf,typeInfo,i1',JM,he,h,h2,h3]
theorem aaE (B g n cap k:Nat) (l:List ny) (w:World) (ho:nM w B (J (Q ⟨g,0,K⟩) n cap) l) (hk:k<n) (hn:n<=1000) :
  Calls U 47 #[J (Q ⟨g,0,K⟩) n cap,V .i64 k,V .i64 ((k:Int)+1)] w fun e w'=>e=.returned (J (Q ⟨g,0,K⟩) (n-1) cap) /\
   nM w' B (J (Q ⟨g,0,K⟩) (n-1) cap) (cutAt l k)/\But g w w'/\(∀ B' W,B'<=g->Below B' W w->Below B' W w'):=by
 have hl:l.length=n:=gL ho;have hnc:n<=cap:=by
  rcases gB ho with⟨h1,_⟩|⟨g',cap',cur,h1,_,_,h4,_⟩
  ·cases h1
  ·obtain⟨_,_,rfl⟩:g=g'/\n=l.length/\cap=cap':=by simpa using h1
   rw [hl] at h4;exact h4
 have s3:=fun w=>adb ⟨g,0,K⟩ k (k+1) n cap (by omega) (by omega) hnc w;rw [show (((k+1:Nat):Int))=(k:Int)+1 by omega] at s3;have s1:∀ w,(Instr.sliceAt 28 (J (Q ⟨g,0,K⟩) n cap) K (Q (V .i64 k)) K).run U w=.ok (J (Q ⟨g,0,K⟩) k cap) w:=fun w=>jZ okW ⟨g,0,K⟩ k n cap (by omega) w;have s2:∀ w,(Instr.sliceAt 28 (J (Q ⟨g,0,K⟩) n cap) (Q (V .i64 ((k:Int)+1))) K K).run U w=.ok (J (Q (if cap=k+1 then ⟨g,0,K⟩ else ⟨g,(k+1) * 3,K⟩)) (n-(k+1)) (cap-(k+1))) w:=fun w=>by
  have h:=xK okW ⟨g,0,K⟩ (k+1) n cap (by omega) w;rw [show (((k+1:Nat):Int))=(k:Int)+1 by omega,lY] at h;exact h
 have hne:((k:Int) == (k:Int)+1)=false:=by simp; omega
 obtain⟨w1,r1,o1,b1,l1⟩:=PS (Bk.dI ho (Below.refl _ _).drew) hk 28;obtain⟨p,hp⟩:∃ p:Addr,(if cap=k+1 then (⟨g,0,K⟩:Addr) else ⟨g,(k+1) * 3,K⟩)=p:=⟨_,rfl⟩;obtain⟨q,hq⟩:∃ p:Addr,(if n=k then (⟨g,0,K⟩:Addr) else (⟨g,0,K⟩:Addr).add (k * 3))=p:=⟨_,rfl⟩;rw [hp] at s2 r1;rw [hq] at s3;obtain⟨m,hm⟩:∃ m,n=m+1:=⟨n-1,by omega⟩;obtain⟨w2,r2_,o2,b2,l2⟩:=GJ okW (by decide) o1 (show n-1<n by omega) 0;rw [Vw hl hk] at o2;have O2:=Lib.hid o2;have B2:=Lib.hid (show But g w w2 from ((But.of_below (Below.refl w.heap.size w).drew).trans b1).trans b2);have L2:=Lib.hid (show ∀ B' W,B'<=g->Below B' W w->Below B' W w2 from fun B' W hB hb=>l2 B' W hB (l1 B' W hB hb.drew));have r2:(Builtin.clear_ #[28] 0 #[J (Q ⟨g,(n-1) * 3,K⟩) (n-(n-1)) (cap-(n-1))]).run U w1=.ok (.tuple #[]) w2:=r2_;clear hp hq o1 b1 l1 o2 b2 l2 ho hl;generalize n-(k+1)=x1 at s2 r1;generalize cap-(k+1)=x2 at s2 r1;generalize k+1-k=x3 at s3;generalize n-k=x4 at s3;rw [show n-(n-1)=1 by omega] at r2;clear r2_;subst hm;rw [Nat.add_sub_cancel] at *;go_enter Tryz.func47,Tryz.ntmps47;go_wp2
 go_region_law (refine fB rfl (.tmp 22) (.tmp 25) 28 rfl (v:=J (Q ⟨g,0,K⟩) k cap) (xv:=J (Q p) x1 x2) rfl rfl r1 ?_)
 all_goals simp only [Exit.then]
 all_goals apply_assumption
 all_goals
  go_wp2_with (first | (at_builtin; refine zN rfl _ _ rfl rfl r2 ?_) | fail);go_ret;exact⟨rfl,O2.out,B2.out,L2.out⟩
end Go.Proofs.YtghlpefopidlaaaGreat.Rt
