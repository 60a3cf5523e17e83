/-
  Small things for Adv. Conditions as told.
-/
import Derived.Test.YtghlpefopidlaaaGreatCQ036
set_option maxRecDepth 100000
set_option maxHeartbeats 64000000
open _root_.Go renaming World->aC,Value->aO,Calls->aS
open Go.Builtin renaming copy_->au,append_->aN
open Go.Ending renaming returned->Z
open Go.Instr renaming sliceAt->U
open Go.IntKind renaming i64->aj,wrap_i64->aK
open Go.Lib renaming hid->L
open Go.Obj renaming cells->Y
open Go.Proofs.Tryz renaming prog->J,ntmps43->aI,func43->aL
open Go.Value renaming slice->D,int->ah,pointer->aR
open _root_.List renaming getElem?_map->V,mem_of_getElem?->X,getElem?_eq_getElem->ak,drop_of_length_le->ay,singleton_append->aA,mem_cons_of_mem->aB,takeWhile_cons->aF,mem_cons->aG,pairwise_cons->aH,length_cons->aJ,length_map->aM,map_cons->aP
open _root_.Nat renaming le_refl->aD,lt_or_ge->aQ,zero_le->aT
open _root_.Option renaming none->K,some->O
namespace Go.Proofs.YtghlpefopidlaaaGreat
namespace Av
open Go.RowKit Go.Sort Rw YtghlpefopidlaaaGreat.Nm Pr Bk
theorem mo (x y:En):gF (dJ x) (dJ y)=true↔qd x y<0:=by
 rw [lX];unfold gF dJ;simp only [Bool.or_eq_true,Bool.and_eq_true,qh]
theorem Ct (x y:En) (h:dJ x≠dJ y):qd x y<0\/qd y x<0:=by
 rw [lX,lX];rcases jP x.tree y.tree with q|q|q
 ·exact Or.inl (Or.inl q)
 ·rcases jP x.sub y.sub with r|r|r
  ·exact Or.inl (Or.inr ⟨q,r⟩)
  ·exact absurd (Prod.ext q r) h
  ·exact Or.inr (Or.inr ⟨q.symm,r⟩)
 ·exact Or.inr (Or.inl q)
theorem ug:∀ (l:List En) (x:En),∀ y∈l.take (dO (l.map dJ) (dJ x)),qd y x<0
 | [],_,y,h=>by simp at h
 | a::l,x,y,h=>by
  unfold dO at h;by_cases ha:gF (dJ a) (dJ x)=true
  ·simp only [aP,aF,ha,if_true,aJ,List.take_succ_cons,aG] at h;rcases h with rfl|h
   ·exact (mo _ _).1 ha
   ·exact ug l x y h
  ·simp [ha] at h
theorem uh:∀ {l:List En} (_:l.Pairwise fun x y=>qd x y<0) (x:En) (_:∀ y∈l,dJ y≠dJ x),∀ y∈l.drop (dO (l.map dJ) (dJ x)),qd x y<0
 | [],_,_,_,y,h=>by simp at h
 | a::l,hr,x,hn,y,h=>by
  unfold dO at h;have hr':=aH.1 hr;by_cases ha:gF (dJ a) (dJ x)=true
  ·simp only [aP,aF,ha,if_true,aJ,List.drop_succ_cons] at h;exact uh hr'.2 x (fun y hy=>hn y (aB _ hy)) y h
  ·simp [ha] at h;have hax:qd x a<0:=by
    rcases Ct a x (hn a (by simp)) with q|q
    ·exact absurd ((mo _ _).2 q) ha
    ·exact q
   rcases h with rfl|h
   ·exact hax
   ·exact vH _ _ _ hax (hr'.1 y h)
theorem Cu {l:List En} (hr:l.Pairwise fun x y=>qd x y<0) (x:En) (hn:∀ y∈l,dJ y≠dJ x):(eX l (dO (l.map dJ) (dJ x)) x).Pairwise fun x y=>qd x y<0:=by
 unfold eX;have h1:=hr.sublist (List.take_sublist (dO (l.map dJ) (dJ x)) l);have h2:=hr.sublist (List.drop_sublist (dO (l.map dJ) (dJ x)) l);have lo:=ug l x;have hi:=uh hr x hn;rw [List.append_assoc,List.pairwise_append];refine⟨h1,?_,fun a ha b hb=>?_⟩
 ·rw [aA,aH];exact⟨fun b hb=>hi b hb,h2⟩
 ·rw [aA,aG] at hb;rcases hb with rfl|hb
  ·exact lo a ha
  ·exact vH _ _ _ (lo a ha) (hi b hb)
theorem uj:∀ (l:List dQ) (x:dQ),x ∉ l->eU l x=-1
 | [],_,_=>rfl
 | a::l,x,h=>by
  rw [eU,if_neg fun e=>h (by rw [e]; simp),uj l x fun q=>h (aB _ q),if_pos rfl]
theorem Fe {κ:Type} [DecidableEq κ] {l:List κ} {x:κ} (h:gD l x=-1):x ∉ l:=by
 rcases nW l x with _|⟨k,h1,_⟩
 ·intro hm
  induction l with
  | nil=>simp at hm
  | cons a l ih =>
   rw [gD] at h
   split at h
   ·cases h
   ·rename_i hne
    split at h
    ·rename_i h2
     rcases aG.1 hm with e|e
     ·exact hne e.symm
     ·exact ih h2 h2 e
    ·rename_i h2
     have:=nW l x;rcases this with q|⟨k,q,_⟩
     ·exact h2 q
     ·omega
 ·omega
theorem yV {b:Br} (h:iH b) {l:List En} (hp:l.Pairwise fun x y=>qd x y<0) (ho:∀ e∈l,su b e=true):iH { b with ent:=l } :=
 ⟨h.near,h.seen,h.dP,hp,h.own,h.oks,fun e he=>vJ (b:=b) rfl rfl (ho e he),h.Qu⟩
theorem Lc {b:Br} (h:iH b) (e:En) (hc:mY b.near e.from_=true) (hq:Wr.jT e.p=true):iH (gM b e).1:=by
 unfold gM
 split
 ·exact h
 ·rename_i a ha
  split
  ·exact h
  ·rename_i h1
   split
   ·exact h
   ·rename_i h2
    split
    ·exact h
    ·rename_i h3
     have hid:a.id=e.tree:=by
      have hm:e.tree∈b.dP.map Ad.id:=Decidable.byContradiction fun q=>h1 (uj _ _ q);obtain⟨k2,h5,h6⟩:=Cc _ _ hm;rw [h5,Int.toNat_natCast] at ha;rw [V,ha] at h6;exact Option.some.inj h6
     have hf:fJ b.dP e.tree=O a:=by
      rw [<- hid];exact qW h.dP (X ha)
     have hins:=Cu h.ent { e with up:=decide (a.par≠-1) && !gK b.ent e.tree e.p } fun y hy hk=>by
      have hm:dJ e∈b.ent.map dJ:=List.mem_map.2 ⟨y,hy,hk⟩;have h9:gD (b.ent.map dJ) (dJ e)=-1:=Decidable.not_not.1 h2;exact Fe h9 hm
     refine yV h hins fun q hq2=>?_;rcases (vI _ _ _ _).1 hq2 with rfl|hq2
     ·unfold su;simp only [hf];have h4:¬ (e.from_≠-1/\e.from_=a.par):=h3;rw [hc,hq];by_cases g1:e.from_=a.par
      ·have g2:a.par=-1:=by
        rw [<- g1];exact Decidable.byContradiction fun q=>h4 ⟨q,g1⟩
       simp [g1,g2]
      ·by_cases g2:a.par=-1 <;> simp [g1,g2]
     ·exact h.KS q hq2
theorem sD (t:dQ) (s:List En×List En) (k:Nat):(ig t s k).1.map dJ=s.1.map dJ:=by
 unfold ig
 split
 ·rfl
 ·rename_i e he
  split
  ·rw [List.map_set];refine List.ext_getElem? fun j=>?_;rw [List.getElem?_set]
   split
   ·rename_i hj
    subst hj
    split
    ·rw [V,he]
     rfl
    ·rename_i hl
     rw [List.getElem?_eq_none (by simpa using hl)]
   ·rfl
  ·rfl
theorem rC (t:dQ) (m:List En):∀ k,(iR t m k).1.map dJ=m.map dJ
 | 0=>rfl
 | k+1=>by rw [iY,sD,rC t m k]
theorem Cv {l m:List En} (h:l.map dJ=m.map dJ) (hp:m.Pairwise fun x y=>qd x y<0):l.Pairwise fun x y=>qd x y<0:=by
 have h1:∀ l:List En,(l.Pairwise fun x y=>qd x y<0)↔(l.map dJ).Pairwise fun x y=>gF x y=true:=fun l=>by
  rw [List.pairwise_map];exact⟨fun q=>q.imp fun {a b} r=>(mo a b).2 r,fun q=>q.imp fun {a b} r=>(mo a b).1 r⟩
 rw [h1,h,<- h1];exact hp
theorem mq {α:Type} (l:List α) (k:Nat):(cutAt l k).Sublist l:=by
 unfold cutAt
 conv=>rhs; rw [<- List.take_append_drop k l]
 exact (List.Sublist.refl _).append (List.drop_sublist_drop_left l (Nat.le_succ k))
theorem II {b:Br} (h:iH b) (t x:dQ) (f:Int):iH (takeB b t x f).1:=by
 unfold takeB
 split
 ·exact h
 ·rename_i e0 he0
  split
  ·exact h
  ·rename_i h1
   split
   ·exact h
   ·split
    ·exact yV h (h.ent.sublist (mq _ _)) fun q hq=>h.KS q (lY hq)
    ·rename_i hup
     have QC:e0.up=true:=by simpa using hup
     have ht:e0.tree=t:=by
      rcases nW (b.ent.map dJ) (t,x) with q|⟨k,q,r⟩
      ·exact absurd q h1
      ·rw [q,Int.toNat_natCast] at he0;rw [V,he0] at r;exact congrArg Prod.fst (Option.some.inj r)
     have ho0:=h.KS e0 (X he0);refine yV h (Cv (rC _ _ _) (h.ent.sublist (mq _ _))) ?_;refine (o7 (fun e=>su b e=true) (fun e he hr=>?_) (fun q hq=>h.KS q (lY hq)) _).1;unfold su at hr ho0 ⊢;rw [ht] at ho0;show (match fJ b.dP e.tree with | none=>false | some a=>_)=true;rw [he] at hr ⊢;cases hfa:fJ b.dP t with
     | none=>rw [hfa] at hr; cases hr
     | some a =>
      rw [hfa] at hr ho0;simp only [Bool.and_eq_true] at hr ho0 ⊢;refine⟨hr.1,hr.2.1,?_,hr.2.2.2⟩;have h9:=ho0.2.2.1;rw [QC] at h9;exact h9
end Av
namespace Pr
open Go.RowKit Go.Sort Pu Rw Va
def IJ:ByteArray:=⟨#[112,114,101,100]⟩
def zY (w:aC) (l:List Cn) (e:Ending) (w':aC):Prop:=Below w.heap.size w w'/\(match qA l with
 | .ok m=>∃ pv,e=Z (.tuple #[pv,.nilIface])/\fI w' pv (m.map r5)
 | .error _=>∃ b,e=Z (.tuple #[D K 0 0,.iface 226 (aR (O ⟨b,0,K⟩))]))
theorem IK (op:ByteArray) (at_:Int) (tx:Nat) (x:aO) (w:aC) :
  aS J 169 #[.string op,ah aj at_,.iface tx x] w fun e w'=>e=Z (.iface 226 (aR (O ⟨w.heap.size,0,K⟩)))/\w'=w.alloc (Y #[.string op,ah aj at_,.iface tx x] 228):=by
 go_enter Tryz.func169,Tryz.ntmps169;go_wp2;go_ret;exact⟨rfl,rfl⟩
theorem yX (at_:Nat) (m r:List Cn) (c:Cn):iG at_ m (c::r)=match jg m c with
  | .ok m'=>iG (at_+1) m' r
  | .error k=>.error (k,at_):=by
 simp only [iG,jg];cases mU m c with
 | none=>rfl
 | some m'=>simp only; split <;> rfl
theorem Cw {m:List Cn} {c:Cn} {m':List Cn} (h:je m) (hs:jg m c=.ok m'):je m'/\m'.length<=5:=by
 unfold jg at hs;cases hi:mU m c with
 | none=>rw [hi] at hs; cases hs
 | some n =>
  rw [hi] at hs;simp only at hs
  split at hs
  ·cases hs
  ·rename_i h5
   injection hs with hs
   subst hs;exact⟨(nN m c n h hi).1,by omega⟩
theorem Fg (lv:aO) (l:List Cn) (w:aC) (hl:fI w lv (l.map r5)) (hs:D9 l) (hgd:∀ c∈l,qy c=true):aS J 134 #[lv] w (zY w l):=by
 have HL:=L hl;have LN:=L (show (l.map r5).length=l.length from aM ..);have h100:=hs.1;have SM:=L hs.2;have GD:=L hgd;obtain⟨ao,ac,rfl⟩:=hl.len;rw [aM] at HL ⊢;obtain⟨n,hn⟩:∃ n,n=l.length:=⟨_,rfl⟩;rw [<- hn] at HL h100 ⊢;have HN:=L hn;obtain⟨res,hres⟩:∃ r,r=qA l:=⟨_,rfl⟩;have MQ:=L (show ∀ e w',(Below w.heap.size w w'/\(match res with
 | .ok m=>∃ pv,e=Z (.tuple #[pv,.nilIface])/\fI w' pv (m.map r5)
 | .error _=>∃ b,e=Z (.tuple #[D K 0 0,.iface 226 (aR (O ⟨b,0,K⟩))])))->zY w l e w' from fun e w' h=>by unfold zY; rw [<- hres]; exact h)
 have HR:=L hres;clear hl hs hgd hn hres;generalize hq:zY w l=q at *;clear hq;go_enter Tryz.func134,Tryz.ntmps134;go_wp2
 go_loopw [13] (fun i wr=>∃ k:Nat,k<=n/\i=ah aj k/\Below w.heap.size w wr) (fun i _=>n-(intOf i).toNat)
 case atStart=>exact⟨0,aT _,rfl,Below.refl _ _⟩
 case round =>
  obtain⟨k,hk,rfl,hb⟩:=hrel;have HB:=L hb;clear hb;by_cases hlt:k<n
  ·obtain⟨⟨xn,xk⟩,hx⟩:∃ x,l[k]?=O x:=⟨_,ak (by have:=HN.out; omega)⟩;obtain⟨p,ix,px⟩:=Ml (x:=r5 (xn,xk)) HL.out rfl (LN.out.trans HN.out.symm) (by rw [V,hx]; rfl);obtain⟨p0,p1,p2,p3,p4⟩:=px _ HB.out;have C:=L (Hr (xn,xk) (wr.alloc (Y (cells5 (r5 (xn,xk))).toArray 91)) (by have:=(SM.out _ (X hx)).1; unfold maxLen; omega));rw [GD.out _ (X hx)] at C;have B4:=L (HB.out.alloc HB.out.size (Y (cells5 (r5 (xn,xk))).toArray 91));simp only [r5] at p0 p1 p2 p3 p4 C;clear hx px;go_wp2_with fail;refine C.out.mono ?_;rintro e5 w5 ⟨rfl,hb5⟩;have B5:=L (B4.out.trans (hb5.mono B4.out.size));clear hb5 C B4 ix p0 p1 p2 p3 p4;go_wp2
   go_roundw
   case rel=>exact⟨k+1,by omega,by go_num,B5.out⟩
   case measure=>simp [intOf]; omega
  ·obtain rfl:k=n:=by omega
   go_wp2
   go_loopw [6,27] (fun mv i wr=>∃ (j:Nat) (m:List Cn),j<=k/\i=ah aj j/\fV wr w.heap.size mv (m.map r5)/\je m/\m.length<=5/\res=iG j m (l.drop j)/\Below w.heap.size w wr) (fun _ i _=>k-(intOf i).toNat)
   case atStart=>exact⟨0,[],aT _,rfl,gN _ _,List.Pairwise.nil,by simp,by rw [HR.out]; rfl,HB.out⟩
   case round =>
    obtain⟨j,m,hj,rfl,hown,hrise,TK,Jw,hb⟩:=hrel;have BW:=L hb;have OW:=L hown;have RM:=L hrise;have FO:=L Jw;clear hb hown hrise Jw;by_cases hjl:j<k
    ·obtain⟨⟨xn,xk⟩,hx⟩:∃ x,l[j]?=O x:=⟨_,ak (by have:=HN.out; omega)⟩;obtain⟨p,ix,px⟩:=Ml (x:=r5 (xn,xk)) HL.out rfl (LN.out.trans HN.out.symm) (by rw [V,hx]; rfl);obtain⟨p0,p1,p2,p3,p4⟩:=px _ BW.out;have B4:=L (BW.out.alloc BW.out.size (Y (cells5 (r5 (xn,xk))).toArray 91));have C:=L (Ep w.heap.size _ m (xn,xk) (wr.alloc (Y (cells5 (r5 (xn,xk))).toArray 91)) (dw OW.out ((Below.refl _ _).alloc (aD _) _)) RM.out TK B4.out.size);have DR:l.drop j=(xn,xk)::l.drop (j+1):=by
      have h:=List.drop_eq_getElem_cons (l:=l) (i:=j) (by have:=HN.out; omega);rw [h]
      congr 1
      exact (List.getElem?_eq_some_iff.1 hx).2
     have F2:=FO.out;rw [DR,yX] at F2;have F3:=L F2;simp only [r5] at p0 p1 p2 p3 p4 C;clear hx px F2 DR FO;cases hst:jg m (xn,xk) with
     | ok m' =>
      have RR:=L (Cw RM.out hst);have F4:=L (show res=iG (j+1) m' (l.drop (j+1)) by rw [F3.out,hst]);rw [hst] at C;clear hst F3;go_wp2_with fail;refine C.out.mono ?_;rintro e5 w5 ⟨hb5,v',rfl,M4⟩;have B5:=L (B4.out.trans hb5);have O5:=L M4;clear hb5 M4 C B4 ix p0 p1 p2 p3 p4 OW BW RM;go_wp2
      go_roundw
      case rel=>exact⟨j+1,m',by omega,by go_num,O5.out,RR.out.1,RR.out.2,F4.out,B5.out⟩
      case measure=>simp [intOf]; omega
     | error er =>
      have F4:=L (show res=.error (er,j) by rw [F3.out,hst]);rw [hst] at C;clear hst F3;go_wp2_with fail;refine C.out.mono ?_;rintro e5 w5 ⟨hb5,rfl⟩;have B5:=L (B4.out.trans hb5);clear hb5 C B4 ix p0 p1 p2 p3 p4 OW BW RM;go_wp2_with fail;refine (IK IJ j 211 (ah aj er) w5).mono ?_;rintro e6 w6 ⟨rfl,rfl⟩;go_wp2;refine MQ.out _ _ ⟨B5.out.alloc B5.out.size _,?_⟩;rw [F4.out];exact⟨w5.heap.size,rfl⟩
    ·obtain rfl:j=k:=by omega
     have F2:=L (show res=.ok m by rw [FO.out,ay (by have:=HN.out; omega)]; rfl);go_wp2;refine MQ.out _ _ ⟨BW.out,?_⟩;rw [F2.out];exact⟨_,rfl,Row.dx OW.out⟩
end Pr
namespace Av
open Go.RowKit Go.Sort Rw YtghlpefopidlaaaGreat.Nm Pr Bk
end Av
namespace Rt
open Go.RowKit Rw YtghlpefopidlaaaGreat.Nm Pr Bk
theorem Fh {W:aC} {b:Nat} {c:jJ} (h:cZ W b (iC c).toArray 88):yt W (D (O ⟨b,0,K⟩) 1 1) [c] :=
 Or.inr ⟨⟨b,0,K⟩,1,rfl,by simp,by decide,kH h (by simp [EW])⟩
def rD (B:Nat) (l:List jJ) (k:Nat) (c:jJ) (vv:aO) (W:aC) (e:Ending) (w':aC):Prop:=∃ v',e=Z v'/\lD w' B v' (l.take k++c::l.drop k)/\Below B W w'/\(∀ j,j<W.heap.size->O j≠vv.ownBlock->w'.heap[j]?=W.heap[j]?)
theorem xD (B:Nat) (v:aO) (l:List jJ) (c:jJ) (b:Nat) (W:aC) (ho:lD W B v l) (hx:cZ W b (iC c).toArray 88) (hl:l.length<=900) (hB:B<=W.heap.size) :
  aS J 43 #[v,ah aj (l.length:Nat),D (O ⟨b,0,K⟩) 1 1] W (rD B l l.length c v W):=by
 obtain⟨v',w',hr,ho2,hg⟩:=jq okW B ho (Fh hx) (by omega) (by simp) hB 28;have hr:(aN #[28,28] 28 #[v,D (O ⟨b,0,K⟩) 1 1]).run J W=.ok v' w':=hr;have Q:=L (show rD B l l.length c v W (Z v') w' from ⟨v',rfl,by rw [List.take_of_length_le (aD _),ay (aD _)]; exact ho2,(Below.refl B W).grown hg hB (fun j hj=>(ho.lt j hj).1),fun j hj hne=>hg.block j hj hne⟩);obtain⟨sx,hs,_⟩:=qw okW (Row.dx ho) l.length (aD _);have hs:∀ w,(U 28 v (O (ah aj l.length)) K K).run J w=.ok sx w:=hs;obtain⟨ao,ac,rfl⟩:=(Row.dx ho).len;clear ho ho2 hg;generalize hn:l.length=n at *;clear hn;go_enter aL,aI;go_wp2_with (first | (at_builtin; refine wpList_append_run rfl _ _ 28 rfl rfl rfl hr ?_) | fail);go_ret;exact Q.out
theorem Fj (w:aC) (g b k la lb cb:Nat) (cur cs:Array aO) (hb:cZ w b cs 88) (hg:cZ w g cur 88) (hne:b≠g) (h0:0<cur.size):(callFunc 112 #[D (O ⟨b,0,K⟩) la 1,D (O ⟨g,k,K⟩) lb cb]).run J w=.ok (.value (.bool false)) w:=by
 rw [run_callFunc_extern Tryz.func112 (by kernel_rfl) (by kernel_rfl) (by kernel_rfl) (e:=Extern.SlicesOverlaps.overlaps #[28,28] #[4]) (by kernel_rfl),
  Lib.run_overlaps_apart w 28 4 88 Tryz.underlying28 3 Tryz.sizeOf88 ⟨b,0,K⟩ ⟨g,k,K⟩ la 1 lb cb hne 88 88 cs.size cur.size hb.shape hg.shape (by omega) (hb.fr 0) (hb.fr _)]
 rfl
theorem sF (B g n cap:Nat) (cur:Array aO) (l:List jJ) (k:Nat) (c:jJ) (b:Nat) (W:aC) (hn:n=l.length) (hBg:B<=g) (hg:cZ W g cur 88) (hcm:cap<=maxLen) (hsz:cur.size=cap * 3) (ht:cur.toList.take (n * 3)=flat EW l) (hx:cZ W b (iC c).toArray 88) (hne:b≠g) (hk:k<n) (hroom:n+1<=cap) (hl:n<=900) :
  aS J 43 #[D (O ⟨g,0,K⟩) n cap,ah aj k,D (O ⟨b,0,K⟩) 1 1] W (rD B l k c (D (O ⟨g,0,K⟩) n cap) W):=by
 obtain⟨R1,R2,r1,r2,ow⟩:=jZ (E:=EW) (l:=l) (k:=k) (cap:=cap) (cur:=cur) (cs:=(iC c).toArray) (c:=c) okW (by omega) (by omega) hsz (by rw [<- hn]; exact ht) g b hne;have hov:=fun lb cb=>Fj W g b ((k+1) * 3) 1 lb cb cur (iC c).toArray hx hg hne (by omega);have s0:=eH (E:=EW) okW g k n cap (by omega) (by omega);have s1:=fZ (E:=EW) okW ⟨g,0,K⟩ (n+1) n cap (by omega);have s2:=eH (E:=EW) okW g (k+1) (n+1) cap (by omega) (by omega);have s3:=eH (E:=EW) okW g k (n+1) cap (by omega) (by omega);have q1:=r1 W.drew 3 (n+1-(k+1)) (cap-(k+1)) (n+1-k) (cap-k) hg (by omega);have q2:=r2 (W.drew.setRow g R1) 3 (n+1-k) (cap-k) (cZ.set (show cZ W.drew g cur 88 from hg) R1) (cZ.other (show cZ W.drew b _ 88 from hx) hne R1) rfl (by omega);have Q:=L (show rD B l k c (D (O ⟨g,0,K⟩) n cap) W (Z (D (O ⟨g,0,K⟩) (n+1) cap)) ((W.drew.setRow g R1).setRow g R2) from ⟨_,rfl,by rw [hn]; exact ow _ B hBg hcm (cZ.set (cZ.set (show cZ W.drew g cur 88 from hg) R1) R2),below_setRow (below_setRow (Below.refl B W).drew hBg _) hBg _,fun j hj hne=>(setRow_other _ g j _ (fun e=>hne (by rw [e]; rfl))).trans (setRow_other _ g j _ (fun e=>hne (by rw [e]; rfl)))⟩);clear r1 r2 ow hg ht hx hsz hBg hcm;change ∀ w,(U 28 (D (O ⟨g,0,K⟩) n cap) (O (ah aj k)) K K).run J w=.ok (D (O ⟨g,k * 3,K⟩) (n-k) (cap-k)) w at s0;change ∀ w,(U 28 (D (O ⟨g,0,K⟩) n cap) K (O (ah aj ((n:Int)+1))) K).run J w=.ok (D (O ⟨g,0,K⟩) (n+1) cap) w at s1;change ∀ w,(U 28 (D (O ⟨g,0,K⟩) (n+1) cap) (O (ah aj ((k:Int)+1))) K K).run J w=.ok (D (O ⟨g,(k+1) * 3,K⟩) (n+1-(k+1)) (cap-(k+1))) w at s2;change ∀ w,(U 28 (D (O ⟨g,0,K⟩) (n+1) cap) (O (ah aj k)) K K).run J w=.ok (D (O ⟨g,k * 3,K⟩) (n+1-k) (cap-k)) w at s3;have e1:((k:Int) == (n:Int))=false:=by rw [beq_eq_false_iff_ne]; omega
 have e2:decide ((cap:Int)<(n:Int)+1)=false:=by simp; omega
 change (au #[28,28] 3 #[D (O ⟨g,(k+1) * 3,K⟩) (n+1-(k+1)) (cap-(k+1)),D (O ⟨g,k * 3,K⟩) (n+1-k) (cap-k)]).run J W.drew=.ok (ah aj ((l.length-k:Nat):Int)) (W.drew.setRow g R1) at q1;change (au #[28,28] 3 #[D (O ⟨g,k * 3,K⟩) (n+1-k) (cap-k),D (O ⟨b,0,K⟩) 1 1]).run J (W.drew.setRow g R1)=.ok (ah aj 1) ((W.drew.setRow g R1).setRow g R2) at q2;clear hn;go_enter aL,aI;go_wp2_with (first | (simp only [hov]) | fail);clear hov s0 s1 s2 s3;have hw1:IntKind.i64.wrap ((k:Int)+1)=(k:Int)+1:=by rw [aK]; omega
 have hb1:(0:Int)<=(k:Int)+1:=by omega
 have hb0:(k:Int)+1<=(n:Int)+1:=by omega
 have htn:((k:Int)+1).toNat=k+1:=by omega
 have hb2:¬ (cap=k+1):=by omega
 have hb3:(k:Int)<=(n:Int)+1:=by omega
 have hb4:¬ (cap=k):=by omega
 have h81:n+1-(k+1)=n-k:=by omega
 rw [h81] at q1;clear h81
 go_region_law (refine eZ rfl (.tmp 73) (.tmp 76) 28 rfl (v:=D (O ⟨g,(k+1) * 3,K⟩) (n-k) (cap-(k+1))) (xv:=D (O ⟨g,k * 3,K⟩) (n+1-k) (cap-k)) (by simp [Act.eval,Act.put]) (by simp [Act.eval,Act.put]) q1 ?_)
 all_goals simp only [Exit.then]
 all_goals apply_assumption
 clear q1 hw1 hb1 hb0 htn hb2 hb3 hb4;have s3:=eH (E:=EW) okW g k (n+1) cap (by omega) (by omega);change ∀ w,(U 28 (D (O ⟨g,0,K⟩) (n+1) cap) (O (ah aj k)) K K).run J w=.ok (D (O ⟨g,k * 3,K⟩) (n+1-k) (cap-k)) w at s3;go_wp2_with (first | (at_builtin; refine wpList_copy_run rfl _ _ 28 rfl rfl rfl q2 ?_) | fail);go_ret;exact Q.out
theorem vO (B g n cap:Nat) (cur:Array aO) (l:List jJ) (k:Nat) (c:jJ) (b:Nat) (W:aC) (hn:n=l.length) (hg:cZ W g cur 88) (hcm:cap<=maxLen) (hnc:n<=cap) (ht:cur.toList.take (n * 3)=flat EW l) (hx:cZ W b (iC c).toArray 88) (hk:k<n) (hroom:cap<n+1) (hl:n<=900) (hB:B<=W.heap.size) :
  aS J 43 #[D (O ⟨g,0,K⟩) n cap,ah aj k,D (O ⟨b,0,K⟩) 1 1] W (rD B l k c (D (O ⟨g,0,K⟩) n cap) W):=by
 have hgw:=hg.lt;have hbw:=hx.lt;obtain⟨G,R1,R2,R3,hG1,hG2,r1,r2,r3,ow⟩:=kZ (E:=EW) (l:=l) (k:=k) (cap:=cap) (cur:=cur) (cs:=(iC c).toArray) (c:=c) okW 3 Tryz.underlying3 (by omega) (by omega) (by omega) (by omega) (by rw [<- hn]; exact ht) W g b hg hbw;unfold maxLen at hcm hG2;have s0:=eH (E:=EW) okW g k n cap (by omega) (by omega);have s1:=fZ (E:=EW) okW ⟨g,0,K⟩ k n cap (by omega);have s2:=eH (E:=EW) okW W.heap.size k (n+1) G (by omega) (by omega);have s3:=eH (E:=EW) okW W.heap.size (k+1) (n+1) G (by omega) (by omega);have a1:=r1 28;have n1:=dG W.drew R1 88;have bl:W.drew.heap.size=W.heap.size:=rfl;rw [bl] at n1;have g1:cZ (W.drew.alloc (Y R1 88)) g cur 88:=cZ.more (show cZ W.drew g cur 88 from hg) _;have x1:cZ (W.drew.alloc (Y R1 88)) b (iC c).toArray 88:=cZ.more (show cZ W.drew b _ 88 from hx) _;have q2:=r2 (W.drew.alloc (Y R1 88)) 3 (n+1-k) (G-k) n1 x1 rfl (by omega);have q3:=r3 ((W.drew.alloc (Y R1 88)).setRow W.heap.size R2).drew 3 (n+1-(k+1)) (G-(k+1)) (n-k) (cap-k) (cZ.set n1 R2) (cZ.other g1 (by omega) R2) (by omega);have Q:=L (show rD B l k c (D (O ⟨g,0,K⟩) n cap) W (Z (D (O ⟨W.heap.size,0,K⟩) (n+1) G)) (((W.drew.alloc (Y R1 88)).setRow W.heap.size R2).drew.setRow W.heap.size R3) from ⟨_,rfl,by rw [hn]; exact ow _ B hB (cZ.set (cZ.set n1 R2) R3),below_setRow (below_setRow ((Below.refl B W).drew.alloc hB _) hB _).drew hB _,fun j hj _=>(setRow_other _ W.heap.size j _ (by omega)).trans ((setRow_other _ W.heap.size j _ (by omega)).trans (Array.getElem?_push_lt hj |>.trans (Array.getElem?_eq_getElem hj).symm))⟩);have l1:l.length+1=n+1:=by rw [hn]
 rw [l1,<- hn] at a1;clear r1 r2 r3 ow hg ht hx g1 x1 n1 bl l1;change ∀ w,(U 28 (D (O ⟨g,0,K⟩) n cap) (O (ah aj k)) K K).run J w=.ok (D (O ⟨g,k * 3,K⟩) (n-k) (cap-k)) w at s0;change ∀ w,(U 28 (D (O ⟨g,0,K⟩) n cap) K (O (ah aj k)) K).run J w=.ok (D (O ⟨g,0,K⟩) k cap) w at s1;change ∀ w,(U 28 (D (O ⟨W.heap.size,0,K⟩) (n+1) G) (O (ah aj k)) K K).run J w=.ok (D (O ⟨W.heap.size,k * 3,K⟩) (n+1-k) (G-k)) w at s2;change ∀ w,(U 28 (D (O ⟨W.heap.size,0,K⟩) (n+1) G) (O (ah aj ((k:Int)+1))) K K).run J w=.ok (D (O ⟨W.heap.size,(k+1) * 3,K⟩) (n+1-(k+1)) (G-(k+1))) w at s3;change (aN #[28,3] 28 #[D (O ⟨g,0,K⟩) k cap,ah aj ((n:Int)+1-k)]).run J W=.ok (D (O ⟨W.heap.size,0,K⟩) (n+1) G) (W.drew.alloc (Y R1 88)) at a1;change (au #[28,28] 3 #[D (O ⟨W.heap.size,k * 3,K⟩) (n+1-k) (G-k),D (O ⟨b,0,K⟩) 1 1]).run J (W.drew.alloc (Y R1 88))=.ok (ah aj 1) ((W.drew.alloc (Y R1 88)).setRow W.heap.size R2) at q2;change (au #[28,28] 3 #[D (O ⟨W.heap.size,(k+1) * 3,K⟩) (n+1-(k+1)) (G-(k+1)),D (O ⟨g,k * 3,K⟩) (n-k) (cap-k)]).run J ((W.drew.alloc (Y R1 88)).setRow W.heap.size R2).drew=.ok (ah aj ((l.length-k:Nat):Int)) (((W.drew.alloc (Y R1 88)).setRow W.heap.size R2).drew.setRow W.heap.size R3) at q3;have e1:((k:Int) == (n:Int))=false:=by rw [beq_eq_false_iff_ne]; omega
 have e2:decide ((cap:Int)<(n:Int)+1)=true:=by simp; omega
 have hGn:n+1<=G:=by omega
 clear hn;generalize W.heap.size=N at *;generalize W.drew.alloc (Y R1 88)=W1 at *;generalize W1.setRow N R2=W2 at *;go_enter aL,aI;go_wp2_with (first | (at_builtin; refine fD rfl _ _ 28 3 rfl rfl rfl a1 ?_) | (at_builtin; refine wpList_copy_run rfl _ _ 28 rfl rfl rfl q2 ?_) | fail);clear a1 q2 s0 s1 s2 s3;have hw1:IntKind.i64.wrap ((k:Int)+1)=(k:Int)+1:=by rw [aK]; omega
 have hb1:(0:Int)<=(k:Int)+1:=by omega
 have hb0:(k:Int)+1<=(n:Int)+1:=by omega
 have htn:((k:Int)+1).toNat=k+1:=by omega
 have hb2:¬ (G=k+1):=by omega
 have hb3:(k:Int)<=(n:Int):=by omega
 have hb4:¬ (cap=k):=by omega
 have h81:n+1-(k+1)=n-k:=by omega
 rw [h81] at q3;clear h81
 go_region_law (refine eZ rfl (.tmp 50) (.tmp 53) 28 rfl (v:=D (O ⟨N,(k+1) * 3,K⟩) (n-k) (G-(k+1))) (xv:=D (O ⟨g,k * 3,K⟩) (n-k) (cap-k)) (by simp [Act.eval,Act.put]) (by simp [Act.eval,Act.put]) q3 ?_)
 all_goals simp only [Exit.then]
 all_goals apply_assumption
 go_wp2;go_ret;exact Q.out
theorem xE (B:Nat) (v:aO) (l:List jJ) (k:Nat) (c:jJ) (b:Nat) (W:aC) (ho:lD W B v l) (hx:cZ W b (iC c).toArray 88) (hne:v.ownBlock≠O b) (hk:k<=l.length) (hl:l.length<=900) (hB:B<=W.heap.size) :
  aS J 43 #[v,ah aj k,D (O ⟨b,0,K⟩) 1 1] W (rD B l k c v W):=by
 rcases aQ k l.length with h|h
 ·rcases dY ho with⟨_,h2⟩|⟨g,cap,cur,rfl,h1,h2,h3,h4,h5,h6⟩
  ·rw [h2] at h; simp at h
  ·rcases aQ cap (l.length+1) with h7|h7
   ·exact vO B g _ cap cur l k c b W rfl h2 h4 h3 h6 hx h h7 hl hB
   ·exact sF B g _ cap cur l k c b W rfl h1 h2 h4 h5 h6 hx (fun e=>hne (by simp [Value.ownBlock,e])) h h7 hl
 ·obtain rfl:k=l.length:=by omega
  exact xD B v l c b W ho hx hl hB
end Rt
end Go.Proofs.YtghlpefopidlaaaGreat
