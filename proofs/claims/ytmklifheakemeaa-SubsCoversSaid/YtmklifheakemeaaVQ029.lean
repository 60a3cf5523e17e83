/-
  Small things for reg. Conditions as told.
-/
import Derived.Test.YtmklifheakemeaaVQ020
import Derived.Test.YtmklifheakemeaaVQ028
set_option maxRecDepth 100000
set_option maxHeartbeats 64000000
open _root_.Go renaming World->ay,Value->aC,Calls->aR
open Go.Builtin renaming copy_->aA,append_->aJ
open Go.Instr renaming sliceAt->V,indexAt->aM
open Go.IntKind renaming i64->aj,wrap_i64->aH
open Go.Lib renaming hid->U
open Go.Obj renaming cells->au
open Go.Proofs.Try renaming prog->L,underlying22->aB,ntmps31->aI,func31->aL
open Go.Value renaming slice->J,int->ah,cells->aQ
open _root_.List renaming getElem?_eq_getElem->Z,mem_cons->ak,mem_cons_of_mem->aD,pairwise_cons->aG,mem_append->aK
open _root_.Nat renaming le_refl->aF,le_trans->aN,le_of_lt->aO,lt_or_ge->aP
open _root_.Option renaming none->K,some->O
namespace Go.Proofs.Ytmklifheakemeaa
namespace Rg
open Go.RowKit
end Rg
namespace Av
open Go.RowKit Go.Sort Rw Ytmklifheakemeaa.Nm Pr Bk
structure l6 (W:ay) (b:Br) (nv av sv ev ov:Sl):Prop where
 br:kM W b nv av sv ev ov
 no:gP W nv b.near
theorem l6.on {W W':ay} {b:Br} {nv av sv ev ov:Sl} (h:l6 W b nv av sv ev ov) (hb:Below W.heap.size W W'):l6 W' b nv av sv ev ov:=⟨h.br.on hb,h.no.on hb⟩
theorem l6.keep {W W':ay} {k:Nat} {me:Int} {s1 s2 s3 s4 s5:Sl} {b:Br} {nv av sv ev ov:Sl} (h:l6 W b nv av sv ev ov) (hb:dH W k (lT me s1 s2 s3 s4 s5) 31) (hk:But k W W'):l6 W' b nv av sv ev ov:=by
 obtain⟨B,hn⟩:=h.no;have hn2:rO W' B (dR nv) b.near:=hk.own hn hb (by decide);exact⟨Da h.br hb hk.1 (Row.dM hn2),B,hn2⟩
theorem qR:∀ {l m:List Int},l.Pairwise (·<·)->m.Pairwise (·<·)->(∀ x,x∈l↔x∈m)->l=m
 | [],[],_,_,_=>rfl
 | [],y::m,_,_,h=>by have:=(h y).2 (by simp); simp at this
 | x::l,[],_,_,h=>by have:=(h x).1 (by simp); simp at this
 | x::l,y::m,hl,hm,h=>by
  have hl':=aG.1 hl;have hm':=aG.1 hm;have h1:x=y:=by
   rcases ak.1 ((h x).1 (by simp)) with e|e
   ·exact e
   ·rcases ak.1 ((h y).2 (by simp)) with e2|e2
    ·exact e2.symm
    ·have a1:=hm'.1 x e;have a2:=hl'.1 y e2;omega
  subst h1;rw [qR hl'.2 hm'.2 fun z=>⟨fun hz=>?_,fun hz=>?_⟩]
  ·rcases ak.1 ((h z).1 (aD _ hz)) with e|e
   ·have:=hl'.1 z hz;omega
   ·exact e
  ·rcases ak.1 ((h z).2 (aD _ hz)) with e|e
   ·have:=hm'.1 z hz;omega
   ·exact e
abbrev mR (me:Int) (near:List Int):Br:=⟨me,near,[],[],[],[]⟩
theorem xQ (me:Int) (v:Sl) (l:List Int) (w:ay) (hv:xD w (dR v) l) (hl:l.length<=900) :
  aR L 6 #[ah aj me,dR v] w fun e w'=>(∃ (l':List Int) (nv:Sl),e=.returned (iN me nv (K,0,0) (K,0,0) (K,0,0) (K,0,0))/\kM w' (mR me l') nv (K,0,0) (K,0,0) (K,0,0) (K,0,0)/\(∃ B,rO w' B (dR nv) l')/\l'.Pairwise (·<·)/\∀ x,x∈l'↔x∈l)/\Below w.heap.size w w':=by
 have n0:=iG w (au #[ah aj 0,J K 0 0,J K 0 0,J K 0 0,J K 0 0,J K 0 0] 31);have X:=U (dO w #[ah aj 0,J K 0 0,J K 0 0,J K 0 0,J K 0 0,J K 0 0] 31);have C:=U (rU v l _ (hv.on n0) hl);have B0:=U n0;have HL:=U hl;obtain⟨vo,vn,vc⟩:=v;clear hv hl n0;go_enter Try.func6,Try.ntmps6;go_wp2_with fail;generalize w.alloc (au #[ah aj 0,J K 0 0,J K 0 0,J K 0 0,J K 0 0,J K 0 0] 31)=W at *;refine C.out.mono ?_;rintro e1 w1 ⟨⟨⟨p1,p2,p3⟩,rfl,ho⟩,hb⟩;have B1:=U (B0.out.trans (hb.mono B0.out.size));have X1:=U (X.out.on hb);have hlt:w.heap.size<W.heap.size:=X.out.lt;have C2:=U (Db w1 W.heap.size _ l ho HL.out);have OT:=U (fun g hg=>(ho.lt g hg).1);have HW:=U hlt;clear hb ho C X;go_wp2_with fail;refine C2.out.mono ?_;rintro e2 w2 ⟨rfl,l2,ho2,hp2,hs2,hg2⟩;have B2:=U (B1.out.grown hg2 B1.out.size (fun j hj=>aN (aO HW.out) (OT.out j hj)));have X2:=U (show dH w2 w.heap.size _ _ from (hg2.block _ X1.out.lt (fun e=>by have:=OT.out _ e.symm; have:=HW.out; omega)).trans X1.out);have C3:=U (Fu w2 W.heap.size (p1,p2,p3) l2 ho2 hs2 (by rw [hp2.length_eq]; exact HL.out));have PM:=U hp2;have Rp:=U (fun g hg=>(ho2.lt g hg).1);clear ho2 hp2 hs2 hg2 C2 OT X1;go_wp2_with fail;refine C3.out.mono ?_;rintro e3 w3 ⟨⟨⟨t1,t2,t3⟩,rfl,l3,ho3,hs3,Rq⟩,hg3⟩;have B3:=U (B2.out.grown hg3 B2.out.size (fun j hj=>aN (aO HW.out) (Rp.out j hj)));have Y:=show dH w3 w.heap.size _ _ from (hg3.block _ X2.out.lt (fun e=>by have:=Rp.out _ e.symm; have:=HW.out; omega)).trans X2.out;obtain⟨y0,y1,y2,y3,y4,y5⟩:=Y.jc;obtain⟨f0,f1,f2,f3,f4,f5⟩:=Y.wE;have zz:=Y.lt;have FB:=U (eD Y (ah aj me) (J t1 t2 t3) (J K 0 0) (J K 0 0) (J K 0 0) (J K 0 0));have FL:=U (dQ (b:=w.heap.size) B3.out (aF _) (ah aj me) (J t1 t2 t3) (J K 0 0) (J K 0 0) (J K 0 0) (J K 0 0));have FO:=U (CW ho3 w.heap.size HW.out (ah aj me) (J t1 t2 t3) (J K 0 0) (J K 0 0) (J K 0 0) (J K 0 0));have Q:=U (show l3.Pairwise (·<·)/\∀ x,x∈l3↔x∈l from ⟨hs3,fun x=>(Rq x).trans PM.out.mem_iff⟩);clear ho3 hs3 Rq hg3 Y X2 C3 B2 B1 B0;go_wp2_with fail;obtain⟨v0,v1,v2,v3,v4,v5⟩:=FB.out.jc;refine bodyPost_ret (v:=.agg #[ah aj me,J t1 t2 t3,J K 0 0,J K 0 0,J K 0 0,J K 0 0]) (by simp [results,Try.results6,go_sem,v0,v1,v2,v3,v4,v5]) rfl ?_;exact⟨⟨l3,(t1,t2,t3),rfl,⟨Row.dM FO.out,⟨[],jL _,.nil⟩,jL _,⟨[],jL _,.nil⟩,⟨[],jL _,.nil⟩⟩,⟨_,FO.out⟩,Q.out.1,Q.out.2⟩,FL.out⟩
theorem fF {P:Program} (ρ:Operand->aC) (o:Oper) (y:Operand) (k:Nat) (ho:o.op=.extract y k) {c:Array aC} {v:aC} (hx:ρ y=.tuple c) (hv:c[k]?=O v) (w:ay):(execOp ρ o).run P w=.ok (.value v) w:=by
 simp [execOp,ho,hx,hv,go_sem]
end Av
namespace Av
open Go.RowKit Go.ChangeShapes Go.WideShapes Bk
theorem Ji (a:Addr) (m len cap:Nat) (h:m<len) (w:ay):(aM 22 (J (O a) len cap) (ah aj m)).run L w=.ok (.pointer (O (a.add (m * 2)))) w:=by
 have h1:(m:Int)<len:=by omega
 simp [go_sem,aB,h1]
structure Kz (W:ay) (v:aC) (n:Nat):Prop where
 shape:∃ ao cap,v=J ao n cap
 at_:∀ i:Nat,i<n->∃ (p:Addr) (h1:Option Addr) (h2 h3:Nat) (g1:Option Addr) (g2 g3:Nat) (has vals:List Int),p.block<W.heap.size/\(∀ w,(aM 22 v (ah aj i)).run L w=.ok (.pointer (O p)) w)/\(∀ j u,([J h1 h2 h3,J g1 g2 g3]:List aC)[j]?=O u->W.cell? (p.add j)=O u)/\In.gJ W (J h1 h2 h3) has/\In.gJ W (J g1 g2 g3) vals/\has.length<=maxLen/\vals.length<=maxLen
theorem J7 {H:Type} {enc:TypeId×aC->H} {W:ay} {r:Reach} {b0:Nat} {sp:Nat->Bool} {held:Bool} {v:aC} {d:DataW H} {ps:List MemPlace}
  (hval:Value.okWide L W r b0 22 v) (hd:DataW.Trod enc L W 0 sp held 22 v d ps):∃ n:Nat,n<=maxLen/\Kz W v n:=by
 obtain⟨ao,al,ac,rfl⟩:=okWide_slice aB hval;obtain⟨fuel,hf⟩:=hd;rcases Deep.open_slice aB hf with⟨h1,_⟩|⟨a,len,cap,m,n,D,Pl,h1,_,h3,h4,h5,_,hx⟩
 ·have e:J ao al ac=J K 0 0:=by simpa [aQ] using h1
  exact⟨0,Nat.zero_le _,⟨K,0,e⟩,fun i hi=>by omega⟩
 ·have e:J ao al ac=J (O a) len cap:=by simpa [aQ] using h1
  rw [e];have hle:len<=m:=by rw [h5]; split <;> omega
  refine⟨len,by omega,⟨O a,cap,rfl⟩,fun i hi=>?_⟩;obtain⟨cs',k1,k2⟩:=hx i (by omega);obtain⟨ys,n2,_,_,hcl,hyl,hp⟩:=DataW.trod_struct Try.underlying40 k2;rw [Pr.Kh] at hcl k1
  match cs',hcl with
  | [c0,d1],_ =>
   have Te:ys.length=2:=hyl;have q0:DataW.trod enc L W 0 sp held n2 23 (([c0,d1].drop 0).take (Try.prog.cellsOf 23))=ys[0]?:=hp 0 _ rfl;have q1:DataW.trod enc L W 0 sp held n2 23 (([c0,d1].drop 1).take (Try.prog.cellsOf 23))=ys[1]?:=hp 1 _ rfl;simp only [Pr.IC,List.drop_zero,List.drop_succ_cons,List.take_succ_cons,List.take_zero] at q0 q1;rw [Z (by omega)] at q0 q1;obtain⟨has,l1,i1⟩:=In.wH q0;obtain⟨vals,l2,i2⟩:=In.wH q1;obtain⟨x1,y1,rfl⟩:=i1.shape;obtain⟨x2,y2,rfl⟩:=i2.shape;obtain⟨_,_,k3⟩:=World.cells?_some k1;have k0:=k3 0 (by decide);rw [Rw.add_zero] at k0;refine⟨a.add (i * 2),x1,_,y1,x2,_,y2,has,vals,World.block_lt_of_cell? W _ k0,fun w=>Ji a i len cap hi w,fun j u hu=>?_,i1,i2,l1,l2⟩;have hj:j<2:=(List.getElem?_eq_some_iff.1 hu).1;rw [<- hu];exact k3 j hj
end Av
namespace Av
open Go.RowKit Rw Ytmklifheakemeaa.Nm Pr Wr
theorem KA (c:Cn) (h:vg c=true):Dm (r5 c)=true:=by
 obtain⟨n,k⟩:=c;unfold vg at h;rw [Bool.and_eq_true] at h;obtain⟨h1,h2⟩:=h;have h1':At.xI n=true:=h1;cases k with
 | rg lo hi =>
  have h3:lo<=hi:=by simpa [gB] using h2
  have h0:(⟨#[]⟩:ByteArray).size=0:=rfl;simp [r5,Dm,kN,mE,mF,kT,h1',h3,h0]
 | tx t =>
  have h3:t.size<=12:=by simpa [gB] using h2
  simp [r5,Dm,kN,mE,mF,kT,h1',h3]
 | pr t =>
  have h3:t.size<12:=by simpa [gB] using h2
  have h4:t.size<=11:=by omega
  simp [r5,Dm,kN,mE,mF,kT,h1',h4]
theorem yH (l:List C5) (h1:l.Pairwise fun x y=>Op.bytesLess x.1.toList y.1.toList=true) (h2:l.length<=5) (h3:∀ c∈l,Dm c=true):jJ l=true:=by
 rw [Az l fun j hj=>?_]
 ·simpa using h2
 unfold F9;rw [Z hj];simp only [Bool.and_eq_true];refine⟨h3 _ (List.getElem_mem hj),?_⟩;cases j with
 | zero=>rfl
 | succ j =>
  rw [Bool.or_eq_true];right;rw [Nat.add_sub_cancel,Z (by omega)];exact List.pairwise_iff_getElem.1 h1 j (j+1) (by omega) hj (by omega)
theorem AZ (has vals:List Int):jJ ((gN has vals 7).map r5)=true:=by
 have h:=FX has vals;refine yH _ ?_ (by rw [List.length_map]; exact h.five) fun c hc=>?_
 ·rw [List.pairwise_map];exact h.rise
 ·obtain⟨x,hx,rfl⟩:=List.mem_map.1 hc;exact KA x (h.good x hx)
end Av
namespace Bk
open Go.RowKit Go.Sort Rw Ytmklifheakemeaa.Nm Pr
end Bk
namespace Av
open Go.RowKit Rw Ytmklifheakemeaa.Nm Pr Bk
theorem Ga {W:ay} {b:Nat} {c:gM} (h:dH W b (gU c).toArray 43):jR W (J (O ⟨b,0,K⟩) 1 1) [c] :=
 Or.inr ⟨⟨b,0,K⟩,1,rfl,by simp,by decide,pq h (by simp [EN])⟩
def sM (B:Nat) (l:List gM) (k:Nat) (c:gM) (vv:aC) (W:ay) (e:Ending) (w':ay):Prop:=∃ v',e=.returned v'/\jl w' B v' (l.take k++c::l.drop k)/\Below B W w'/\(∀ j,j<W.heap.size->O j≠vv.ownBlock->w'.heap[j]?=W.heap[j]?)
theorem yB (B:Nat) (v:aC) (l:List gM) (c:gM) (b:Nat) (W:ay) (ho:jl W B v l) (hx:dH W b (gU c).toArray 43) (hl:l.length<=900) (hB:B<=W.heap.size) :
  aR L 31 #[v,ah aj (l.length:Nat),J (O ⟨b,0,K⟩) 1 1] W (sM B l l.length c v W):=by
 obtain⟨v',w',hr,ho2,hg⟩:=kP kK B ho (Ga hx) (by omega) (by simp) hB 28;have hr:(aJ #[28,28] 28 #[v,J (O ⟨b,0,K⟩) 1 1]).run L W=.ok v' w':=hr;have Q:=U (show sM B l l.length c v W (.returned v') w' from ⟨v',rfl,by rw [List.take_of_length_le (aF _),List.drop_of_length_le (aF _)]; exact ho2,(Below.refl B W).grown hg hB (fun j hj=>(ho.lt j hj).1),fun j hj hne=>hg.block j hj hne⟩);obtain⟨sx,hs,_⟩:=rH kK (Row.dM ho) l.length (aF _);have hs:∀ w,(V 28 v (O (ah aj l.length)) K K).run L w=.ok sx w:=hs;obtain⟨ao,ac,rfl⟩:=(Row.dM ho).len;clear ho ho2 hg;generalize hn:l.length=n at *;clear hn;go_enter aL,aI;go_wp2_with (first | (at_builtin; refine wpList_append_run rfl _ _ 28 rfl rfl rfl hr ?_) | fail);go_ret;exact Q.out
theorem Gb (w:ay) (g b k la lb cb:Nat) (cur cs:Array aC) (hb:dH w b cs 43) (hg:dH w g cur 43) (hne:b≠g) (h0:0<cur.size):(callFunc 60 #[J (O ⟨b,0,K⟩) la 1,J (O ⟨g,k,K⟩) lb cb]).run L w=.ok (.value (.bool false)) w:=by
 rw [run_callFunc_extern Try.func60 (by kernel_rfl) (by kernel_rfl) (by kernel_rfl) (e:=Extern.SlicesOverlaps.overlaps #[28,28] #[4]) (by kernel_rfl),
  Lib.run_overlaps_apart w 28 4 43 Try.underlying28 7 Try.sizeOf43 ⟨b,0,K⟩ ⟨g,k,K⟩ la 1 lb cb hne 43 43 cs.size cur.size hb.shape hg.shape (by omega) (hb.fr 0) (hb.fr _)]
 rfl
theorem uU (B g n cap:Nat) (cur:Array aC) (l:List gM) (k:Nat) (c:gM) (b:Nat) (W:ay) (hn:n=l.length) (hBg:B<=g) (hg:dH W g cur 43) (hcm:cap<=maxLen) (hsz:cur.size=cap * 7) (ht:cur.toList.take (n * 7)=flat EN l) (hx:dH W b (gU c).toArray 43) (hne:b≠g) (hk:k<n) (hroom:n+1<=cap) (hl:n<=900) :
  aR L 31 #[J (O ⟨g,0,K⟩) n cap,ah aj k,J (O ⟨b,0,K⟩) 1 1] W (sM B l k c (J (O ⟨g,0,K⟩) n cap) W):=by
 obtain⟨R1,R2,r1,r2,ow⟩:=qy (E:=EN) (l:=l) (k:=k) (cap:=cap) (cur:=cur) (cs:=(gU c).toArray) (c:=c) kK (by omega) (by omega) hsz (by rw [<- hn]; exact ht) g b hne;have hov:=fun lb cb=>Gb W g b ((k+1) * 7) 1 lb cb cur (gU c).toArray hx hg hne (by omega);have s0:=gI (E:=EN) kK g k n cap (by omega) (by omega);have s1:=jE (E:=EN) kK ⟨g,0,K⟩ (n+1) n cap (by omega);have s2:=gI (E:=EN) kK g (k+1) (n+1) cap (by omega) (by omega);have s3:=gI (E:=EN) kK g k (n+1) cap (by omega) (by omega);have q1:=r1 W.drew 3 (n+1-(k+1)) (cap-(k+1)) (n+1-k) (cap-k) hg (by omega);have q2:=r2 (W.drew.setRow g R1) 3 (n+1-k) (cap-k) (dH.set (show dH W.drew g cur 43 from hg) R1) (dH.other (show dH W.drew b _ 43 from hx) hne R1) rfl (by omega);have Q:=U (show sM B l k c (J (O ⟨g,0,K⟩) n cap) W (.returned (J (O ⟨g,0,K⟩) (n+1) cap)) ((W.drew.setRow g R1).setRow g R2) from ⟨_,rfl,by rw [hn]; exact ow _ B hBg hcm (dH.set (dH.set (show dH W.drew g cur 43 from hg) R1) R2),below_setRow (below_setRow (Below.refl B W).drew hBg _) hBg _,fun j hj hne=>(setRow_other _ g j _ (fun e=>hne (by rw [e]; rfl))).trans (setRow_other _ g j _ (fun e=>hne (by rw [e]; rfl)))⟩);clear r1 r2 ow hg ht hx hsz hBg hcm;change ∀ w,(V 28 (J (O ⟨g,0,K⟩) n cap) (O (ah aj k)) K K).run L w=.ok (J (O ⟨g,k * 7,K⟩) (n-k) (cap-k)) w at s0;change ∀ w,(V 28 (J (O ⟨g,0,K⟩) n cap) K (O (ah aj ((n:Int)+1))) K).run L w=.ok (J (O ⟨g,0,K⟩) (n+1) cap) w at s1;change ∀ w,(V 28 (J (O ⟨g,0,K⟩) (n+1) cap) (O (ah aj ((k:Int)+1))) K K).run L w=.ok (J (O ⟨g,(k+1) * 7,K⟩) (n+1-(k+1)) (cap-(k+1))) w at s2;change ∀ w,(V 28 (J (O ⟨g,0,K⟩) (n+1) cap) (O (ah aj k)) K K).run L w=.ok (J (O ⟨g,k * 7,K⟩) (n+1-k) (cap-k)) w at s3;have e1:((k:Int) == (n:Int))=false:=by rw [beq_eq_false_iff_ne]; omega
 have e2:decide ((cap:Int)<(n:Int)+1)=false:=by simp; omega
 change (aA #[28,28] 3 #[J (O ⟨g,(k+1) * 7,K⟩) (n+1-(k+1)) (cap-(k+1)),J (O ⟨g,k * 7,K⟩) (n+1-k) (cap-k)]).run L W.drew=.ok (ah aj ((l.length-k:Nat):Int)) (W.drew.setRow g R1) at q1;change (aA #[28,28] 3 #[J (O ⟨g,k * 7,K⟩) (n+1-k) (cap-k),J (O ⟨b,0,K⟩) 1 1]).run L (W.drew.setRow g R1)=.ok (ah aj 1) ((W.drew.setRow g R1).setRow g R2) at q2;clear hn;go_enter aL,aI;go_wp2_with (first | (simp only [hov]) | fail);clear hov s0 s1 s2 s3;have hw1:IntKind.i64.wrap ((k:Int)+1)=(k:Int)+1:=by rw [aH]; omega
 have hb1:(0:Int)<=(k:Int)+1:=by omega
 have hb0:(k:Int)+1<=(n:Int)+1:=by omega
 have htn:((k:Int)+1).toNat=k+1:=by omega
 have hb2:¬ (cap=k+1):=by omega
 have hb3:(k:Int)<=(n:Int)+1:=by omega
 have hb4:¬ (cap=k):=by omega
 have h81:n+1-(k+1)=n-k:=by omega
 rw [h81] at q1;clear h81
 go_region_law (refine iw rfl (.tmp 73) (.tmp 76) 28 rfl (v:=J (O ⟨g,(k+1) * 7,K⟩) (n-k) (cap-(k+1))) (xv:=J (O ⟨g,k * 7,K⟩) (n+1-k) (cap-k)) (by simp [Act.eval,Act.put]) (by simp [Act.eval,Act.put]) q1 ?_)
 all_goals simp only [Exit.then]
 all_goals apply_assumption
 clear q1 hw1 hb1 hb0 htn hb2 hb3 hb4;have s3:=gI (E:=EN) kK g k (n+1) cap (by omega) (by omega);change ∀ w,(V 28 (J (O ⟨g,0,K⟩) (n+1) cap) (O (ah aj k)) K K).run L w=.ok (J (O ⟨g,k * 7,K⟩) (n+1-k) (cap-k)) w at s3;go_wp2_with (first | (at_builtin; refine wpList_copy_run rfl _ _ 28 rfl rfl rfl q2 ?_) | fail);go_ret;exact Q.out
theorem wS (B g n cap:Nat) (cur:Array aC) (l:List gM) (k:Nat) (c:gM) (b:Nat) (W:ay) (hn:n=l.length) (hg:dH W g cur 43) (hcm:cap<=maxLen) (hnc:n<=cap) (ht:cur.toList.take (n * 7)=flat EN l) (hx:dH W b (gU c).toArray 43) (hk:k<n) (hroom:cap<n+1) (hl:n<=900) (hB:B<=W.heap.size) :
  aR L 31 #[J (O ⟨g,0,K⟩) n cap,ah aj k,J (O ⟨b,0,K⟩) 1 1] W (sM B l k c (J (O ⟨g,0,K⟩) n cap) W):=by
 have hgw:=hg.lt;have hbw:=hx.lt;obtain⟨G,R1,R2,R3,hG1,hG2,r1,r2,r3,ow⟩:=rM (E:=EN) (l:=l) (k:=k) (cap:=cap) (cur:=cur) (cs:=(gU c).toArray) (c:=c) kK 3 Try.underlying3 (by omega) (by omega) (by omega) (by omega) (by rw [<- hn]; exact ht) W g b hg hbw;unfold maxLen at hcm hG2;have s0:=gI (E:=EN) kK g k n cap (by omega) (by omega);have s1:=jE (E:=EN) kK ⟨g,0,K⟩ k n cap (by omega);have s2:=gI (E:=EN) kK W.heap.size k (n+1) G (by omega) (by omega);have s3:=gI (E:=EN) kK W.heap.size (k+1) (n+1) G (by omega) (by omega);have a1:=r1 28;have n1:=dO W.drew R1 43;have bl:W.drew.heap.size=W.heap.size:=rfl;rw [bl] at n1;have g1:dH (W.drew.alloc (au R1 43)) g cur 43:=dH.more (show dH W.drew g cur 43 from hg) _;have x1:dH (W.drew.alloc (au R1 43)) b (gU c).toArray 43:=dH.more (show dH W.drew b _ 43 from hx) _;have q2:=r2 (W.drew.alloc (au R1 43)) 3 (n+1-k) (G-k) n1 x1 rfl (by omega);have q3:=r3 ((W.drew.alloc (au R1 43)).setRow W.heap.size R2).drew 3 (n+1-(k+1)) (G-(k+1)) (n-k) (cap-k) (dH.set n1 R2) (dH.other g1 (by omega) R2) (by omega);have Q:=U (show sM B l k c (J (O ⟨g,0,K⟩) n cap) W (.returned (J (O ⟨W.heap.size,0,K⟩) (n+1) G)) (((W.drew.alloc (au R1 43)).setRow W.heap.size R2).drew.setRow W.heap.size R3) from ⟨_,rfl,by rw [hn]; exact ow _ B hB (dH.set (dH.set n1 R2) R3),below_setRow (below_setRow ((Below.refl B W).drew.alloc hB _) hB _).drew hB _,fun j hj _=>(setRow_other _ W.heap.size j _ (by omega)).trans ((setRow_other _ W.heap.size j _ (by omega)).trans (Array.getElem?_push_lt hj |>.trans (Array.getElem?_eq_getElem hj).symm))⟩);have l1:l.length+1=n+1:=by rw [hn]
 rw [l1,<- hn] at a1;clear r1 r2 r3 ow hg ht hx g1 x1 n1 bl l1;change ∀ w,(V 28 (J (O ⟨g,0,K⟩) n cap) (O (ah aj k)) K K).run L w=.ok (J (O ⟨g,k * 7,K⟩) (n-k) (cap-k)) w at s0;change ∀ w,(V 28 (J (O ⟨g,0,K⟩) n cap) K (O (ah aj k)) K).run L w=.ok (J (O ⟨g,0,K⟩) k cap) w at s1;change ∀ w,(V 28 (J (O ⟨W.heap.size,0,K⟩) (n+1) G) (O (ah aj k)) K K).run L w=.ok (J (O ⟨W.heap.size,k * 7,K⟩) (n+1-k) (G-k)) w at s2;change ∀ w,(V 28 (J (O ⟨W.heap.size,0,K⟩) (n+1) G) (O (ah aj ((k:Int)+1))) K K).run L w=.ok (J (O ⟨W.heap.size,(k+1) * 7,K⟩) (n+1-(k+1)) (G-(k+1))) w at s3;change (aJ #[28,3] 28 #[J (O ⟨g,0,K⟩) k cap,ah aj ((n:Int)+1-k)]).run L W=.ok (J (O ⟨W.heap.size,0,K⟩) (n+1) G) (W.drew.alloc (au R1 43)) at a1;change (aA #[28,28] 3 #[J (O ⟨W.heap.size,k * 7,K⟩) (n+1-k) (G-k),J (O ⟨b,0,K⟩) 1 1]).run L (W.drew.alloc (au R1 43))=.ok (ah aj 1) ((W.drew.alloc (au R1 43)).setRow W.heap.size R2) at q2;change (aA #[28,28] 3 #[J (O ⟨W.heap.size,(k+1) * 7,K⟩) (n+1-(k+1)) (G-(k+1)),J (O ⟨g,k * 7,K⟩) (n-k) (cap-k)]).run L ((W.drew.alloc (au R1 43)).setRow W.heap.size R2).drew=.ok (ah aj ((l.length-k:Nat):Int)) (((W.drew.alloc (au R1 43)).setRow W.heap.size R2).drew.setRow W.heap.size R3) at q3;have e1:((k:Int) == (n:Int))=false:=by rw [beq_eq_false_iff_ne]; omega
 have e2:decide ((cap:Int)<(n:Int)+1)=true:=by simp; omega
 have hGn:n+1<=G:=by omega
 clear hn;generalize W.heap.size=N at *;generalize W.drew.alloc (au R1 43)=W1 at *;generalize W1.setRow N R2=W2 at *;go_enter aL,aI;go_wp2_with (first | (at_builtin; refine iV rfl _ _ 28 3 rfl rfl rfl a1 ?_) | (at_builtin; refine wpList_copy_run rfl _ _ 28 rfl rfl rfl q2 ?_) | fail);clear a1 q2 s0 s1 s2 s3;have hw1:IntKind.i64.wrap ((k:Int)+1)=(k:Int)+1:=by rw [aH]; omega
 have hb1:(0:Int)<=(k:Int)+1:=by omega
 have hb0:(k:Int)+1<=(n:Int)+1:=by omega
 have htn:((k:Int)+1).toNat=k+1:=by omega
 have hb2:¬ (G=k+1):=by omega
 have hb3:(k:Int)<=(n:Int):=by omega
 have hb4:¬ (cap=k):=by omega
 have h81:n+1-(k+1)=n-k:=by omega
 rw [h81] at q3;clear h81
 go_region_law (refine iw rfl (.tmp 50) (.tmp 53) 28 rfl (v:=J (O ⟨N,(k+1) * 7,K⟩) (n-k) (G-(k+1))) (xv:=J (O ⟨g,k * 7,K⟩) (n-k) (cap-k)) (by simp [Act.eval,Act.put]) (by simp [Act.eval,Act.put]) q3 ?_)
 all_goals simp only [Exit.then]
 all_goals apply_assumption
 go_wp2;go_ret;exact Q.out
theorem ru (B:Nat) (v:aC) (l:List gM) (k:Nat) (c:gM) (b:Nat) (W:ay) (ho:jl W B v l) (hx:dH W b (gU c).toArray 43) (hne:v.ownBlock≠O b) (hk:k<=l.length) (hl:l.length<=900) (hB:B<=W.heap.size) :
  aR L 31 #[v,ah aj k,J (O ⟨b,0,K⟩) 1 1] W (sM B l k c v W):=by
 rcases aP k l.length with h|h
 ·rcases fD ho with⟨_,h2⟩|⟨g,cap,cur,rfl,h1,h2,h3,h4,h5,h6⟩
  ·rw [h2] at h; simp at h
  ·rcases aP cap (l.length+1) with h7|h7
   ·exact wS B g _ cap cur l k c b W rfl h2 h4 h3 h6 hx h h7 hl hB
   ·exact uU B g _ cap cur l k c b W rfl h1 h2 h4 h5 h6 hx (fun e=>hne (by simp [Value.ownBlock,e])) h h7 hl
 ·obtain rfl:k=l.length:=by omega
  exact yB B v l c b W ho hx hl hB
end Av
namespace Bk
open Go.RowKit Go.Sort Rw Ytmklifheakemeaa.Nm Pr
theorem DF (l:List Id) (x:Id) (h:x∈l):∃ k:Nat,fM l x=k/\l[k]?=O x:=by
 induction l with
 | nil=>simp at h
 | cons a r ih =>
  by_cases e:a=x
  ·subst e;exact⟨0,by simp [fM],rfl⟩
  ·have hr:x∈r:=by
    rcases ak.1 h with h1|h1
    ·exact absurd h1.symm e
    ·exact h1
   obtain⟨k,h1,h2⟩:=ih hr;refine⟨k+1,?_,by simpa using h2⟩;rw [fM,if_neg e,h1,if_neg (by omega)];omega
theorem vV {t:Id} {m:List En} (R:En->Prop) (hR:∀ e,e.tree=t->R e->R (uM e)) (h:∀ e∈m,R e):∀ k,(∀ e∈(fO t m k).1,R e)/\∀ e∈(fO t m k).2,R e
 | 0=>⟨h,fun e he=>by simp [fO] at he⟩
 | k+1=>by
  have ih:=vV (t:=t) R hR h k;rw [gq];unfold fA
  split
  ·exact ih
  ·rename_i e he
   split
   ·rename_i hcond
    have hu:=hR e hcond.1 (ih.1 e (List.mem_of_getElem? he));refine⟨fun x hx=>?_,fun x hx=>?_⟩
    ·rcases List.mem_or_eq_of_mem_set hx with h1|h1
     ·exact ih.1 x h1
     ·rw [h1];exact hu
    ·rcases aK.1 hx with h1|h1
     ·exact ih.2 x h1
     ·rw [List.mem_singleton.1 h1];exact hu
   ·exact ih
theorem p9 {α:Type} {l:List α} {k:Nat} {x:α} (h:x∈cutAt l k):x∈l:=by
 rcases aK.1 h with h|h
 ·exact List.mem_of_mem_take h
 ·exact List.mem_of_mem_drop h
end Bk
namespace Av
open Go.RowKit Go.Sort Rw Ytmklifheakemeaa.Nm Pr Bk
theorem qU {W W':ay} {b:Nat} (h:W.grownBy W' (O b)):But b W W':=⟨fun k hk hne=>h.block k hk (by simpa using hne),h.size⟩
end Av
end Go.Proofs.Ytmklifheakemeaa
