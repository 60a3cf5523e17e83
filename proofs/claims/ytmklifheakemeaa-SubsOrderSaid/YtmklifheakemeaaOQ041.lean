/-
  Predicates of number. Conditions as told.
-/
import Derived.Test.YtmklifheakemeaaOQ035
import Derived.OpenShut
import Derived.Carry
import Derived.ChangeMaps5
import Derived.ChangeArms
set_option maxRecDepth 100000
set_option maxHeartbeats 64000000
open _root_.Bool renaming and_eq_true->Q,true->au
open Go.Lib renaming hid->J
open Go.Proofs.Try renaming prog->U,underlying22->Z
open Go.Value renaming slice->K,int->aA,cells->aB
open _root_.List renaming getElem?_eq_getElem->L,mem_cons->O,getElem?_cons_zero->V,getElem?_cons_succ->Y,getElem?_toArray->aj,mem_cons_of_mem->ak,pairwise_cons->ay
open Option.some renaming inj->ah
namespace Go.Proofs.Ytmklifheakemeaa
namespace Av
open Go.RowKit Rw Ytmklifheakemeaa.Nm Pr Wr
theorem JG (c:Cn) (h:qJ c=au):yQ (r5 c)=au:=by
 obtain⟨n,k⟩:=c;unfold qJ at h;rw [Q] at h;obtain⟨h1,h2⟩:=h;have h1':At.tX n=au:=h1;cases k with
 | rg lo hi =>
  have h3:lo<=hi:=by simpa [fU] using h2
  have h0:(⟨#[]⟩:ByteArray).size=0:=rfl;simp [r5,yQ,kN,ko,kr,kT,h1',h3,h0]
 | tx t =>
  have h3:t.size<=12:=by simpa [fU] using h2
  simp [r5,yQ,kN,ko,kr,kT,h1',h3]
 | pr t =>
  have h3:t.size<12:=by simpa [fU] using h2
  have h4:t.size<=11:=by omega
  simp [r5,yQ,kN,ko,kr,kT,h1',h4]
theorem uZ (l:List C5) (h1:l.Pairwise fun x y=>Op.bytesLess x.1.toList y.1.toList=au) (h2:l.length<=5) (h3:∀ c∈l,yQ c=au):jd l=au:=by
 rw [wD l fun j hj=>?_]
 ·simpa using h2
 unfold A9;rw [L hj];simp only [Q];refine⟨h3 _ (List.getElem_mem hj),?_⟩;cases j with
 | zero=>rfl
 | succ j =>
  rw [Bool.or_eq_true];right;rw [Nat.add_sub_cancel,L (by omega)];exact List.pairwise_iff_getElem.1 h1 j (j+1) (by omega) hj (by omega)
theorem wU (has vals:List Int):jd ((jB has vals 7).map r5)=au:=by
 have h:=BS has vals;refine uZ _ ?_ (by rw [List.length_map]; exact h.five) fun c hc=>?_
 ·rw [List.pairwise_map];exact h.rise
 ·obtain⟨x,hx,rfl⟩:=List.mem_map.1 hc;exact JG x (h.good x hx)
end Av
namespace Bk
open Go.RowKit Go.Sort Rw Ytmklifheakemeaa.Nm
end Bk
namespace Bk
open Go.RowKit Go.Sort Rw Ytmklifheakemeaa.Nm Pr
theorem zH (l:List Id) (x:Id) (h:x∈l):∃ k:Nat,fC l x=k/\l[k]?=some x:=by
 induction l with
 | nil=>simp at h
 | cons a r ih =>
  by_cases e:a=x
  ·subst e;exact⟨0,by simp [fC],rfl⟩
  ·have hr:x∈r:=by
    rcases O.1 h with h1|h1
    ·exact absurd h1.symm e
    ·exact h1
   obtain⟨k,h1,h2⟩:=ih hr;refine⟨k+1,?_,by simpa using h2⟩;rw [fC,if_neg e,h1,if_neg (by omega)];omega
end Bk
namespace Av
open Go.RowKit Go.Sort Rw Ytmklifheakemeaa.Nm Pr Bk
structure iW (W:World) (b:Br) (nv av sv ev ov:Sl):Prop where
 br:jK W b nv av sv ev ov
 no:gT W nv b.near
theorem iW.on {W W':World} {b:Br} {nv av sv ev ov:Sl} (h:iW W b nv av sv ev ov) (hb:Below W.heap.size W W'):iW W' b nv av sv ev ov:=⟨h.br.on hb,h.no.on hb⟩
theorem iW.keep {W W':World} {k:Nat} {me:Int} {s1 s2 s3 s4 s5:Sl} {b:Br} {nv av sv ev ov:Sl} (h:iW W b nv av sv ev ov) (hb:dz W k (mM me s1 s2 s3 s4 s5) 31) (hk:But k W W'):iW W' b nv av sv ev ov:=by
 obtain⟨B,hn⟩:=h.no;have hn2:oK W' B (dO nv) b.near:=hk.own hn hb (by decide);exact⟨yS h.br hb hk.1 (Row.dG hn2),B,hn2⟩
theorem lN:∀ {l m:List Int},l.Pairwise (·<·)->m.Pairwise (·<·)->(∀ x,x∈l↔x∈m)->l=m
 | [],[],_,_,_=>rfl
 | [],y::m,_,_,h=>by have:=(h y).2 (by simp); simp at this
 | x::l,[],_,_,h=>by have:=(h x).1 (by simp); simp at this
 | x::l,y::m,hl,hm,h=>by
  have hl':=ay.1 hl;have hm':=ay.1 hm;have h1:x=y:=by
   rcases O.1 ((h x).1 (by simp)) with e|e
   ·exact e
   ·rcases O.1 ((h y).2 (by simp)) with e2|e2
    ·exact e2.symm
    ·have a1:=hm'.1 x e;have a2:=hl'.1 y e2;omega
  subst h1;rw [lN hl'.2 hm'.2 fun z=>⟨fun hz=>?_,fun hz=>?_⟩]
  ·rcases O.1 ((h z).1 (ak _ hz)) with e|e
   ·have:=hl'.1 z hz;omega
   ·exact e
  ·rcases O.1 ((h z).2 (ak _ hz)) with e|e
   ·have:=hm'.1 z hz;omega
   ·exact e
theorem rM {W W':World} {b:Nat} (h:W.grownBy W' (some b)):But b W W':=⟨fun k hk hne=>h.block k hk (by simpa using hne),h.size⟩
theorem fu {P:Program} (ρ:Operand->Value) (o:Oper) (y:Operand) (k:Nat) (ho:o.op=.extract y k) {c:Array Value} {v:Value} (hx:ρ y=.tuple c) (hv:c[k]?=some v) (w:World):(execOp ρ o).run P w=.ok (.value v) w:=by
 simp [execOp,ho,hx,hv,go_sem]
end Av
namespace Sb
open Go.RowKit Go.Sort Rw Ytmklifheakemeaa.Nm Pr Bk Av Rl
abbrev tA (m:List En) (a:Ad):Bool:=a.par == -1 || nP (iP m a.id)
theorem wV (b:Br) (nv av sv ev ov:Sl) (w:World) (h:jK w b nv av sv ev ov) (hr:fM b.ent) (hl:b.ent.length<=1000) (hok:∀ e∈b.ent,eH e.p) :
  Calls U 13 #[iJ b.me nv av sv ev ov] w fun e w'=>e=.returned (.bool (wI b))/\Below w.heap.size w w':=by
 obtain⟨no,nn,nc⟩:=nv;obtain⟨ao,an,ac⟩:=av;obtain⟨so,sn,sc⟩:=sv;obtain⟨eo,en,ec⟩:=ev;obtain⟨oo,je,oc⟩:=ov;obtain⟨la,ha1,ha2⟩:=h.fB;obtain⟨le,he1,he2⟩:=h.ent;have h0:=gK w (.cells #[aA .i64 b.me,K no nn nc,K ao an ac,K so sn sc,K eo en ec,K oo je oc] 31);have X:=dI w #[aA .i64 b.me,K no nn nc,K ao an ac,K so sn sc,K eo en ec,K oo je oc] 31;have B:=J h0;have A1:=J (ha1.on h0);have A2:=J (ha2.mono fun _ _ q=>q.on h0);have E1:=J (he1.on h0);have E2:=J (he2.mono fun _ _ q=>q.on h0);have X1:=J X;have x2:=X.cell 2;simp only [aj,V,Y] at x2;have hn:=jf ha1;have lm:=ha1.most;unfold maxLen at lm;rw [hn] at lm;have HN:=J hn;have HR:=J hr;have HL:=J (show le.length<=1000 by rw [he2.len]; exact hl);have OK:=J hok;obtain⟨tb,htb⟩:∃ r,wI b=r:=⟨_,rfl⟩;rw [htb];have TB:=J htb;clear h0 X ha1 ha2 he1 he2 h hn hr hl hok htb;go_enter Try.func13,Try.ntmps13;go_upto_region 1 with fail;generalize w.alloc (.cells #[aA .i64 b.me,K no nn nc,K ao an ac,K so sn sc,K eo en ec,K oo je oc] 31)=W at *;go_wp2
 go_loopw [8] (fun i wr=>∃ k:Nat,k<=an/\i=aA .i64 k/\Below W.heap.size W wr/\∀ (j:Nat) (y:Ad),j<k->b.fB[j]?=some y->tA b.ent y=au) (fun i _=>an-(intOf i).toNat)
 case atStart=>exact⟨0,Nat.zero_le _,rfl,Below.refl _ _,fun j y h=>by omega⟩
 case round =>
  obtain⟨k,hk,rfl,hbe,hall⟩:=hrel;have BE:=J hbe;have AL:=J hall;clear hbe hall;by_cases hlt:k<an
  ·obtain⟨y,hy⟩:∃ y,la[k]?=some y:=⟨_,L (by rw [HN.out]; exact hlt)⟩;obtain⟨q,ix,px⟩:=NA A1.out rfl HN.out hy;obtain⟨p0,p1,p2,p3⟩:=px wr BE.out;obtain⟨a,ha⟩:∃ a,b.fB[k]?=some a:=⟨_,L (by rw [<- A2.out.len,HN.out]; exact hlt)⟩;obtain⟨y',hy',hx⟩:=A2.out.at k a ha;rw [hy] at hy';obtain rfl:=ah hy';obtain⟨y1,y2,⟨yo,yn,yc⟩,y4⟩:=y;simp only at p0 p1 p2 p3;have NB:=J (gK wr (.cells #[aA .i64 y1,aA .i64 y2,K yo yn yc,aA .i64 y4] 37));have BF:=J (BE.out.trans (NB.out.mono BE.out.size));have x4:=(X1.out.on BF.out).cell 4;simp only [aj,V,Y] at x4;have hw3:IntKind.i64.wrap ((k:Int)+1)=(k:Int)+1:=IntWalk.i64_in _ (by omega);have HA:=J ha;have HX:=J (show ((y1,y2):dW)=a.id/\y4=a.par from ⟨hx.1,hx.2.1⟩);clear px hy ha hx x2;by_cases hp:y4=-1
   ·have hne:(y4 != -1)=false:=by simp [hp]
    have HV:=J (show tA b.ent a=au by unfold tA; rw [<- HX.out.2,hp]; rfl);clear hp;go_wp2
    go_roundw
    case rel=>exact⟨k+1,by omega,by go_num,BF.out,fun j y' hj h1=>by
     rcases Nat.lt_or_ge j k with h3|h3
     ·exact AL.out j y' h3 h1
     ·obtain rfl:j=k:=by omega
      have e1:=HA.out;rw [h1] at e1;rw [ah e1];exact HV.out⟩
    case measure=>simp [intOf]; omega
   ·have hne:(y4 != -1)=au:=by simp [hp]
    obtain⟨t,ht⟩:∃ r,nP (iP b.ent (y1,y2))=r:=⟨_,rfl⟩;have HV:=J (show tA b.ent a=t by
     unfold tA;rw [<- HX.out.2,<- HX.out.1,ht,show (y4 == -1)=false by simpa using hp,Bool.false_or])
    have BR:=J (jY (eo,en,ec) le b.ent (y1,y2) _ (E1.out.on BF.out) (E2.out.mono fun _ _ q=>q.on BF.out) HR.out HL.out);obtain⟨c1,c2⟩:=wR E1.out E2.out (y1,y2);have C1:=J c1;have C2:=J c2;generalize cutV (eo,en,ec) (fA b.ent (y1,y2)) (iP b.ent (y1,y2)).length=z at *;obtain⟨z1,z2,z3⟩:=z;have HT:=J ht;clear hp c1 c2 ht;go_wp2_with fail;refine BR.out.mono ?_;rintro e1 w1 ⟨rfl,hb⟩;have BG:=J (BF.out.trans (hb.mono BF.out.size));have TC:=J (zx (z1,z2,z3) _ (iP b.ent (y1,y2)) w1 (C1.out.on BG.out) (C2.out.mono fun _ _ q=>q.on BG.out) (fun e he=>OK.out e (wS _ _ e he)));rw [HT.out] at TC;clear hb BR x4 p0 p1 p2 p3 ix;go_wp2_with fail;refine TC.out.mono ?_;rintro e2 w2 ⟨rfl,hb⟩;have BH:=J (BG.out.trans (hb.mono BG.out.size));clear hb TC;cases t
    ·have hd:=J (show tb=false by rw [<- TB.out]; exact Cm (tA b.ent) HA.out HV.out);go_wp2;go_ret;exact⟨by rw [hd.out]; rfl,B.out.trans (BH.out.mono B.out.size)⟩
    ·go_wp2
     go_roundw
     case rel=>exact⟨k+1,by omega,by go_num,BH.out,fun j y' hj h1=>by
      rcases Nat.lt_or_ge j k with h3|h3
      ·exact AL.out j y' h3 h1
      ·obtain rfl:j=k:=by omega
       have e1:=HA.out;rw [h1] at e1;rw [ah e1];exact HV.out⟩
     case measure=>simp [intOf]; omega
  ·obtain rfl:an=k:=by omega
   have hd:=J (show tb=au by rw [<- TB.out]; exact Ck (tA b.ent) fun j y hj h=>AL.out j y (by rw [<- HN.out,A2.out.len]; exact hj) h);clear x2;go_wp2;go_ret;exact⟨by rw [hd.out]; rfl,B.out.trans (BE.out.mono B.out.size)⟩
end Sb
namespace Ar
open Go.ChangeShapes Go.WideShapes Go.RowKit
def readable (P:Program) (ts:List TypeId):Bool:=ts.all fun t=>P.readableRec t && decide (t<P.types.size)
theorem carry {H:Type} {enc:TypeId×Value->H} {P:Program} (hl:laidOutB P=au) {W W':World} (hb:Below W.heap.size W W') :
  ∀ (ts:List TypeId) (vs:List Value) (ds:List (DataW H)) (ps:List MemPlace),readable P ts=au->DataW.TrodAll enc P W 0 (fun _=>au) au ts vs ds ps->(∀ x∈ps,x.block<W.heap.size) ->
   DataW.TrodAll enc P W' 0 (fun b=>decide (b<W.heap.size)) au ts vs ds ps
 | [],vs,ds,ps,_,h,_=>by
  obtain⟨rfl,rfl,rfl⟩:=trodAll_nil h;exact trodAll_mk0
 | t::ts,vs,ds,ps,hr,h,hlt=>by
  obtain⟨v,vs',d,ds',p,q,rfl,rfl,rfl,h1,h2⟩:=trodAll_cons h;simp only [readable,List.all_cons,Q,decide_eq_true_eq] at hr;exact trodAll_cons_mk (Below.trod hl hr.1.1 hr.1.2 h1 hb (fun x hx=>hlt x (List.mem_append_left _ hx)))
   (carry hl hb ts vs' ds' q hr.2 h2 (fun x hx=>hlt x (List.mem_append_right _ hx)))
end Ar
namespace Pr
open Go.RowKit Go.ChangeShapes Go.WideShapes In
theorem JH:Try.prog.cellsOf 40=2:=by kernel_rfl
theorem Gf:Try.prog.cellsOf 23=1:=by kernel_rfl
end Pr
namespace Av
open Go.RowKit Go.ChangeShapes Go.WideShapes Bk
theorem Gg (a:Addr) (m len cap:Nat) (h:m<len) (w:World):(Instr.indexAt 22 (K (some a) len cap) (aA .i64 m)).run U w=.ok (.pointer (some (a.add (m * 2)))) w:=by
 have h1:(m:Int)<len:=by omega
 simp [go_sem,Z,h1]
structure JI (W:World) (v:Value) (n:Nat):Prop where
 shape:∃ ao cap,v=K ao n cap
 at_:∀ i:Nat,i<n->∃ (p:Addr) (h1:Option Addr) (h2 h3:Nat) (g1:Option Addr) (g2 g3:Nat) (has vals:List Int),p.block<W.heap.size/\(∀ w,(Instr.indexAt 22 v (aA .i64 i)).run U w=.ok (.pointer (some p)) w)/\(∀ j u,([K h1 h2 h3,K g1 g2 g3]:List Value)[j]?=some u->W.cell? (p.add j)=some u)/\In.gL W (K h1 h2 h3) has/\In.gL W (K g1 g2 g3) vals/\has.length<=maxLen/\vals.length<=maxLen
theorem JJ {H:Type} {enc:TypeId×Value->H} {W:World} {r:Reach} {b0:Nat} {sp:Nat->Bool} {held:Bool} {v:Value} {d:DataW H} {ps:List MemPlace}
  (hval:Value.okWide U W r b0 22 v) (hd:DataW.Trod enc U W 0 sp held 22 v d ps):∃ n:Nat,n<=maxLen/\JI W v n:=by
 obtain⟨ao,al,ac,rfl⟩:=okWide_slice Z hval;obtain⟨fuel,hf⟩:=hd;rcases Deep.open_slice Z hf with⟨h1,_⟩|⟨a,len,cap,m,n,D,Pl,h1,_,h3,h4,h5,_,hx⟩
 ·have e:K ao al ac=K none 0 0:=by simpa [aB] using h1
  exact⟨0,Nat.zero_le _,⟨none,0,e⟩,fun i hi=>by omega⟩
 ·have e:K ao al ac=K (some a) len cap:=by simpa [aB] using h1
  rw [e];have hle:len<=m:=by rw [h5]; split <;> omega
  refine⟨len,by omega,⟨some a,cap,rfl⟩,fun i hi=>?_⟩;obtain⟨cs',k1,k2⟩:=hx i (by omega);obtain⟨ys,n2,_,_,hcl,hyl,hp⟩:=DataW.trod_struct Try.underlying40 k2;rw [Pr.JH] at hcl k1
  match cs',hcl with
  | [c0,d1],_ =>
   have RY:ys.length=2:=hyl;have q0:DataW.trod enc U W 0 sp held n2 23 (([c0,d1].drop 0).take (Try.prog.cellsOf 23))=ys[0]?:=hp 0 _ rfl;have q1:DataW.trod enc U W 0 sp held n2 23 (([c0,d1].drop 1).take (Try.prog.cellsOf 23))=ys[1]?:=hp 1 _ rfl;simp only [Pr.Gf,List.drop_zero,List.drop_succ_cons,List.take_succ_cons,List.take_zero] at q0 q1;rw [L (by omega)] at q0 q1;obtain⟨has,l1,i1⟩:=In.sS q0;obtain⟨vals,l2,i2⟩:=In.sS q1;obtain⟨x1,y1,rfl⟩:=i1.shape;obtain⟨x2,y2,rfl⟩:=i2.shape;obtain⟨_,_,k3⟩:=World.cells?_some k1;have k0:=k3 0 (by decide);rw [Rw.add_zero] at k0;refine⟨a.add (i * 2),x1,_,y1,x2,_,y2,has,vals,World.block_lt_of_cell? W _ k0,fun w=>Gg a i len cap hi w,fun j u hu=>?_,i1,i2,l1,l2⟩;have hj:j<2:=(List.getElem?_eq_some_iff.1 hu).1;rw [<- hu];exact k3 j hj
end Av
end Go.Proofs.Ytmklifheakemeaa
