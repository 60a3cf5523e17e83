/-
  Rows of IDs, of adve. Conditions as told.
-/
import Derived.Test.YtghlpefopidlaaaGreatOQ002
import Derived.Test.YtghlpefopidlaaaGreatOQ003
import Derived.Test.YtghlpefopidlaaaGreatOQ004
import Derived.Test.YtghlpefopidlaaaGreatOQ005
import Derived.Test.YtghlpefopidlaaaGreatOQ006
set_option maxRecDepth 100000
set_option maxHeartbeats 64000000
open _root_.Go renaming Value->O,World->V,Operand->aI,TypeId->aK,Addr->aL
open Go.Addr renaming add->U
open Go.Instr renaming indexAt->aD,loadAt->aF,storeAt->aM
open Go.IntKind renaming i64->L
open Go.Proofs.Tryz renaming prog->Y
open Go.Region renaming binds->ay
open Go.Value renaming int->J,slice->Z,pointer->aA,agg->aH,bool->aN
open _root_.List renaming not_mem_nil->aj,mem_cons->aC,length_cons->aJ
open _root_.Nat renaming le_refl->aG,zero_add->aO,le_trans->aP
open _root_.Option renaming some->X,none->ak,map_some->au
open Option.some renaming injEq->ah
open Prod.mk renaming injEq->aB
namespace Go.Proofs.YtghlpefopidlaaaGreat
namespace Bk
open Go.RowKit Rw YtghlpefopidlaaaGreat.Nm Pr
abbrev Sl:=Option aL×Nat×Nat
abbrev dN (s:Sl):O:=Z s.1 s.2.1 s.2.2
abbrev Id:=Int×Int
abbrev dO:=Id
abbrev jZ (x:dO):List O:=[J L x.1,J L x.2]
abbrev Uh (x:dO):O:=aH #[J L x.1,J L x.2]
def EJ:Ek dO:=⟨23,26,2,16,aH #[J L 0,J L 0],Uh,jZ⟩
theorem Ui:(Tryz.prog.info? 23).map (fun i=>(i.zero,i.size,i.bytes))=X (X (aH #[J L 0,J L 0]),2,16):=by kernel_rfl
theorem Uj (w:V) (p:aL) (x:dO) (h:∀ j u,(jZ x)[j]?=X u->w.cell? (p.add j)=X u):(aF 23 (aA (X p))).run Y w=.ok (Uh x) w:=by
 have h0:=h 0 _ rfl;have h1:=h 1 _ rfl;simp [U] at h0 h1;simp [go_sem,h0,h1]
theorem CF:EJ.Ok where
 hu:=Tryz.underlying26
 info:=by
  have h:=Ui;cases hi:Tryz.prog.info? 23 with
  | none=>rw [hi] at h; cases h
  | some i =>
   rw [hi] at h;simp only [au,ah,aB] at h;exact⟨i,hi,h.1,h.2.1,h.2.2⟩
 zs:=rfl
 len:=fun _=>rfl
 one:=fun x u hu=>by
  simp only [EJ,jZ,aC,aj,or_false] at hu;rcases hu with rfl|rfl <;> rfl
 pos:=by decide
 few:=by decide
 load:=fun w p x h=>Uj w p x h
abbrev yZ (W:V) (v:O) (l:List dO):Prop:=Row EJ W v l
abbrev Ac (W:V) (B:Nat) (v:O) (l:List dO):Prop:=Own EJ W B v l
theorem Zl {W:V} {v:O} {l:List dO} {ao:Option aL} {n c k:Nat} {x:dO} (h:yZ W v l) (hv:v=Z ao n c) (hn:l.length=n) (hk:l[k]?=X x) :
  ∃ p:aL,(∀ w,(aD 26 (Z ao n c) (J L k)).run Y w=.ok (aA (X p)) w)/\∀ w,Below W.heap.size W w->w.cell? p=X (J L x.1)/\w.cell? ⟨p.block,p.off+1,ak⟩=X (J L x.2):=by
 obtain⟨p,h1,_,h2⟩:=pY CF h hv hn hk;exact⟨p,h1,fun w hw=>⟨by simpa [U] using h2 w hw 0 _ rfl,by simpa [U] using h2 w hw 1 _ rfl⟩⟩
abbrev jD:=Int×Int×Sl×Int
abbrev cellsD (x:jD):List O:=[J L x.1,J L x.2.1,dN x.2.2.1,J L x.2.2.2]
abbrev kR (x:jD):O:=aH #[J L x.1,J L x.2.1,dN x.2.2.1,J L x.2.2.2]
def ED:Ek jD:=⟨36,25,4,48,aH #[J L 0,J L 0,Z ak 0 0,J L 0],kR,cellsD⟩
theorem Uk:(Tryz.prog.info? 36).map (fun i=>(i.zero,i.size,i.bytes))=X (X (aH #[J L 0,J L 0,Z ak 0 0,J L 0]),4,48):=by kernel_rfl
theorem Pv (w:V) (p:aL) (x:jD) (h:∀ j u,(cellsD x)[j]?=X u->w.cell? (p.add j)=X u):(aF 36 (aA (X p))).run Y w=.ok (kR x) w:=by
 have h0:=h 0 _ rfl;have h1:=h 1 _ rfl;have h2:=h 2 _ rfl;have h3:=h 3 _ rfl;simp [U] at h0 h1 h2 h3;simp [go_sem,h0,h1,h2,h3]
theorem okD:ED.Ok where
 hu:=Tryz.underlying25
 info:=by
  have h:=Uk;cases hi:Tryz.prog.info? 36 with
  | none=>rw [hi] at h; cases h
  | some i =>
   rw [hi] at h;simp only [au,ah,aB] at h;exact⟨i,hi,h.1,h.2.1,h.2.2⟩
 zs:=rfl
 len:=fun _=>rfl
 one:=fun x u hu=>by
  simp only [ED,cellsD,aC,aj,or_false] at hu;rcases hu with rfl|rfl|rfl|rfl <;> rfl
 pos:=by decide
 few:=by decide
 load:=fun w p x h=>Pv w p x h
abbrev CZ (W:V) (v:O) (l:List jD):Prop:=Row ED W v l
abbrev p9 (W:V) (B:Nat) (v:O) (l:List jD):Prop:=Own ED W B v l
theorem Ul {W:V} {v:O} {l:List jD} {ao:Option aL} {n c k:Nat} {x:jD} (h:CZ W v l) (hv:v=Z ao n c) (hn:l.length=n) (hk:l[k]?=X x) :
  ∃ p:aL,(∀ w,(aD 25 (Z ao n c) (J L k)).run Y w=.ok (aA (X p)) w)/\∀ w,Below W.heap.size W w->w.cell? p=X (J L x.1)/\w.cell? ⟨p.block,p.off+1,ak⟩=X (J L x.2.1)/\w.cell? ⟨p.block,p.off+2,ak⟩=X (dN x.2.2.1)/\w.cell? ⟨p.block,p.off+3,ak⟩=X (J L x.2.2.2):=by
 obtain⟨p,h1,_,h2⟩:=pY okD h hv hn hk;exact⟨p,h1,fun w hw=>⟨by simpa [U] using h2 w hw 0 _ rfl,by simpa [U] using h2 w hw 1 _ rfl,by simpa [U] using h2 w hw 2 _ rfl,by simpa [U] using h2 w hw 3 _ rfl⟩⟩
abbrev iT:=Int×Int×Int×Int×Sl×Int×Bool
abbrev iD (x:iT):List O:=[J L x.1,J L x.2.1,J L x.2.2.1,J L x.2.2.2.1,dN x.2.2.2.2.1,J L x.2.2.2.2.2.1,aN x.2.2.2.2.2.2]
abbrev tF (x:iT):O:=aH #[J L x.1,J L x.2.1,J L x.2.2.1,J L x.2.2.2.1,dN x.2.2.2.2.1,J L x.2.2.2.2.2.1,aN x.2.2.2.2.2.2]
def EN:Ek iT:=⟨67,27,7,72,aH #[J L 0,J L 0,J L 0,J L 0,Z ak 0 0,J L 0,aN false],tF,iD⟩
theorem Um:(Tryz.prog.info? 67).map (fun i=>(i.zero,i.size,i.bytes))=X (X (aH #[J L 0,J L 0,J L 0,J L 0,Z ak 0 0,J L 0,aN false]),7,72):=by kernel_rfl
theorem Un (w:V) (p:aL) (x:iT) (h:∀ j u,(iD x)[j]?=X u->w.cell? (p.add j)=X u):(aF 67 (aA (X p))).run Y w=.ok (tF x) w:=by
 have h0:=h 0 _ rfl;have h1:=h 1 _ rfl;have h2:=h 2 _ rfl;have h3:=h 3 _ rfl;have h4:=h 4 _ rfl;have h5:=h 5 _ rfl;have h6:=h 6 _ rfl;simp [U] at h0 h1 h2 h3 h4 h5 h6;simp [go_sem,h0,h1,h2,h3,h4,h5,h6]
theorem lF:EN.Ok where
 hu:=Tryz.underlying27
 info:=by
  have h:=Um;cases hi:Tryz.prog.info? 67 with
  | none=>rw [hi] at h; cases h
  | some i =>
   rw [hi] at h;simp only [au,ah,aB] at h;exact⟨i,hi,h.1,h.2.1,h.2.2⟩
 zs:=rfl
 len:=fun _=>rfl
 one:=fun x u hu=>by
  simp only [EN,iD,aC,aj,or_false] at hu;rcases hu with rfl|rfl|rfl|rfl|rfl|rfl|rfl <;> rfl
 pos:=by decide
 few:=by decide
 load:=fun w p x h=>Un w p x h
abbrev nk (W:V) (v:O) (l:List iT):Prop:=Row EN W v l
abbrev jy (W:V) (B:Nat) (v:O) (l:List iT):Prop:=Own EN W B v l
theorem Tx {W:V} {v:O} {l:List iT} {ao:Option aL} {n c k:Nat} {x:iT} (h:nk W v l) (hv:v=Z ao n c) (hn:l.length=n) (hk:l[k]?=X x) :
  ∃ p:aL,(∀ w,(aD 27 (Z ao n c) (J L k)).run Y w=.ok (aA (X p)) w)/\∀ w,Below W.heap.size W w->w.cell? p=X (J L x.1)/\w.cell? ⟨p.block,p.off+1,ak⟩=X (J L x.2.1)/\w.cell? ⟨p.block,p.off+2,ak⟩=X (J L x.2.2.1)/\w.cell? ⟨p.block,p.off+3,ak⟩=X (J L x.2.2.2.1)/\w.cell? ⟨p.block,p.off+4,ak⟩=X (dN x.2.2.2.2.1)/\w.cell? ⟨p.block,p.off+5,ak⟩=X (J L x.2.2.2.2.2.1)/\w.cell? ⟨p.block,p.off+6,ak⟩=X (aN x.2.2.2.2.2.2):=by
 obtain⟨p,h1,_,h2⟩:=pY lF h hv hn hk;exact⟨p,h1,fun w hw=>⟨by simpa [U] using h2 w hw 0 _ rfl,by simpa [U] using h2 w hw 1 _ rfl,by simpa [U] using h2 w hw 2 _ rfl,by simpa [U] using h2 w hw 3 _ rfl,by simpa [U] using h2 w hw 4 _ rfl,by simpa [U] using h2 w hw 5 _ rfl,by simpa [U] using h2 w hw 6 _ rfl⟩⟩
abbrev lG:=Int×Int×Sl
abbrev je (x:lG):List O:=[J L x.1,J L x.2.1,dN x.2.2]
abbrev JI (x:lG):O:=aH #[J L x.1,J L x.2.1,dN x.2.2]
def EW:Ek lG:=⟨88,28,3,40,aH #[J L 0,J L 0,Z ak 0 0],JI,je⟩
theorem Uo:(Tryz.prog.info? 88).map (fun i=>(i.zero,i.size,i.bytes))=X (X (aH #[J L 0,J L 0,Z ak 0 0]),3,40):=by kernel_rfl
theorem Uq (w:V) (p:aL) (x:lG) (h:∀ j u,(je x)[j]?=X u->w.cell? (p.add j)=X u):(aF 88 (aA (X p))).run Y w=.ok (JI x) w:=by
 have h0:=h 0 _ rfl;have h1:=h 1 _ rfl;have h2:=h 2 _ rfl;simp [U] at h0 h1 h2;simp [go_sem,h0,h1,h2]
theorem okW:EW.Ok where
 hu:=Tryz.underlying28
 info:=by
  have h:=Uo;cases hi:Tryz.prog.info? 88 with
  | none=>rw [hi] at h; cases h
  | some i =>
   rw [hi] at h;simp only [au,ah,aB] at h;exact⟨i,hi,h.1,h.2.1,h.2.2⟩
 zs:=rfl
 len:=fun _=>rfl
 one:=fun x u hu=>by
  simp only [EW,je,aC,aj,or_false] at hu;rcases hu with rfl|rfl|rfl <;> rfl
 pos:=by decide
 few:=by decide
 load:=fun w p x h=>Uq w p x h
abbrev C8 (W:V) (v:O) (l:List lG):Prop:=Row EW W v l
abbrev nW (W:V) (B:Nat) (v:O) (l:List lG):Prop:=Own EW W B v l
theorem elW {W:V} {v:O} {l:List lG} {ao:Option aL} {n c k:Nat} {x:lG} (h:C8 W v l) (hv:v=Z ao n c) (hn:l.length=n) (hk:l[k]?=X x) :
  ∃ p:aL,(∀ w,(aD 28 (Z ao n c) (J L k)).run Y w=.ok (aA (X p)) w)/\∀ w,Below W.heap.size W w->w.cell? p=X (J L x.1)/\w.cell? ⟨p.block,p.off+1,ak⟩=X (J L x.2.1)/\w.cell? ⟨p.block,p.off+2,ak⟩=X (dN x.2.2):=by
 obtain⟨p,h1,_,h2⟩:=pY okW h hv hn hk;exact⟨p,h1,fun w hw=>⟨by simpa [U] using h2 w hw 0 _ rfl,by simpa [U] using h2 w hw 1 _ rfl,by simpa [U] using h2 w hw 2 _ rfl⟩⟩
structure Ad where
 id:Id
 p:List C5
 par:Int
structure En where
 tree:Id
 sub:Id
 p:List C5
 from_:Int
 up:Bool
structure Ow where
 id:Id
 p:List C5
structure Br where
 me:Int
 near:List Int
 dG:List Ad
 seen:List Id
 ent:List En
 own:List Ow
def y9 (W:V) (x:jD) (a:Ad):Prop:=(x.1,x.2.1)=a.id/\x.2.2.2=a.par/\gq W (dN x.2.2.1) a.p
def lH (W:V) (x:iT) (a:En):Prop:=(x.1,x.2.1)=a.tree/\(x.2.2.1,x.2.2.2.1)=a.sub/\x.2.2.2.2.2.1=a.from_/\x.2.2.2.2.2.2=a.up/\gq W (dN x.2.2.2.2.1) a.p
def GI (W:V) (x:lG) (a:Ow):Prop:=(x.1,x.2.1)=a.id/\gq W (dN x.2.2) a.p
theorem y9.on {W W':V} {x:jD} {a:Ad} (h:y9 W x a) (hb:Below W.heap.size W W'):y9 W' x a:=⟨h.1,h.2.1,h.2.2.on hb⟩
theorem lH.on {W W':V} {x:iT} {a:En} (h:lH W x a) (hb:Below W.heap.size W W'):lH W' x a:=⟨h.1,h.2.1,h.2.2.1,h.2.2.2.1,h.2.2.2.2.on hb⟩
theorem GI.on {W W':V} {x:lG} {a:Ow} (h:GI W x a) (hb:Below W.heap.size W W'):GI W' x a:=⟨h.1,h.2.on hb⟩
inductive eG {α β:Type} (R:α->β->Prop):List α->List β->Prop
 | nil:eG R [] []
 | cons {a b l m} (h:R a b) (t:eG R l m):eG R (a::l) (b::m)
theorem eG.mono {α β:Type} {R S:α->β->Prop} (h:∀ a b,R a b->S a b):∀ {l m},eG R l m->eG S l m
 | _,_,.nil=>.nil
 | _,_,.cons x t=>.cons (h _ _ x) (t.mono h)
theorem eG.len {α β:Type} {R:α->β->Prop}:∀ {l m},eG R l m->l.length=m.length
 | _,_,.nil=>rfl
 | _,_,.cons _ t=>by rw [aJ,aJ,t.len]
theorem eG.at {α β:Type} {R:α->β->Prop}:∀ {l m} (_:eG R l m) (k:Nat) (b:β),m[k]?=X b->∃ a,l[k]?=X a/\R a b
 | _,_,.nil,k,b,h=>by simp at h
 | _,_,.cons x t,0,b,h=>by
  simp at h;subst h;exact⟨_,rfl,x⟩
 | _,_,.cons x t,k+1,b,h=>by
  obtain⟨a,h1,h2⟩:=t.at k b (by simpa using h);exact⟨a,by simpa using h1,h2⟩
theorem eG.append {α β:Type} {R:α->β->Prop}:∀ {l m l' m'},eG R l m->eG R l' m'->eG R (l++l') (m++m')
 | _,_,_,_,.nil,h=>h
 | _,_,_,_,.cons x t,h=>.cons x (t.append h)
theorem eG.take {α β:Type} {R:α->β->Prop}:∀ {l m} (k:Nat),eG R l m->eG R (l.take k) (m.take k)
 | _,_,0,_=>by simp only [List.take_zero]; exact .nil
 | _,_,k+1,.nil=>by simp only [List.take_nil]; exact .nil
 | _,_,k+1,.cons x t=>.cons x (t.take k)
theorem eG.drop {α β:Type} {R:α->β->Prop}:∀ {l m} (k:Nat),eG R l m->eG R (l.drop k) (m.drop k)
 | _,_,0,h=>h
 | _,_,_k+1,.nil=>.nil
 | _,_,k+1,.cons _ t=>t.drop k
structure lW (W:V) (b:Br) (nv av sv ev ov:Sl):Prop where
 near:Gq W (dN nv) b.near
 dG:∃ l,CZ W (dN av) l/\eG (y9 W) l b.dG
 seen:yZ W (dN sv) b.seen
 ent:∃ l,nk W (dN ev) l/\eG (lH W) l b.ent
 own:∃ l,C8 W (dN ov) l/\eG (GI W) l b.own
theorem lW.on {W W':V} {b:Br} {nv av sv ev ov:Sl} (h:lW W b nv av sv ev ov) (hb:Below W.heap.size W W'):lW W' b nv av sv ev ov where
 near:=h.near.on hb
 dG:=by obtain⟨l,h1,h2⟩:=h.dG; exact⟨l,h1.on hb,h2.mono fun _ _ h=>h.on hb⟩
 seen:=h.seen.on hb
 ent:=by obtain⟨l,h1,h2⟩:=h.ent; exact⟨l,h1.on hb,h2.mono fun _ _ h=>h.on hb⟩
 own:=by obtain⟨l,h1,h2⟩:=h.own; exact⟨l,h1.on hb,h2.mono fun _ _ h=>h.on hb⟩
abbrev nO (me:Int) (nv av sv ev ov:Sl):O:=aH #[J L me,dN nv,dN av,dN sv,dN ev,dN ov]
abbrev oM (me:Int) (nv av sv ev ov:Sl):Array O:=#[J L me,dN nv,dN av,dN sv,dN ev,dN ov]
def dJ (a b:Id):Bool:=decide (a.1<b.1) || (a.1 == b.1 && decide (a.2<b.2))
def fC:List Id->Id->Int
 | [],_=>-1
 | a::l,x=>if a=x then 0 else if fC l x=-1 then -1 else fC l x+1
def gF (l:List Id) (x:Id):Nat:=(l.takeWhile fun a=>dJ a x).length
abbrev pK (x:Id):O:=aH #[J L x.1,J L x.2]
theorem E5:Tryz.prog.stoodInHeld 23=false:=by kernel_rfl
theorem wI (a b c d:Int) (r:Bool) (h:(a == c && b == d)=r) (w:V):(binOp .eql 23 (aH #[J L a,J L b]) (aH #[J L c,J L d])).run Y w=.ok (aN r) w:=by
 have st:=E5;subst h;by_cases h1:a=c <;> by_cases h2:b=d <;> simp [go_sem,Tryz.underlying23,Tryz.underlying3,st,h1,h2]
theorem iM (w:V) (o:Obj):Below w.heap.size w (w.alloc o):=(Below.refl _ _).alloc (aG _) _
theorem iO (w:V) (c d:Array O) (s t:aK):Below w.heap.size w ((w.alloc (.cells c s)).alloc (.cells d t))/\dx ((w.alloc (.cells c s)).alloc (.cells d t)) w.heap.size c s/\dx ((w.alloc (.cells c s)).alloc (.cells d t)) (w.heap.size+1) d t:=by
 refine⟨((Below.refl _ _).alloc (aG _) _).alloc (by simp) _,(dK w c s).more _,?_⟩;have h:=dK (w.alloc (.cells c s)) d t;simpa using h
theorem qz:∀ (l:List Id) (x:Id),-1<=fC l x
 | [],_=>by simp [fC]
 | a::l,x=>by
  unfold fC;have:=qz l x
  split
  ·omega
  ·split <;> omega
end Bk
namespace Rg
open Go.RowKit
end Rg
namespace Rg
open Go.RowKit
theorem jo {P:Program} (ρ:aI->O) (o:Oper) (t:aK) (parts:Array (Nat×aI)) (ho:o.op=.build t parts) {ps:Array (Nat×O)} (hp:parts.map (fun x=>(x.1,ρ x.2))=ps) {v:O} {w:V} (hr:(Instr.build t ps).run P w=.ok v w) :
  (execOp ρ o).run P w=.ok (.value v) w:=by
 subst hp;simp [execOp,ho,hr,Result.andThen]
theorem JJ {P:Program} (ρ:aI->O) (o:Oper) (t:aK) (x y:aI) (ho:o.op=.store t x y) {w w':V} (hr:(aM t (ρ x) (ρ y)).run P w=.ok () w') :
  (execOp ρ o).run P w=.ok .skip w':=by
 simp [execOp,ho,hr,Result.andThen]
theorem gN {P:Program} {ops:Array Oper} {Q:Exit->Act->V->Prop} {K:Act->V->Prop} {a:Act} {w w':V} {i:Nat} {o:Oper} (t:aK) (x y:aI) {p v:O}
  (ho:ops[i]?=X o) (hg:o.guard=ak) (hop:o.op=.store t x y) (hd:o.dst=ak) (hx:a.eval x=p) (hy:a.eval y=v) (hr:(aM t p v).run P w=.ok () w') (h:K a w'):wpOp P ops Q i K a w:=by
 refine Nh ho hg (JJ a.eval o t x y hop (by rw [hx,hy]; exact hr)) ?_;rw [hd];exact h
def za (l:List Oper) (i:Nat):List Nat:=match l[i]? with
 | some o=>(o.after.toList.filter fun e=>ay .any e).map fun e=>e.on
 | none=>[]
def C9 (l:List Oper):Nat->List Nat->List Nat
 | 0,s=>s
 | n+1,s=>C9 l n (s++s.flatMap (za l))
theorem E8 {l:List Oper} {D:Nat->Prop} {i:Nat} (h:∀ o,l[i]?=X o->∀ e∈o.after,ay .any e=true->D e.on):∀ j∈za l i,D j:=by
 intro j hj;unfold za at hj;cases ho:l[i]? with
 | none=>rw [ho] at hj; cases hj
 | some o =>
  rw [ho] at hj;obtain⟨e,he,rfl⟩:=List.mem_map.1 hj;obtain⟨h1,h2⟩:=List.mem_filter.1 he;exact h o ho e (Array.mem_toList_iff.1 h1) h2
theorem Ae {l:List Oper} {D:Nat->Prop} (hc:∀ j o,D j->l[j]?=X o->∀ e∈o.after,ay .any e=true->D e.on):∀ n s,(∀ j∈s,D j)->∀ j∈C9 l n s,D j
 | 0,_,hs=>hs
 | n+1,s,hs=>Ae hc n _ fun j hj=>by
  rcases List.mem_append.1 hj with h|h
  ·exact hs j h
  ·obtain⟨i,hi,hd⟩:=List.mem_flatMap.1 h;exact E8 (fun o ho=>hc i o (hs i hi) ho) j hd
theorem nu {l:List Oper} {M:Nat} (n:Nat) (h:(List.range M).all (fun i=>(C9 l n (za l M)).contains i)=true) (D:Nat->Prop) (hc:∀ j o,D j->l[j]?=X o->∀ e∈o.after,ay .any e=true->D e.on) (hm:∀ o,l[M]?=X o->∀ e∈o.after,ay .any e=true->D e.on):∀ i,i<M->D i:=by
 intro i hi;have h2:=List.all_eq_true.1 h i (List.mem_range.2 hi);exact Ae hc n _ (E8 hm) i (List.contains_iff_mem.1 h2)
theorem Af {P:Program} (ρ:aI->O) (o:Oper) (t:aK) (ho:o.op=.alloc t) {v:O} {w w':V} (hr:(Instr.alloc t true (.tuple #[])).run P w=.ok v w'):(execOp ρ o).run P w=.ok (.value v) w':=by
 simp [execOp,ho,hr,Result.andThen]
end Rg
namespace Rw
open Go.RowKit
theorem kG {α:Type} {E:Ek α} (K:E.Ok) {w:V} (B:Nat) {g:Nat} {x:O} {m:List α} (jk:dx w g #[] E.t) (hBg:B<=g) (hx:Row E w x m) (hm:m.length<=1000) (ty:aK) :
  ∃ v' w',(Builtin.append_ #[E.ts,E.ts] ty #[Z (X ⟨g,0,ak⟩) 0 0,x]).run Y w=.ok v' w'/\Own E w' B v' m/\Below w.heap.size w w':=by
 have ho:Own E w B (Z (X ⟨g,0,ak⟩) 0 0) ([]:List α):=jR K rfl hBg jk (aG _) (Nat.zero_le _) (by simp) (by simp [flat]);have hl:=jk.lt;obtain⟨v',w',r,o',gr⟩:=jO K B ho hx (by simp) hm (by omega) ty;refine⟨v',w',r,by simpa using o',?_⟩;obtain⟨i,i1,i2,i3,i4⟩:=K.info;rcases hx with⟨rfl,rfl⟩|⟨ad,c,rfl,h2,h3,h4⟩
 ·have r2:=run_append_owned_none (P:=Y) (w:=w) B E.ts ty E.t i E.n K.hu i1 _ _ _ ho;rw [r2] at r;injection r with _ e
  rw [<- e];exact Below.refl _ _
 ·rcases Nat.eq_zero_or_pos m.length with h0|h0
  ·have r2:=run_append_room (P:=Y) (w:=w) E.ts ty E.t i K.hu i1 g 0 0 #[] jk ad m.length c (flat E m) (by rw [dz K,i3]) h4 (jG K m) (by omega) (by rw [dz K,h0]; simp);rw [r2] at r;injection r with _ e
   rw [<- e];have hf:flat E m=[]:=List.eq_nil_of_length_eq_zero (by rw [dz K,h0]; simp);have hs:=dx.set jk ((#[]:Array O).toList.take (0 * i.size)++flat E m++(#[]:Array O).toList.drop (0 * i.size+(flat E m).length)).toArray;refine⟨rfl,rfl,rfl,by simp [World.setRow],fun k hk=>?_⟩;by_cases hkg:k=g
   ·subst hkg;refine hs.trans ?_;rw [hf];simpa using jk.symm
   ·exact setRow_other w g k _ hkg
  ·have r2:=run_append_grow (P:=Y) (w:=w) E.ts ty E.t i E.z K.hu i1 i2 ⟨g,0,ak⟩ 0 0 [] (by simp) (fun j v h=>by simp at h) ad m.length c (flat E m) (by rw [dz K,i3]) h4 (by omega) (by omega) (by
    rw [aO,nextslicecap_zero h0,i4];exact aP (Nat.mul_le_mul hm K.few) (by decide))
   rw [r2] at r;injection r with _ e
   rw [<- e];exact (Below.refl _ _).drew.alloc (aG _) _
end Rw
namespace Bk
open Go.RowKit Rw
theorem dH {α:Type} {E:Ek α} {W:V} {B C:Nat} {v:O} {l:List α} (h:Own E W B v l) (hc:C<=B):Own E W C v l:=by
 refine⟨h.1,?_⟩;rcases h.2 with h2|⟨g,cap,cur,h1,h2,h3⟩
 ·exact Or.inl h2
 ·exact Or.inr ⟨g,cap,cur,h1,aP hc h2,h3⟩
theorem dI {α:Type} {E:Ek α} {W W':V} {B:Nat} {v:O} {l:List α} (h:Own E W B v l) (hb:Below W.heap.size W W'):Own E W' B v l :=
 h.kept (w':=W') (row:=ak) ⟨hb.os,hb.tape,hb.output,hb.size,fun k hk _=>hb.block k hk⟩ (by cases v.ownBlock <;> simp)
theorem dZ {α:Type} {E:Ek α} {W:V} {B:Nat} {v:O} {l:List α} (h:Own E W B v l) (b k:Nat) (x:O) (hb:b<B):Own E (W.setCell ⟨b,k,ak⟩ x) B v l :=
 h.kept (w':=W.setCell ⟨b,k,ak⟩ x) (row:=X b) ⟨rfl,rfl,rfl,by simp [World.setCell],fun j _ hne=>RowKit.Below.heap_setCell _ _ _ _ (fun e=>hne (by rw [e]))⟩ (by
  cases hv:v.ownBlock with
  | none=>exact Or.inl rfl
  | some j =>
   refine Or.inr fun e=>?_;injection e with e
   have h1:=(h.lt j hv).1;omega)
theorem dY {W:V} {rb k:Nat} {cs:Array O} {t:aK} (h:dx W rb cs t) (x:O):dx (W.setCell ⟨rb,k,ak⟩ x) rb (cs.setIfInBounds k x) t:=heap_setCell_same W rb k cs t x h
end Bk
namespace At
open Go.RowKit Va
abbrev A4:=ByteArray×Bool×Int×ByteArray
abbrev av (x:A4):O:=aH #[.string x.1,aN x.2.1,J L x.2.2.1,.string x.2.2.2]
end At
namespace Rl
open Go.RowKit Pu Pr
theorem GJ {a b:List Cn} (ha:gU a) (h5:a.length<=5):uj (a++b)=iL a.length a b:=by
 have e:=Gp a ha h5;rw [uj] at e;rw [uj,sO a b [] a 0 e,aO]
end Rl
namespace Rl
open Go.RowKit Pu Rw Pr
end Rl
namespace Pr
open Go.RowKit Go.ChangeShapes Go.WideShapes In
theorem Rj:Tryz.prog.cellsOf 52=2:=by kernel_rfl
theorem Nn:Tryz.prog.cellsOf 24=1:=by kernel_rfl
end Pr
end Go.Proofs.YtghlpefopidlaaaGreat
