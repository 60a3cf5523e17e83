/-
  Rows of IDs, of adve. Conditions as told.
-/
import Derived.Test.YtkcfgbddlpomgaaGreatDQ001
import Derived.Test.YtkcfgbddlpomgaaGreatDQ005
set_option maxRecDepth 100000
set_option maxHeartbeats 64000000
open _root_.Go renaming World->O,Value->Q,Addr->aC
open Go.Addr renaming add->K
open Go.Instr renaming indexAt->au,loadAt->ay
open Go.IntKind renaming i64->J
open Go.Proofs.Tryz renaming prog->X
open Go.Value renaming int->D,slice->U,pointer->ah,agg->aD,bool->aF
open _root_.List renaming not_mem_nil->Y,mem_cons->ak,length_cons->aB
open _root_.Option renaming some->L,map_some->Z,none->aA
open Option.some renaming injEq->V
open Prod.mk renaming injEq->aj
namespace Go.Proofs.YtkcfgbddlpomgaaGreat.Bk
open Go.RowKit Rw YtkcfgbddlpomgaaGreat.Nm Pr
abbrev Sl:=Option aC×Nat×Nat
abbrev dR (s:Sl):Q:=U s.1 s.2.1 s.2.2
abbrev Id:=Int×Int
abbrev eO:=Id
abbrev jm (x:eO):List Q:=[D J x.1,D J x.2]
abbrev Qj (x:eO):Q:=aD #[D J x.1,D J x.2]
def EJ:Ek eO:=⟨38,29,2,16,aD #[D J 0,D J 0],Qj,jm⟩
theorem acK:(Tryz.prog.info? 38).map (fun i=>(i.zero,i.size,i.bytes))=L (L (aD #[D J 0,D J 0]),2,16):=by kernel_rfl
theorem Bz (w:O) (p:aC) (x:eO) (h:∀ j u,(jm x)[j]?=L u->w.cell? (p.add j)=L u):(ay 38 (ah (L p))).run X w=.ok (Qj x) w:=by
 have h0:=h 0 _ rfl;have h1:=h 1 _ rfl;simp [K] at h0 h1;simp [go_sem,h0,h1]
theorem yD:EJ.Ok where
 hu:=Tryz.underlying29
 info:=by
  have h:=acK;cases hi:Tryz.prog.info? 38 with
  | none=>rw [hi] at h; cases h
  | some i =>
   rw [hi] at h;simp only [Z,V,aj] at h;exact⟨i,hi,h.1,h.2.1,h.2.2⟩
 zs:=rfl
 len:=fun _=>rfl
 one:=fun x u hu=>by
  simp only [EJ,jm,ak,Y,or_false] at hu;rcases hu with rfl|rfl <;> rfl
 pos:=by decide
 few:=by decide
 load:=fun w p x h=>Bz w p x h
abbrev vV (W:O) (v:Q) (l:List eO):Prop:=Row EJ W v l
abbrev qB (W:O) (B:Nat) (v:Q) (l:List eO):Prop:=Own EJ W B v l
theorem elJ {W:O} {v:Q} {l:List eO} {ao:Option aC} {n c k:Nat} {x:eO} (h:vV W v l) (hv:v=U ao n c) (hn:l.length=n) (hk:l[k]?=L x) :
  ∃ p:aC,(∀ w,(au 29 (U ao n c) (D J k)).run X w=.ok (ah (L p)) w)/\∀ w,Below W.heap.size W w->w.cell? p=L (D J x.1)/\w.cell? ⟨p.block,p.off+1,aA⟩=L (D J x.2):=by
 obtain⟨p,h1,_,h2⟩:=mR yD h hv hn hk;exact⟨p,h1,fun w hw=>⟨by simpa [K] using h2 w hw 0 _ rfl,by simpa [K] using h2 w hw 1 _ rfl⟩⟩
abbrev jD:=Int×Int×Sl×Int
abbrev cellsD (x:jD):List Q:=[D J x.1,D J x.2.1,dR x.2.2.1,D J x.2.2.2]
abbrev lV (x:jD):Q:=aD #[D J x.1,D J x.2.1,dR x.2.2.1,D J x.2.2.2]
def ED:Ek jD:=⟨53,28,4,48,aD #[D J 0,D J 0,U aA 0 0,D J 0],lV,cellsD⟩
theorem acL:(Tryz.prog.info? 53).map (fun i=>(i.zero,i.size,i.bytes))=L (L (aD #[D J 0,D J 0,U aA 0 0,D J 0]),4,48):=by kernel_rfl
theorem Qk (w:O) (p:aC) (x:jD) (h:∀ j u,(cellsD x)[j]?=L u->w.cell? (p.add j)=L u):(ay 53 (ah (L p))).run X w=.ok (lV x) w:=by
 have h0:=h 0 _ rfl;have h1:=h 1 _ rfl;have h2:=h 2 _ rfl;have h3:=h 3 _ rfl;simp [K] at h0 h1 h2 h3;simp [go_sem,h0,h1,h2,h3]
theorem okD:ED.Ok where
 hu:=Tryz.underlying28
 info:=by
  have h:=acL;cases hi:Tryz.prog.info? 53 with
  | none=>rw [hi] at h; cases h
  | some i =>
   rw [hi] at h;simp only [Z,V,aj] at h;exact⟨i,hi,h.1,h.2.1,h.2.2⟩
 zs:=rfl
 len:=fun _=>rfl
 one:=fun x u hu=>by
  simp only [ED,cellsD,ak,Y,or_false] at hu;rcases hu with rfl|rfl|rfl|rfl <;> rfl
 pos:=by decide
 few:=by decide
 load:=fun w p x h=>Qk w p x h
abbrev uI (W:O) (v:Q) (l:List jD):Prop:=Row ED W v l
abbrev kQ (W:O) (B:Nat) (v:Q) (l:List jD):Prop:=Own ED W B v l
theorem VQ {W:O} {v:Q} {l:List jD} {ao:Option aC} {n c k:Nat} {x:jD} (h:uI W v l) (hv:v=U ao n c) (hn:l.length=n) (hk:l[k]?=L x) :
  ∃ p:aC,(∀ w,(au 28 (U ao n c) (D J k)).run X w=.ok (ah (L p)) w)/\∀ w,Below W.heap.size W w->w.cell? p=L (D J x.1)/\w.cell? ⟨p.block,p.off+1,aA⟩=L (D J x.2.1)/\w.cell? ⟨p.block,p.off+2,aA⟩=L (dR x.2.2.1)/\w.cell? ⟨p.block,p.off+3,aA⟩=L (D J x.2.2.2):=by
 obtain⟨p,h1,_,h2⟩:=mR okD h hv hn hk;exact⟨p,h1,fun w hw=>⟨by simpa [K] using h2 w hw 0 _ rfl,by simpa [K] using h2 w hw 1 _ rfl,by simpa [K] using h2 w hw 2 _ rfl,by simpa [K] using h2 w hw 3 _ rfl⟩⟩
abbrev iA:=Int×Int×Int×Int×Sl×Int×Bool
abbrev iG (x:iA):List Q:=[D J x.1,D J x.2.1,D J x.2.2.1,D J x.2.2.2.1,dR x.2.2.2.2.1,D J x.2.2.2.2.2.1,aF x.2.2.2.2.2.2]
abbrev qR (x:iA):Q:=aD #[D J x.1,D J x.2.1,D J x.2.2.1,D J x.2.2.2.1,dR x.2.2.2.2.1,D J x.2.2.2.2.2.1,aF x.2.2.2.2.2.2]
def EN:Ek iA:=⟨68,30,7,72,aD #[D J 0,D J 0,D J 0,D J 0,U aA 0 0,D J 0,aF false],qR,iG⟩
theorem acM:(Tryz.prog.info? 68).map (fun i=>(i.zero,i.size,i.bytes))=L (L (aD #[D J 0,D J 0,D J 0,D J 0,U aA 0 0,D J 0,aF false]),7,72):=by kernel_rfl
theorem X6 (w:O) (p:aC) (x:iA) (h:∀ j u,(iG x)[j]?=L u->w.cell? (p.add j)=L u):(ay 68 (ah (L p))).run X w=.ok (qR x) w:=by
 have h0:=h 0 _ rfl;have h1:=h 1 _ rfl;have h2:=h 2 _ rfl;have h3:=h 3 _ rfl;have h4:=h 4 _ rfl;have h5:=h 5 _ rfl;have h6:=h 6 _ rfl;simp [K] at h0 h1 h2 h3 h4 h5 h6;simp [go_sem,h0,h1,h2,h3,h4,h5,h6]
theorem mY:EN.Ok where
 hu:=Tryz.underlying30
 info:=by
  have h:=acM;cases hi:Tryz.prog.info? 68 with
  | none=>rw [hi] at h; cases h
  | some i =>
   rw [hi] at h;simp only [Z,V,aj] at h;exact⟨i,hi,h.1,h.2.1,h.2.2⟩
 zs:=rfl
 len:=fun _=>rfl
 one:=fun x u hu=>by
  simp only [EN,iG,ak,Y,or_false] at hu;rcases hu with rfl|rfl|rfl|rfl|rfl|rfl|rfl <;> rfl
 pos:=by decide
 few:=by decide
 load:=fun w p x h=>X6 w p x h
abbrev jZ (W:O) (v:Q) (l:List iA):Prop:=Row EN W v l
abbrev jg (W:O) (B:Nat) (v:Q) (l:List iA):Prop:=Own EN W B v l
theorem P7 {W:O} {v:Q} {l:List iA} {ao:Option aC} {n c k:Nat} {x:iA} (h:jZ W v l) (hv:v=U ao n c) (hn:l.length=n) (hk:l[k]?=L x) :
  ∃ p:aC,(∀ w,(au 30 (U ao n c) (D J k)).run X w=.ok (ah (L p)) w)/\∀ w,Below W.heap.size W w->w.cell? p=L (D J x.1)/\w.cell? ⟨p.block,p.off+1,aA⟩=L (D J x.2.1)/\w.cell? ⟨p.block,p.off+2,aA⟩=L (D J x.2.2.1)/\w.cell? ⟨p.block,p.off+3,aA⟩=L (D J x.2.2.2.1)/\w.cell? ⟨p.block,p.off+4,aA⟩=L (dR x.2.2.2.2.1)/\w.cell? ⟨p.block,p.off+5,aA⟩=L (D J x.2.2.2.2.2.1)/\w.cell? ⟨p.block,p.off+6,aA⟩=L (aF x.2.2.2.2.2.2):=by
 obtain⟨p,h1,_,h2⟩:=mR mY h hv hn hk;exact⟨p,h1,fun w hw=>⟨by simpa [K] using h2 w hw 0 _ rfl,by simpa [K] using h2 w hw 1 _ rfl,by simpa [K] using h2 w hw 2 _ rfl,by simpa [K] using h2 w hw 3 _ rfl,by simpa [K] using h2 w hw 4 _ rfl,by simpa [K] using h2 w hw 5 _ rfl,by simpa [K] using h2 w hw 6 _ rfl⟩⟩
abbrev qM:=Int×Int×Sl
abbrev tZ (x:qM):List Q:=[D J x.1,D J x.2.1,dR x.2.2]
abbrev Ql (x:qM):Q:=aD #[D J x.1,D J x.2.1,dR x.2.2]
def EW:Ek qM:=⟨61,31,3,40,aD #[D J 0,D J 0,U aA 0 0],Ql,tZ⟩
theorem acN:(Tryz.prog.info? 61).map (fun i=>(i.zero,i.size,i.bytes))=L (L (aD #[D J 0,D J 0,U aA 0 0]),3,40):=by kernel_rfl
theorem acO (w:O) (p:aC) (x:qM) (h:∀ j u,(tZ x)[j]?=L u->w.cell? (p.add j)=L u):(ay 61 (ah (L p))).run X w=.ok (Ql x) w:=by
 have h0:=h 0 _ rfl;have h1:=h 1 _ rfl;have h2:=h 2 _ rfl;simp [K] at h0 h1 h2;simp [go_sem,h0,h1,h2]
theorem okW:EW.Ok where
 hu:=Tryz.underlying31
 info:=by
  have h:=acN;cases hi:Tryz.prog.info? 61 with
  | none=>rw [hi] at h; cases h
  | some i =>
   rw [hi] at h;simp only [Z,V,aj] at h;exact⟨i,hi,h.1,h.2.1,h.2.2⟩
 zs:=rfl
 len:=fun _=>rfl
 one:=fun x u hu=>by
  simp only [EW,tZ,ak,Y,or_false] at hu;rcases hu with rfl|rfl|rfl <;> rfl
 pos:=by decide
 few:=by decide
 load:=fun w p x h=>acO w p x h
abbrev Nf (W:O) (v:Q) (l:List qM):Prop:=Row EW W v l
abbrev oN (W:O) (B:Nat) (v:Q) (l:List qM):Prop:=Own EW W B v l
theorem elW {W:O} {v:Q} {l:List qM} {ao:Option aC} {n c k:Nat} {x:qM} (h:Nf W v l) (hv:v=U ao n c) (hn:l.length=n) (hk:l[k]?=L x) :
  ∃ p:aC,(∀ w,(au 31 (U ao n c) (D J k)).run X w=.ok (ah (L p)) w)/\∀ w,Below W.heap.size W w->w.cell? p=L (D J x.1)/\w.cell? ⟨p.block,p.off+1,aA⟩=L (D J x.2.1)/\w.cell? ⟨p.block,p.off+2,aA⟩=L (dR x.2.2):=by
 obtain⟨p,h1,_,h2⟩:=mR okW h hv hn hk;exact⟨p,h1,fun w hw=>⟨by simpa [K] using h2 w hw 0 _ rfl,by simpa [K] using h2 w hw 1 _ rfl,by simpa [K] using h2 w hw 2 _ rfl⟩⟩
structure Ad where
 id:Id
 p:List C5
 par:Int
structure En where
 tree:Id
 sub:Id
 p:List C5
 from_:Int
 up:Bool
structure Ow where
 id:Id
 p:List C5
structure Br where
 me:Int
 near:List Int
 dO:List Ad
 seen:List Id
 ent:List En
 own:List Ow
def uJ (W:O) (x:jD) (a:Ad):Prop:=(x.1,x.2.1)=a.id/\x.2.2.2=a.par/\fK W (dR x.2.2.1) a.p
def iW (W:O) (x:iA) (a:En):Prop:=(x.1,x.2.1)=a.tree/\(x.2.2.1,x.2.2.2.1)=a.sub/\x.2.2.2.2.2.1=a.from_/\x.2.2.2.2.2.2=a.up/\fK W (dR x.2.2.2.2.1) a.p
def D8 (W:O) (x:qM) (a:Ow):Prop:=(x.1,x.2.1)=a.id/\fK W (dR x.2.2) a.p
theorem uJ.on {W W':O} {x:jD} {a:Ad} (h:uJ W x a) (hb:Below W.heap.size W W'):uJ W' x a:=⟨h.1,h.2.1,h.2.2.on hb⟩
theorem iW.on {W W':O} {x:iA} {a:En} (h:iW W x a) (hb:Below W.heap.size W W'):iW W' x a:=⟨h.1,h.2.1,h.2.2.1,h.2.2.2.1,h.2.2.2.2.on hb⟩
theorem D8.on {W W':O} {x:qM} {a:Ow} (h:D8 W x a) (hb:Below W.heap.size W W'):D8 W' x a:=⟨h.1,h.2.on hb⟩
inductive eB {α β:Type} (R:α->β->Prop):List α->List β->Prop
 | nil:eB R [] []
 | cons {a b l m} (h:R a b) (t:eB R l m):eB R (a::l) (b::m)
theorem eB.mono {α β:Type} {R S:α->β->Prop} (h:∀ a b,R a b->S a b):∀ {l m},eB R l m->eB S l m
 | _,_,.nil=>.nil
 | _,_,.cons x t=>.cons (h _ _ x) (t.mono h)
theorem eB.len {α β:Type} {R:α->β->Prop}:∀ {l m},eB R l m->l.length=m.length
 | _,_,.nil=>rfl
 | _,_,.cons _ t=>by rw [aB,aB,t.len]
theorem eB.at {α β:Type} {R:α->β->Prop}:∀ {l m} (_:eB R l m) (k:Nat) (b:β),m[k]?=L b->∃ a,l[k]?=L a/\R a b
 | _,_,.nil,k,b,h=>by simp at h
 | _,_,.cons x t,0,b,h=>by
  simp at h;subst h;exact⟨_,rfl,x⟩
 | _,_,.cons x t,k+1,b,h=>by
  obtain⟨a,h1,h2⟩:=t.at k b (by simpa using h);exact⟨a,by simpa using h1,h2⟩
theorem eB.append {α β:Type} {R:α->β->Prop}:∀ {l m l' m'},eB R l m->eB R l' m'->eB R (l++l') (m++m')
 | _,_,_,_,.nil,h=>h
 | _,_,_,_,.cons x t,h=>.cons x (t.append h)
theorem eB.take {α β:Type} {R:α->β->Prop}:∀ {l m} (k:Nat),eB R l m->eB R (l.take k) (m.take k)
 | _,_,0,_=>by simp only [List.take_zero]; exact .nil
 | _,_,k+1,.nil=>by simp only [List.take_nil]; exact .nil
 | _,_,k+1,.cons x t=>.cons x (t.take k)
theorem eB.drop {α β:Type} {R:α->β->Prop}:∀ {l m} (k:Nat),eB R l m->eB R (l.drop k) (m.drop k)
 | _,_,0,h=>h
 | _,_,_k+1,.nil=>.nil
 | _,_,k+1,.cons _ t=>t.drop k
structure gZ (W:O) (b:Br) (nv av sv ev ov:Sl):Prop where
 near:q8 W (dR nv) b.near
 dO:∃ l,uI W (dR av) l/\eB (uJ W) l b.dO
 seen:vV W (dR sv) b.seen
 ent:∃ l,jZ W (dR ev) l/\eB (iW W) l b.ent
 own:∃ l,Nf W (dR ov) l/\eB (D8 W) l b.own
theorem gZ.on {W W':O} {b:Br} {nv av sv ev ov:Sl} (h:gZ W b nv av sv ev ov) (hb:Below W.heap.size W W'):gZ W' b nv av sv ev ov where
 near:=h.near.on hb
 dO:=by obtain⟨l,h1,h2⟩:=h.dO; exact⟨l,h1.on hb,h2.mono fun _ _ h=>h.on hb⟩
 seen:=h.seen.on hb
 ent:=by obtain⟨l,h1,h2⟩:=h.ent; exact⟨l,h1.on hb,h2.mono fun _ _ h=>h.on hb⟩
 own:=by obtain⟨l,h1,h2⟩:=h.own; exact⟨l,h1.on hb,h2.mono fun _ _ h=>h.on hb⟩
abbrev ny (me:Int) (nv av sv ev ov:Sl):Q:=aD #[D J me,dR nv,dR av,dR sv,dR ev,dR ov]
abbrev iw (me:Int) (nv av sv ev ov:Sl):Array Q:=#[D J me,dR nv,dR av,dR sv,dR ev,dR ov]
def eu (a b:Id):Bool:=decide (a.1<b.1) || (a.1 == b.1 && decide (a.2<b.2))
def fG:List Id->Id->Int
 | [],_=>-1
 | a::l,x=>if a=x then 0 else if fG l x=-1 then -1 else fG l x+1
def fH (l:List Id) (x:Id):Nat:=(l.takeWhile fun a=>eu a x).length
end Go.Proofs.YtkcfgbddlpomgaaGreat.Bk
