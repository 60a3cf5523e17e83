/-
  Rows of IDs, of adve. Conditions as told.
-/
import Derived.Test.YtkcfgbddlpomgaaGreatLQ001
import Derived.Test.YtkcfgbddlpomgaaGreatLQ005
set_option maxRecDepth 100000
set_option maxHeartbeats 64000000
open _root_.Go renaming World->O,Value->Q,Addr->aC
open Go.Addr renaming add->K
open Go.Instr renaming indexAt->au,loadAt->ay
open Go.IntKind renaming i64->J
open Go.Proofs.Tryz renaming prog->X
open Go.Value renaming int->D,slice->U,pointer->ah,agg->aD,bool->aF
open _root_.List renaming not_mem_nil->Y,mem_cons->ak,length_cons->aB
open _root_.Option renaming some->L,map_some->Z,none->aA
open Option.some renaming injEq->V
open Prod.mk renaming injEq->aj
namespace Go.Proofs.YtkcfgbddlpomgaaGreat.Bk
open Go.RowKit Rw YtkcfgbddlpomgaaGreat.Nm Pr
abbrev Sl:=Option aC×Nat×Nat
abbrev dP (s:Sl):Q:=U s.1 s.2.1 s.2.2
abbrev Id:=Int×Int
abbrev eG:=Id
abbrev jk (x:eG):List Q:=[D J x.1,D J x.2]
abbrev P5 (x:eG):Q:=aD #[D J x.1,D J x.2]
def EJ:Ek eG:=⟨38,29,2,16,aD #[D J 0,D J 0],P5,jk⟩
theorem acf:(Tryz.prog.info? 38).map (fun i=>(i.zero,i.size,i.bytes))=L (L (aD #[D J 0,D J 0]),2,16):=by kernel_rfl
theorem Bb (w:O) (p:aC) (x:eG) (h:∀ j u,(jk x)[j]?=L u->w.cell? (p.add j)=L u):(ay 38 (ah (L p))).run X w=.ok (P5 x) w:=by
 have h0:=h 0 _ rfl;have h1:=h 1 _ rfl;simp [K] at h0 h1;simp [go_sem,h0,h1]
theorem Ah:EJ.Ok where
 hu:=Tryz.underlying29
 info:=by
  have h:=acf;cases hi:Tryz.prog.info? 38 with
  | none=>rw [hi] at h; cases h
  | some i =>
   rw [hi] at h;simp only [Z,V,aj] at h;exact⟨i,hi,h.1,h.2.1,h.2.2⟩
 zs:=rfl
 len:=fun _=>rfl
 one:=fun x u hu=>by
  simp only [EJ,jk,ak,Y,or_false] at hu;rcases hu with rfl|rfl <;> rfl
 pos:=by decide
 few:=by decide
 load:=fun w p x h=>Bb w p x h
abbrev vM (W:O) (v:Q) (l:List eG):Prop:=Row EJ W v l
abbrev qY (W:O) (B:Nat) (v:Q) (l:List eG):Prop:=Own EJ W B v l
theorem elJ {W:O} {v:Q} {l:List eG} {ao:Option aC} {n c k:Nat} {x:eG} (h:vM W v l) (hv:v=U ao n c) (hn:l.length=n) (hk:l[k]?=L x) :
  ∃ p:aC,(∀ w,(au 29 (U ao n c) (D J k)).run X w=.ok (ah (L p)) w)/\∀ w,Below W.heap.size W w->w.cell? p=L (D J x.1)/\w.cell? ⟨p.block,p.off+1,aA⟩=L (D J x.2):=by
 obtain⟨p,h1,_,h2⟩:=kX Ah h hv hn hk;exact⟨p,h1,fun w hw=>⟨by simpa [K] using h2 w hw 0 _ rfl,by simpa [K] using h2 w hw 1 _ rfl⟩⟩
abbrev jC:=Int×Int×Sl×Int
abbrev cellsD (x:jC):List Q:=[D J x.1,D J x.2.1,dP x.2.2.1,D J x.2.2.2]
abbrev lU (x:jC):Q:=aD #[D J x.1,D J x.2.1,dP x.2.2.1,D J x.2.2.2]
def ED:Ek jC:=⟨53,28,4,48,aD #[D J 0,D J 0,U aA 0 0,D J 0],lU,cellsD⟩
theorem acg:(Tryz.prog.info? 53).map (fun i=>(i.zero,i.size,i.bytes))=L (L (aD #[D J 0,D J 0,U aA 0 0,D J 0]),4,48):=by kernel_rfl
theorem P6 (w:O) (p:aC) (x:jC) (h:∀ j u,(cellsD x)[j]?=L u->w.cell? (p.add j)=L u):(ay 53 (ah (L p))).run X w=.ok (lU x) w:=by
 have h0:=h 0 _ rfl;have h1:=h 1 _ rfl;have h2:=h 2 _ rfl;have h3:=h 3 _ rfl;simp [K] at h0 h1 h2 h3;simp [go_sem,h0,h1,h2,h3]
theorem okD:ED.Ok where
 hu:=Tryz.underlying28
 info:=by
  have h:=acg;cases hi:Tryz.prog.info? 53 with
  | none=>rw [hi] at h; cases h
  | some i =>
   rw [hi] at h;simp only [Z,V,aj] at h;exact⟨i,hi,h.1,h.2.1,h.2.2⟩
 zs:=rfl
 len:=fun _=>rfl
 one:=fun x u hu=>by
  simp only [ED,cellsD,ak,Y,or_false] at hu;rcases hu with rfl|rfl|rfl|rfl <;> rfl
 pos:=by decide
 few:=by decide
 load:=fun w p x h=>P6 w p x h
abbrev uE (W:O) (v:Q) (l:List jC):Prop:=Row ED W v l
abbrev kW (W:O) (B:Nat) (v:Q) (l:List jC):Prop:=Own ED W B v l
theorem Vu {W:O} {v:Q} {l:List jC} {ao:Option aC} {n c k:Nat} {x:jC} (h:uE W v l) (hv:v=U ao n c) (hn:l.length=n) (hk:l[k]?=L x) :
  ∃ p:aC,(∀ w,(au 28 (U ao n c) (D J k)).run X w=.ok (ah (L p)) w)/\∀ w,Below W.heap.size W w->w.cell? p=L (D J x.1)/\w.cell? ⟨p.block,p.off+1,aA⟩=L (D J x.2.1)/\w.cell? ⟨p.block,p.off+2,aA⟩=L (dP x.2.2.1)/\w.cell? ⟨p.block,p.off+3,aA⟩=L (D J x.2.2.2):=by
 obtain⟨p,h1,_,h2⟩:=kX okD h hv hn hk;exact⟨p,h1,fun w hw=>⟨by simpa [K] using h2 w hw 0 _ rfl,by simpa [K] using h2 w hw 1 _ rfl,by simpa [K] using h2 w hw 2 _ rfl,by simpa [K] using h2 w hw 3 _ rfl⟩⟩
abbrev iF:=Int×Int×Int×Int×Sl×Int×Bool
abbrev iG (x:iF):List Q:=[D J x.1,D J x.2.1,D J x.2.2.1,D J x.2.2.2.1,dP x.2.2.2.2.1,D J x.2.2.2.2.2.1,aF x.2.2.2.2.2.2]
abbrev qZ (x:iF):Q:=aD #[D J x.1,D J x.2.1,D J x.2.2.1,D J x.2.2.2.1,dP x.2.2.2.2.1,D J x.2.2.2.2.2.1,aF x.2.2.2.2.2.2]
def EN:Ek iF:=⟨68,30,7,72,aD #[D J 0,D J 0,D J 0,D J 0,U aA 0 0,D J 0,aF false],qZ,iG⟩
theorem ach:(Tryz.prog.info? 68).map (fun i=>(i.zero,i.size,i.bytes))=L (L (aD #[D J 0,D J 0,D J 0,D J 0,U aA 0 0,D J 0,aF false]),7,72):=by kernel_rfl
theorem XC (w:O) (p:aC) (x:iF) (h:∀ j u,(iG x)[j]?=L u->w.cell? (p.add j)=L u):(ay 68 (ah (L p))).run X w=.ok (qZ x) w:=by
 have h0:=h 0 _ rfl;have h1:=h 1 _ rfl;have h2:=h 2 _ rfl;have h3:=h 3 _ rfl;have h4:=h 4 _ rfl;have h5:=h 5 _ rfl;have h6:=h 6 _ rfl;simp [K] at h0 h1 h2 h3 h4 h5 h6;simp [go_sem,h0,h1,h2,h3,h4,h5,h6]
theorem nR:EN.Ok where
 hu:=Tryz.underlying30
 info:=by
  have h:=ach;cases hi:Tryz.prog.info? 68 with
  | none=>rw [hi] at h; cases h
  | some i =>
   rw [hi] at h;simp only [Z,V,aj] at h;exact⟨i,hi,h.1,h.2.1,h.2.2⟩
 zs:=rfl
 len:=fun _=>rfl
 one:=fun x u hu=>by
  simp only [EN,iG,ak,Y,or_false] at hu;rcases hu with rfl|rfl|rfl|rfl|rfl|rfl|rfl <;> rfl
 pos:=by decide
 few:=by decide
 load:=fun w p x h=>XC w p x h
abbrev kC (W:O) (v:Q) (l:List iF):Prop:=Row EN W v l
abbrev jA (W:O) (B:Nat) (v:Q) (l:List iF):Prop:=Own EN W B v l
theorem Px {W:O} {v:Q} {l:List iF} {ao:Option aC} {n c k:Nat} {x:iF} (h:kC W v l) (hv:v=U ao n c) (hn:l.length=n) (hk:l[k]?=L x) :
  ∃ p:aC,(∀ w,(au 30 (U ao n c) (D J k)).run X w=.ok (ah (L p)) w)/\∀ w,Below W.heap.size W w->w.cell? p=L (D J x.1)/\w.cell? ⟨p.block,p.off+1,aA⟩=L (D J x.2.1)/\w.cell? ⟨p.block,p.off+2,aA⟩=L (D J x.2.2.1)/\w.cell? ⟨p.block,p.off+3,aA⟩=L (D J x.2.2.2.1)/\w.cell? ⟨p.block,p.off+4,aA⟩=L (dP x.2.2.2.2.1)/\w.cell? ⟨p.block,p.off+5,aA⟩=L (D J x.2.2.2.2.2.1)/\w.cell? ⟨p.block,p.off+6,aA⟩=L (aF x.2.2.2.2.2.2):=by
 obtain⟨p,h1,_,h2⟩:=kX nR h hv hn hk;exact⟨p,h1,fun w hw=>⟨by simpa [K] using h2 w hw 0 _ rfl,by simpa [K] using h2 w hw 1 _ rfl,by simpa [K] using h2 w hw 2 _ rfl,by simpa [K] using h2 w hw 3 _ rfl,by simpa [K] using h2 w hw 4 _ rfl,by simpa [K] using h2 w hw 5 _ rfl,by simpa [K] using h2 w hw 6 _ rfl⟩⟩
abbrev qK:=Int×Int×Sl
abbrev tT (x:qK):List Q:=[D J x.1,D J x.2.1,dP x.2.2]
abbrev P7 (x:qK):Q:=aD #[D J x.1,D J x.2.1,dP x.2.2]
def EW:Ek qK:=⟨61,31,3,40,aD #[D J 0,D J 0,U aA 0 0],P7,tT⟩
theorem aci:(Tryz.prog.info? 61).map (fun i=>(i.zero,i.size,i.bytes))=L (L (aD #[D J 0,D J 0,U aA 0 0]),3,40):=by kernel_rfl
theorem acj (w:O) (p:aC) (x:qK) (h:∀ j u,(tT x)[j]?=L u->w.cell? (p.add j)=L u):(ay 61 (ah (L p))).run X w=.ok (P7 x) w:=by
 have h0:=h 0 _ rfl;have h1:=h 1 _ rfl;have h2:=h 2 _ rfl;simp [K] at h0 h1 h2;simp [go_sem,h0,h1,h2]
theorem okW:EW.Ok where
 hu:=Tryz.underlying31
 info:=by
  have h:=aci;cases hi:Tryz.prog.info? 61 with
  | none=>rw [hi] at h; cases h
  | some i =>
   rw [hi] at h;simp only [Z,V,aj] at h;exact⟨i,hi,h.1,h.2.1,h.2.2⟩
 zs:=rfl
 len:=fun _=>rfl
 one:=fun x u hu=>by
  simp only [EW,tT,ak,Y,or_false] at hu;rcases hu with rfl|rfl|rfl <;> rfl
 pos:=by decide
 few:=by decide
 load:=fun w p x h=>acj w p x h
abbrev I9 (W:O) (v:Q) (l:List qK):Prop:=Row EW W v l
abbrev pI (W:O) (B:Nat) (v:Q) (l:List qK):Prop:=Own EW W B v l
theorem elW {W:O} {v:Q} {l:List qK} {ao:Option aC} {n c k:Nat} {x:qK} (h:I9 W v l) (hv:v=U ao n c) (hn:l.length=n) (hk:l[k]?=L x) :
  ∃ p:aC,(∀ w,(au 31 (U ao n c) (D J k)).run X w=.ok (ah (L p)) w)/\∀ w,Below W.heap.size W w->w.cell? p=L (D J x.1)/\w.cell? ⟨p.block,p.off+1,aA⟩=L (D J x.2.1)/\w.cell? ⟨p.block,p.off+2,aA⟩=L (dP x.2.2):=by
 obtain⟨p,h1,_,h2⟩:=kX okW h hv hn hk;exact⟨p,h1,fun w hw=>⟨by simpa [K] using h2 w hw 0 _ rfl,by simpa [K] using h2 w hw 1 _ rfl,by simpa [K] using h2 w hw 2 _ rfl⟩⟩
structure Ad where
 id:Id
 p:List C5
 par:Int
structure En where
 tree:Id
 sub:Id
 p:List C5
 from_:Int
 up:Bool
structure Ow where
 id:Id
 p:List C5
structure Br where
 me:Int
 near:List Int
 dM:List Ad
 seen:List Id
 ent:List En
 own:List Ow
def vN (W:O) (x:jC) (a:Ad):Prop:=(x.1,x.2.1)=a.id/\x.2.2.2=a.par/\fK W (dP x.2.2.1) a.p
def je (W:O) (x:iF) (a:En):Prop:=(x.1,x.2.1)=a.tree/\(x.2.2.1,x.2.2.2.1)=a.sub/\x.2.2.2.2.2.1=a.from_/\x.2.2.2.2.2.2=a.up/\fK W (dP x.2.2.2.2.1) a.p
def Dr (W:O) (x:qK) (a:Ow):Prop:=(x.1,x.2.1)=a.id/\fK W (dP x.2.2) a.p
theorem vN.on {W W':O} {x:jC} {a:Ad} (h:vN W x a) (hb:Below W.heap.size W W'):vN W' x a:=⟨h.1,h.2.1,h.2.2.on hb⟩
theorem je.on {W W':O} {x:iF} {a:En} (h:je W x a) (hb:Below W.heap.size W W'):je W' x a:=⟨h.1,h.2.1,h.2.2.1,h.2.2.2.1,h.2.2.2.2.on hb⟩
theorem Dr.on {W W':O} {x:qK} {a:Ow} (h:Dr W x a) (hb:Below W.heap.size W W'):Dr W' x a:=⟨h.1,h.2.on hb⟩
inductive eu {α β:Type} (R:α->β->Prop):List α->List β->Prop
 | nil:eu R [] []
 | cons {a b l m} (h:R a b) (t:eu R l m):eu R (a::l) (b::m)
theorem eu.mono {α β:Type} {R S:α->β->Prop} (h:∀ a b,R a b->S a b):∀ {l m},eu R l m->eu S l m
 | _,_,.nil=>.nil
 | _,_,.cons x t=>.cons (h _ _ x) (t.mono h)
theorem eu.len {α β:Type} {R:α->β->Prop}:∀ {l m},eu R l m->l.length=m.length
 | _,_,.nil=>rfl
 | _,_,.cons _ t=>by rw [aB,aB,t.len]
theorem eu.at {α β:Type} {R:α->β->Prop}:∀ {l m} (_:eu R l m) (k:Nat) (b:β),m[k]?=L b->∃ a,l[k]?=L a/\R a b
 | _,_,.nil,k,b,h=>by simp at h
 | _,_,.cons x t,0,b,h=>by
  simp at h;subst h;exact⟨_,rfl,x⟩
 | _,_,.cons x t,k+1,b,h=>by
  obtain⟨a,h1,h2⟩:=t.at k b (by simpa using h);exact⟨a,by simpa using h1,h2⟩
theorem eu.append {α β:Type} {R:α->β->Prop}:∀ {l m l' m'},eu R l m->eu R l' m'->eu R (l++l') (m++m')
 | _,_,_,_,.nil,h=>h
 | _,_,_,_,.cons x t,h=>.cons x (t.append h)
theorem eu.take {α β:Type} {R:α->β->Prop}:∀ {l m} (k:Nat),eu R l m->eu R (l.take k) (m.take k)
 | _,_,0,_=>by simp only [List.take_zero]; exact .nil
 | _,_,k+1,.nil=>by simp only [List.take_nil]; exact .nil
 | _,_,k+1,.cons x t=>.cons x (t.take k)
theorem eu.drop {α β:Type} {R:α->β->Prop}:∀ {l m} (k:Nat),eu R l m->eu R (l.drop k) (m.drop k)
 | _,_,0,h=>h
 | _,_,_k+1,.nil=>.nil
 | _,_,k+1,.cons _ t=>t.drop k
structure iA (W:O) (b:Br) (nv av sv ev ov:Sl):Prop where
 near:qH W (dP nv) b.near
 dM:∃ l,uE W (dP av) l/\eu (vN W) l b.dM
 seen:vM W (dP sv) b.seen
 ent:∃ l,kC W (dP ev) l/\eu (je W) l b.ent
 own:∃ l,I9 W (dP ov) l/\eu (Dr W) l b.own
theorem iA.on {W W':O} {b:Br} {nv av sv ev ov:Sl} (h:iA W b nv av sv ev ov) (hb:Below W.heap.size W W'):iA W' b nv av sv ev ov where
 near:=h.near.on hb
 dM:=by obtain⟨l,h1,h2⟩:=h.dM; exact⟨l,h1.on hb,h2.mono fun _ _ h=>h.on hb⟩
 seen:=h.seen.on hb
 ent:=by obtain⟨l,h1,h2⟩:=h.ent; exact⟨l,h1.on hb,h2.mono fun _ _ h=>h.on hb⟩
 own:=by obtain⟨l,h1,h2⟩:=h.own; exact⟨l,h1.on hb,h2.mono fun _ _ h=>h.on hb⟩
abbrev nT (me:Int) (nv av sv ev ov:Sl):Q:=aD #[D J me,dP nv,dP av,dP sv,dP ev,dP ov]
abbrev iX (me:Int) (nv av sv ev ov:Sl):Array Q:=#[D J me,dP nv,dP av,dP sv,dP ev,dP ov]
def dZ (a b:Id):Bool:=decide (a.1<b.1) || (a.1 == b.1 && decide (a.2<b.2))
def fD:List Id->Id->Int
 | [],_=>-1
 | a::l,x=>if a=x then 0 else if fD l x=-1 then -1 else fD l x+1
def fF (l:List Id) (x:Id):Nat:=(l.takeWhile fun a=>dZ a x).length
end Go.Proofs.YtkcfgbddlpomgaaGreat.Bk
