/-
  Rows of IDs, of adve. Conditions as told.
-/
import Derived.Test.YtmklifheakemeaaVQ001
import Derived.Test.YtmklifheakemeaaVQ007
set_option maxRecDepth 100000
set_option maxHeartbeats 64000000
open _root_.Go renaming World->O,Value->Q,Addr->aD
open Go.Addr renaming add->K
open Go.Instr renaming loadAt->au,indexAt->ay
open Go.IntKind renaming i64->J
open Go.Proofs.Try renaming prog->aj
open Go.Value renaming int->D,slice->X,pointer->ak,agg->aC,bool->aF
open _root_.List renaming not_mem_nil->V,mem_cons->ah,length_cons->aB
open _root_.Option renaming some->L,map_some->Y,none->aA
open Option.some renaming injEq->U
open Prod.mk renaming injEq->Z
namespace Go.Proofs.Ytmklifheakemeaa.Bk
open Go.RowKit Rw Ytmklifheakemeaa.Nm Pr
abbrev Sl:=Option aD×Nat×Nat
abbrev dR (s:Sl):Q:=X s.1 s.2.1 s.2.2
abbrev Id:=Int×Int
abbrev eu:=Id
abbrev jk (x:eu):List Q:=[D J x.1,D J x.2]
abbrev Mh (x:eu):Q:=aC #[D J x.1,D J x.2]
def EJ:Ek eu:=⟨25,27,2,16,aC #[D J 0,D J 0],Mh,jk⟩
theorem Mi:(Try.prog.info? 25).map (fun i=>(i.zero,i.size,i.bytes))=L (L (aC #[D J 0,D J 0]),2,16):=by kernel_rfl
theorem EM (w:O) (p:aD) (x:eu) (h:∀ j u,(jk x)[j]?=L u->w.cell? (p.add j)=L u):(au 25 (ak (L p))).run aj w=.ok (Mh x) w:=by
 have h0:=h 0 _ rfl;have h1:=h 1 _ rfl;simp [K] at h0 h1;simp [go_sem,h0,h1]
theorem qY:EJ.Ok where
 hu:=Try.underlying27
 info:=by
  have h:=Mi;cases hi:Try.prog.info? 25 with
  | none=>rw [hi] at h; cases h
  | some i =>
   rw [hi] at h;simp only [Y,U,Z] at h;exact⟨i,hi,h.1,h.2.1,h.2.2⟩
 zs:=rfl
 len:=fun _=>rfl
 one:=fun x u hu=>by
  simp only [EJ,jk,ah,V,or_false] at hu;rcases hu with rfl|rfl <;> rfl
 pos:=by decide
 few:=by decide
 load:=fun w p x h=>EM w p x h
abbrev rT (W:O) (v:Q) (l:List eu):Prop:=Row EJ W v l
abbrev mG (W:O) (B:Nat) (v:Q) (l:List eu):Prop:=Own EJ W B v l
theorem Q6 {W:O} {v:Q} {l:List eu} {ao:Option aD} {n c k:Nat} {x:eu} (h:rT W v l) (hv:v=X ao n c) (hn:l.length=n) (hk:l[k]?=L x) :
  ∃ p:aD,(∀ w,(ay 27 (X ao n c) (D J k)).run aj w=.ok (ak (L p)) w)/\∀ w,Below W.heap.size W w->w.cell? p=L (D J x.1)/\w.cell? ⟨p.block,p.off+1,aA⟩=L (D J x.2):=by
 obtain⟨p,h1,_,h2⟩:=oK qY h hv hn hk;exact⟨p,h1,fun w hw=>⟨by simpa [K] using h2 w hw 0 _ rfl,by simpa [K] using h2 w hw 1 _ rfl⟩⟩
abbrev jr:=Int×Int×Sl×Int
abbrev cellsD (x:jr):List Q:=[D J x.1,D J x.2.1,dR x.2.2.1,D J x.2.2.2]
abbrev kL (x:jr):Q:=aC #[D J x.1,D J x.2.1,dR x.2.2.1,D J x.2.2.2]
def ED:Ek jr:=⟨37,26,4,48,aC #[D J 0,D J 0,X aA 0 0,D J 0],kL,cellsD⟩
theorem Mj:(Try.prog.info? 37).map (fun i=>(i.zero,i.size,i.bytes))=L (L (aC #[D J 0,D J 0,X aA 0 0,D J 0]),4,48):=by kernel_rfl
theorem JC (w:O) (p:aD) (x:jr) (h:∀ j u,(cellsD x)[j]?=L u->w.cell? (p.add j)=L u):(au 37 (ak (L p))).run aj w=.ok (kL x) w:=by
 have h0:=h 0 _ rfl;have h1:=h 1 _ rfl;have h2:=h 2 _ rfl;have h3:=h 3 _ rfl;simp [K] at h0 h1 h2 h3;simp [go_sem,h0,h1,h2,h3]
theorem okD:ED.Ok where
 hu:=Try.underlying26
 info:=by
  have h:=Mj;cases hi:Try.prog.info? 37 with
  | none=>rw [hi] at h; cases h
  | some i =>
   rw [hi] at h;simp only [Y,U,Z] at h;exact⟨i,hi,h.1,h.2.1,h.2.2⟩
 zs:=rfl
 len:=fun _=>rfl
 one:=fun x u hu=>by
  simp only [ED,cellsD,ah,V,or_false] at hu;rcases hu with rfl|rfl|rfl|rfl <;> rfl
 pos:=by decide
 few:=by decide
 load:=fun w p x h=>JC w p x h
abbrev Af (W:O) (v:Q) (l:List jr):Prop:=Row ED W v l
abbrev oL (W:O) (B:Nat) (v:Q) (l:List jr):Prop:=Own ED W B v l
theorem Pb {W:O} {v:Q} {l:List jr} {ao:Option aD} {n c k:Nat} {x:jr} (h:Af W v l) (hv:v=X ao n c) (hn:l.length=n) (hk:l[k]?=L x) :
  ∃ p:aD,(∀ w,(ay 26 (X ao n c) (D J k)).run aj w=.ok (ak (L p)) w)/\∀ w,Below W.heap.size W w->w.cell? p=L (D J x.1)/\w.cell? ⟨p.block,p.off+1,aA⟩=L (D J x.2.1)/\w.cell? ⟨p.block,p.off+2,aA⟩=L (dR x.2.2.1)/\w.cell? ⟨p.block,p.off+3,aA⟩=L (D J x.2.2.2):=by
 obtain⟨p,h1,_,h2⟩:=oK okD h hv hn hk;exact⟨p,h1,fun w hw=>⟨by simpa [K] using h2 w hw 0 _ rfl,by simpa [K] using h2 w hw 1 _ rfl,by simpa [K] using h2 w hw 2 _ rfl,by simpa [K] using h2 w hw 3 _ rfl⟩⟩
abbrev gM:=Int×Int×Int×Int×Sl×Int×Bool
abbrev gU (x:gM):List Q:=[D J x.1,D J x.2.1,D J x.2.2.1,D J x.2.2.2.1,dR x.2.2.2.2.1,D J x.2.2.2.2.2.1,aF x.2.2.2.2.2.2]
abbrev kX (x:gM):Q:=aC #[D J x.1,D J x.2.1,D J x.2.2.1,D J x.2.2.2.1,dR x.2.2.2.2.1,D J x.2.2.2.2.2.1,aF x.2.2.2.2.2.2]
def EN:Ek gM:=⟨43,28,7,72,aC #[D J 0,D J 0,D J 0,D J 0,X aA 0 0,D J 0,aF false],kX,gU⟩
theorem Mk:(Try.prog.info? 43).map (fun i=>(i.zero,i.size,i.bytes))=L (L (aC #[D J 0,D J 0,D J 0,D J 0,X aA 0 0,D J 0,aF false]),7,72):=by kernel_rfl
theorem Ml (w:O) (p:aD) (x:gM) (h:∀ j u,(gU x)[j]?=L u->w.cell? (p.add j)=L u):(au 43 (ak (L p))).run aj w=.ok (kX x) w:=by
 have h0:=h 0 _ rfl;have h1:=h 1 _ rfl;have h2:=h 2 _ rfl;have h3:=h 3 _ rfl;have h4:=h 4 _ rfl;have h5:=h 5 _ rfl;have h6:=h 6 _ rfl;simp [K] at h0 h1 h2 h3 h4 h5 h6;simp [go_sem,h0,h1,h2,h3,h4,h5,h6]
theorem kK:EN.Ok where
 hu:=Try.underlying28
 info:=by
  have h:=Mk;cases hi:Try.prog.info? 43 with
  | none=>rw [hi] at h; cases h
  | some i =>
   rw [hi] at h;simp only [Y,U,Z] at h;exact⟨i,hi,h.1,h.2.1,h.2.2⟩
 zs:=rfl
 len:=fun _=>rfl
 one:=fun x u hu=>by
  simp only [EN,gU,ah,V,or_false] at hu;rcases hu with rfl|rfl|rfl|rfl|rfl|rfl|rfl <;> rfl
 pos:=by decide
 few:=by decide
 load:=fun w p x h=>Ml w p x h
abbrev jR (W:O) (v:Q) (l:List gM):Prop:=Row EN W v l
abbrev jl (W:O) (B:Nat) (v:Q) (l:List gM):Prop:=Own EN W B v l
theorem Iw {W:O} {v:Q} {l:List gM} {ao:Option aD} {n c k:Nat} {x:gM} (h:jR W v l) (hv:v=X ao n c) (hn:l.length=n) (hk:l[k]?=L x) :
  ∃ p:aD,(∀ w,(ay 28 (X ao n c) (D J k)).run aj w=.ok (ak (L p)) w)/\∀ w,Below W.heap.size W w->w.cell? p=L (D J x.1)/\w.cell? ⟨p.block,p.off+1,aA⟩=L (D J x.2.1)/\w.cell? ⟨p.block,p.off+2,aA⟩=L (D J x.2.2.1)/\w.cell? ⟨p.block,p.off+3,aA⟩=L (D J x.2.2.2.1)/\w.cell? ⟨p.block,p.off+4,aA⟩=L (dR x.2.2.2.2.1)/\w.cell? ⟨p.block,p.off+5,aA⟩=L (D J x.2.2.2.2.2.1)/\w.cell? ⟨p.block,p.off+6,aA⟩=L (aF x.2.2.2.2.2.2):=by
 obtain⟨p,h1,_,h2⟩:=oK kK h hv hn hk;exact⟨p,h1,fun w hw=>⟨by simpa [K] using h2 w hw 0 _ rfl,by simpa [K] using h2 w hw 1 _ rfl,by simpa [K] using h2 w hw 2 _ rfl,by simpa [K] using h2 w hw 3 _ rfl,by simpa [K] using h2 w hw 4 _ rfl,by simpa [K] using h2 w hw 5 _ rfl,by simpa [K] using h2 w hw 6 _ rfl⟩⟩
abbrev uL:=Int×Int×Sl
abbrev wI (x:uL):List Q:=[D J x.1,D J x.2.1,dR x.2.2]
abbrev Mq (x:uL):Q:=aC #[D J x.1,D J x.2.1,dR x.2.2]
def EW:Ek uL:=⟨90,29,3,40,aC #[D J 0,D J 0,X aA 0 0],Mq,wI⟩
theorem Mr:(Try.prog.info? 90).map (fun i=>(i.zero,i.size,i.bytes))=L (L (aC #[D J 0,D J 0,X aA 0 0]),3,40):=by kernel_rfl
theorem Ms (w:O) (p:aD) (x:uL) (h:∀ j u,(wI x)[j]?=L u->w.cell? (p.add j)=L u):(au 90 (ak (L p))).run aj w=.ok (Mq x) w:=by
 have h0:=h 0 _ rfl;have h1:=h 1 _ rfl;have h2:=h 2 _ rfl;simp [K] at h0 h1 h2;simp [go_sem,h0,h1,h2]
theorem okW:EW.Ok where
 hu:=Try.underlying29
 info:=by
  have h:=Mr;cases hi:Try.prog.info? 90 with
  | none=>rw [hi] at h; cases h
  | some i =>
   rw [hi] at h;simp only [Y,U,Z] at h;exact⟨i,hi,h.1,h.2.1,h.2.2⟩
 zs:=rfl
 len:=fun _=>rfl
 one:=fun x u hu=>by
  simp only [EW,wI,ah,V,or_false] at hu;rcases hu with rfl|rfl|rfl <;> rfl
 pos:=by decide
 few:=by decide
 load:=fun w p x h=>Ms w p x h
abbrev Mt (W:O) (v:Q) (l:List uL):Prop:=Row EW W v l
abbrev wJ (W:O) (B:Nat) (v:Q) (l:List uL):Prop:=Own EW W B v l
structure Ad where
 id:Id
 p:List C5
 par:Int
structure En where
 tree:Id
 sub:Id
 p:List C5
 from_:Int
 up:Bool
structure Ow where
 id:Id
 p:List C5
structure Br where
 me:Int
 near:List Int
 fI:List Ad
 seen:List Id
 ent:List En
 own:List Ow
def uO (W:O) (x:jr) (a:Ad):Prop:=(x.1,x.2.1)=a.id/\x.2.2.2=a.par/\iy W (dR x.2.2.1) a.p
def iC (W:O) (x:gM) (a:En):Prop:=(x.1,x.2.1)=a.tree/\(x.2.2.1,x.2.2.2.1)=a.sub/\x.2.2.2.2.2.1=a.from_/\x.2.2.2.2.2.2=a.up/\iy W (dR x.2.2.2.2.1) a.p
def Iy (W:O) (x:uL) (a:Ow):Prop:=(x.1,x.2.1)=a.id/\iy W (dR x.2.2) a.p
theorem uO.on {W W':O} {x:jr} {a:Ad} (h:uO W x a) (hb:Below W.heap.size W W'):uO W' x a:=⟨h.1,h.2.1,h.2.2.on hb⟩
theorem iC.on {W W':O} {x:gM} {a:En} (h:iC W x a) (hb:Below W.heap.size W W'):iC W' x a:=⟨h.1,h.2.1,h.2.2.1,h.2.2.2.1,h.2.2.2.2.on hb⟩
theorem Iy.on {W W':O} {x:uL} {a:Ow} (h:Iy W x a) (hb:Below W.heap.size W W'):Iy W' x a:=⟨h.1,h.2.on hb⟩
inductive eF {α β:Type} (R:α->β->Prop):List α->List β->Prop
 | nil:eF R [] []
 | cons {a b l m} (h:R a b) (t:eF R l m):eF R (a::l) (b::m)
theorem eF.mono {α β:Type} {R S:α->β->Prop} (h:∀ a b,R a b->S a b):∀ {l m},eF R l m->eF S l m
 | _,_,.nil=>.nil
 | _,_,.cons x t=>.cons (h _ _ x) (t.mono h)
theorem eF.len {α β:Type} {R:α->β->Prop}:∀ {l m},eF R l m->l.length=m.length
 | _,_,.nil=>rfl
 | _,_,.cons _ t=>by rw [aB,aB,t.len]
theorem eF.at {α β:Type} {R:α->β->Prop}:∀ {l m} (_:eF R l m) (k:Nat) (b:β),m[k]?=L b->∃ a,l[k]?=L a/\R a b
 | _,_,.nil,k,b,h=>by simp at h
 | _,_,.cons x t,0,b,h=>by
  simp at h;subst h;exact⟨_,rfl,x⟩
 | _,_,.cons x t,k+1,b,h=>by
  obtain⟨a,h1,h2⟩:=t.at k b (by simpa using h);exact⟨a,by simpa using h1,h2⟩
theorem eF.append {α β:Type} {R:α->β->Prop}:∀ {l m l' m'},eF R l m->eF R l' m'->eF R (l++l') (m++m')
 | _,_,_,_,.nil,h=>h
 | _,_,_,_,.cons x t,h=>.cons x (t.append h)
theorem eF.take {α β:Type} {R:α->β->Prop}:∀ {l m} (k:Nat),eF R l m->eF R (l.take k) (m.take k)
 | _,_,0,_=>by simp only [List.take_zero]; exact .nil
 | _,_,k+1,.nil=>by simp only [List.take_nil]; exact .nil
 | _,_,k+1,.cons x t=>.cons x (t.take k)
theorem eF.drop {α β:Type} {R:α->β->Prop}:∀ {l m} (k:Nat),eF R l m->eF R (l.drop k) (m.drop k)
 | _,_,0,h=>h
 | _,_,_k+1,.nil=>.nil
 | _,_,k+1,.cons _ t=>t.drop k
structure kM (W:O) (b:Br) (nv av sv ev ov:Sl):Prop where
 near:xD W (dR nv) b.near
 fI:∃ l,Af W (dR av) l/\eF (uO W) l b.fI
 seen:rT W (dR sv) b.seen
 ent:∃ l,jR W (dR ev) l/\eF (iC W) l b.ent
 own:∃ l,Mt W (dR ov) l/\eF (Iy W) l b.own
theorem kM.on {W W':O} {b:Br} {nv av sv ev ov:Sl} (h:kM W b nv av sv ev ov) (hb:Below W.heap.size W W'):kM W' b nv av sv ev ov where
 near:=h.near.on hb
 fI:=by obtain⟨l,h1,h2⟩:=h.fI; exact⟨l,h1.on hb,h2.mono fun _ _ h=>h.on hb⟩
 seen:=h.seen.on hb
 ent:=by obtain⟨l,h1,h2⟩:=h.ent; exact⟨l,h1.on hb,h2.mono fun _ _ h=>h.on hb⟩
 own:=by obtain⟨l,h1,h2⟩:=h.own; exact⟨l,h1.on hb,h2.mono fun _ _ h=>h.on hb⟩
abbrev iN (me:Int) (nv av sv ev ov:Sl):Q:=aC #[D J me,dR nv,dR av,dR sv,dR ev,dR ov]
abbrev lT (me:Int) (nv av sv ev ov:Sl):Array Q:=#[D J me,dR nv,dR av,dR sv,dR ev,dR ov]
def dW (a b:Id):Bool:=decide (a.1<b.1) || (a.1 == b.1 && decide (a.2<b.2))
def fM:List Id->Id->Int
 | [],_=>-1
 | a::l,x=>if a=x then 0 else if fM l x=-1 then -1 else fM l x+1
def jm (l:List Id) (x:Id):Nat:=(l.takeWhile fun a=>dW a x).length
end Go.Proofs.Ytmklifheakemeaa.Bk
