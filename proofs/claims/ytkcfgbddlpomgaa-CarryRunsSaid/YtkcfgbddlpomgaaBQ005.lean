/-
  Rows of IDs, of adve. Conditions as told.
-/
import Derived.Test.YtkcfgbddlpomgaaBQ001
import Derived.Test.YtkcfgbddlpomgaaBQ004
import Derived.Lib.Hide
set_option maxRecDepth 100000
set_option maxHeartbeats 64000000
open _root_.Go renaming World->O,Value->Q,Addr->aD
open Go.Addr renaming add->K
open Go.Instr renaming indexAt->au,loadAt->ay
open Go.IntKind renaming i64->J
open Go.Proofs.Try renaming prog->Y
open Go.Value renaming int->D,slice->U,pointer->ah,agg->aB,bool->aF
open _root_.List renaming not_mem_nil->X,mem_cons->ak,length_cons->aC
open _root_.Option renaming some->L,map_some->Z,none->aA
open Option.some renaming injEq->V
open Prod.mk renaming injEq->aj
namespace Go.Proofs.Ytkcfgbddlpomgaa.Bk
open Go.RowKit Rw Ytkcfgbddlpomgaa.Nm Pr
abbrev Sl:=Option aD×Nat×Nat
abbrev dz (s:Sl):Q:=U s.1 s.2.1 s.2.2
abbrev Id:=Int×Int
abbrev dI:=Id
abbrev gM (x:dI):List Q:=[D J x.1,D J x.2]
abbrev Dy (x:dI):Q:=aB #[D J x.1,D J x.2]
def EJ:Ek dI:=⟨23,26,2,16,aB #[D J 0,D J 0],Dy,gM⟩
theorem Dz:(Try.prog.info? 23).map (fun i=>(i.zero,i.size,i.bytes))=L (L (aB #[D J 0,D J 0]),2,16):=by kernel_rfl
theorem DC (w:O) (p:aD) (x:dI) (h:∀ j u,(gM x)[j]?=L u->w.cell? (p.add j)=L u):(ay 23 (ah (L p))).run Y w=.ok (Dy x) w:=by
 have h0:=h 0 _ rfl;have h1:=h 1 _ rfl;simp [K] at h0 h1;simp [go_sem,h0,h1]
theorem qI:EJ.Ok where
 hu:=Try.underlying26
 info:=by
  have h:=Dz;cases hi:Try.prog.info? 23 with
  | none=>rw [hi] at h; cases h
  | some i =>
   rw [hi] at h;simp only [Z,V,aj] at h;exact⟨i,hi,h.1,h.2.1,h.2.2⟩
 zs:=rfl
 len:=fun _=>rfl
 one:=fun x u hu=>by
  simp only [EJ,gM,ak,X,or_false] at hu;rcases hu with rfl|rfl <;> rfl
 pos:=by decide
 few:=by decide
 load:=fun w p x h=>DC w p x h
abbrev oq (W:O) (v:Q) (l:List dI):Prop:=Row EJ W v l
abbrev pG (W:O) (B:Nat) (v:Q) (l:List dI):Prop:=Own EJ W B v l
theorem Ie {W:O} {v:Q} {l:List dI} {ao:Option aD} {n c k:Nat} {x:dI} (h:oq W v l) (hv:v=U ao n c) (hn:l.length=n) (hk:l[k]?=L x) :
  ∃ p:aD,(∀ w,(au 26 (U ao n c) (D J k)).run Y w=.ok (ah (L p)) w)/\∀ w,Below W.heap.size W w->w.cell? p=L (D J x.1)/\w.cell? ⟨p.block,p.off+1,aA⟩=L (D J x.2):=by
 obtain⟨p,h1,_,h2⟩:=iW qI h hv hn hk;exact⟨p,h1,fun w hw=>⟨by simpa [K] using h2 w hw 0 _ rfl,by simpa [K] using h2 w hw 1 _ rfl⟩⟩
abbrev gD:=Int×Int×Sl×Int
abbrev cellsD (x:gD):List Q:=[D J x.1,D J x.2.1,dz x.2.2.1,D J x.2.2.2]
abbrev gY (x:gD):Q:=aB #[D J x.1,D J x.2.1,dz x.2.2.1,D J x.2.2.2]
def ED:Ek gD:=⟨36,25,4,48,aB #[D J 0,D J 0,U aA 0 0,D J 0],gY,cellsD⟩
theorem DF:(Try.prog.info? 36).map (fun i=>(i.zero,i.size,i.bytes))=L (L (aB #[D J 0,D J 0,U aA 0 0,D J 0]),4,48):=by kernel_rfl
theorem Ay (w:O) (p:aD) (x:gD) (h:∀ j u,(cellsD x)[j]?=L u->w.cell? (p.add j)=L u):(ay 36 (ah (L p))).run Y w=.ok (gY x) w:=by
 have h0:=h 0 _ rfl;have h1:=h 1 _ rfl;have h2:=h 2 _ rfl;have h3:=h 3 _ rfl;simp [K] at h0 h1 h2 h3;simp [go_sem,h0,h1,h2,h3]
theorem okD:ED.Ok where
 hu:=Try.underlying25
 info:=by
  have h:=DF;cases hi:Try.prog.info? 36 with
  | none=>rw [hi] at h; cases h
  | some i =>
   rw [hi] at h;simp only [Z,V,aj] at h;exact⟨i,hi,h.1,h.2.1,h.2.2⟩
 zs:=rfl
 len:=fun _=>rfl
 one:=fun x u hu=>by
  simp only [ED,cellsD,ak,X,or_false] at hu;rcases hu with rfl|rfl|rfl|rfl <;> rfl
 pos:=by decide
 few:=by decide
 load:=fun w p x h=>Ay w p x h
abbrev qQ (W:O) (v:Q) (l:List gD):Prop:=Row ED W v l
abbrev jD (W:O) (B:Nat) (v:Q) (l:List gD):Prop:=Own ED W B v l
theorem Ig {W:O} {v:Q} {l:List gD} {ao:Option aD} {n c k:Nat} {x:gD} (h:qQ W v l) (hv:v=U ao n c) (hn:l.length=n) (hk:l[k]?=L x) :
  ∃ p:aD,(∀ w,(au 25 (U ao n c) (D J k)).run Y w=.ok (ah (L p)) w)/\∀ w,Below W.heap.size W w->w.cell? p=L (D J x.1)/\w.cell? ⟨p.block,p.off+1,aA⟩=L (D J x.2.1)/\w.cell? ⟨p.block,p.off+2,aA⟩=L (dz x.2.2.1)/\w.cell? ⟨p.block,p.off+3,aA⟩=L (D J x.2.2.2):=by
 obtain⟨p,h1,_,h2⟩:=iW okD h hv hn hk;exact⟨p,h1,fun w hw=>⟨by simpa [K] using h2 w hw 0 _ rfl,by simpa [K] using h2 w hw 1 _ rfl,by simpa [K] using h2 w hw 2 _ rfl,by simpa [K] using h2 w hw 3 _ rfl⟩⟩
abbrev gq:=Int×Int×Int×Int×Sl×Int×Bool
abbrev fC (x:gq):List Q:=[D J x.1,D J x.2.1,D J x.2.2.1,D J x.2.2.2.1,dz x.2.2.2.2.1,D J x.2.2.2.2.2.1,aF x.2.2.2.2.2.2]
abbrev mX (x:gq):Q:=aB #[D J x.1,D J x.2.1,D J x.2.2.1,D J x.2.2.2.1,dz x.2.2.2.2.1,D J x.2.2.2.2.2.1,aF x.2.2.2.2.2.2]
def EN:Ek gq:=⟨41,27,7,72,aB #[D J 0,D J 0,D J 0,D J 0,U aA 0 0,D J 0,aF false],mX,fC⟩
theorem DI:(Try.prog.info? 41).map (fun i=>(i.zero,i.size,i.bytes))=L (L (aB #[D J 0,D J 0,D J 0,D J 0,U aA 0 0,D J 0,aF false]),7,72):=by kernel_rfl
theorem DJ (w:O) (p:aD) (x:gq) (h:∀ j u,(fC x)[j]?=L u->w.cell? (p.add j)=L u):(ay 41 (ah (L p))).run Y w=.ok (mX x) w:=by
 have h0:=h 0 _ rfl;have h1:=h 1 _ rfl;have h2:=h 2 _ rfl;have h3:=h 3 _ rfl;have h4:=h 4 _ rfl;have h5:=h 5 _ rfl;have h6:=h 6 _ rfl;simp [K] at h0 h1 h2 h3 h4 h5 h6;simp [go_sem,h0,h1,h2,h3,h4,h5,h6]
theorem ko:EN.Ok where
 hu:=Try.underlying27
 info:=by
  have h:=DI;cases hi:Try.prog.info? 41 with
  | none=>rw [hi] at h; cases h
  | some i =>
   rw [hi] at h;simp only [Z,V,aj] at h;exact⟨i,hi,h.1,h.2.1,h.2.2⟩
 zs:=rfl
 len:=fun _=>rfl
 one:=fun x u hu=>by
  simp only [EN,fC,ak,X,or_false] at hu;rcases hu with rfl|rfl|rfl|rfl|rfl|rfl|rfl <;> rfl
 pos:=by decide
 few:=by decide
 load:=fun w p x h=>DJ w p x h
abbrev iY (W:O) (v:Q) (l:List gq):Prop:=Row EN W v l
abbrev iZ (W:O) (B:Nat) (v:Q) (l:List gq):Prop:=Own EN W B v l
theorem F4 {W:O} {v:Q} {l:List gq} {ao:Option aD} {n c k:Nat} {x:gq} (h:iY W v l) (hv:v=U ao n c) (hn:l.length=n) (hk:l[k]?=L x) :
  ∃ p:aD,(∀ w,(au 27 (U ao n c) (D J k)).run Y w=.ok (ah (L p)) w)/\∀ w,Below W.heap.size W w->w.cell? p=L (D J x.1)/\w.cell? ⟨p.block,p.off+1,aA⟩=L (D J x.2.1)/\w.cell? ⟨p.block,p.off+2,aA⟩=L (D J x.2.2.1)/\w.cell? ⟨p.block,p.off+3,aA⟩=L (D J x.2.2.2.1)/\w.cell? ⟨p.block,p.off+4,aA⟩=L (dz x.2.2.2.2.1)/\w.cell? ⟨p.block,p.off+5,aA⟩=L (D J x.2.2.2.2.2.1)/\w.cell? ⟨p.block,p.off+6,aA⟩=L (aF x.2.2.2.2.2.2):=by
 obtain⟨p,h1,_,h2⟩:=iW ko h hv hn hk;exact⟨p,h1,fun w hw=>⟨by simpa [K] using h2 w hw 0 _ rfl,by simpa [K] using h2 w hw 1 _ rfl,by simpa [K] using h2 w hw 2 _ rfl,by simpa [K] using h2 w hw 3 _ rfl,by simpa [K] using h2 w hw 4 _ rfl,by simpa [K] using h2 w hw 5 _ rfl,by simpa [K] using h2 w hw 6 _ rfl⟩⟩
abbrev lg:=Int×Int×Sl
abbrev ou (x:lg):List Q:=[D J x.1,D J x.2.1,dz x.2.2]
abbrev DK (x:lg):Q:=aB #[D J x.1,D J x.2.1,dz x.2.2]
def EW:Ek lg:=⟨84,28,3,40,aB #[D J 0,D J 0,U aA 0 0],DK,ou⟩
theorem DL:(Try.prog.info? 84).map (fun i=>(i.zero,i.size,i.bytes))=L (L (aB #[D J 0,D J 0,U aA 0 0]),3,40):=by kernel_rfl
theorem DN (w:O) (p:aD) (x:lg) (h:∀ j u,(ou x)[j]?=L u->w.cell? (p.add j)=L u):(ay 84 (ah (L p))).run Y w=.ok (DK x) w:=by
 have h0:=h 0 _ rfl;have h1:=h 1 _ rfl;have h2:=h 2 _ rfl;simp [K] at h0 h1 h2;simp [go_sem,h0,h1,h2]
theorem okW:EW.Ok where
 hu:=Try.underlying28
 info:=by
  have h:=DL;cases hi:Try.prog.info? 84 with
  | none=>rw [hi] at h; cases h
  | some i =>
   rw [hi] at h;simp only [Z,V,aj] at h;exact⟨i,hi,h.1,h.2.1,h.2.2⟩
 zs:=rfl
 len:=fun _=>rfl
 one:=fun x u hu=>by
  simp only [EW,ou,ak,X,or_false] at hu;rcases hu with rfl|rfl|rfl <;> rfl
 pos:=by decide
 few:=by decide
 load:=fun w p x h=>DN w p x h
abbrev Bq (W:O) (v:Q) (l:List lg):Prop:=Row EW W v l
abbrev oz (W:O) (B:Nat) (v:Q) (l:List lg):Prop:=Own EW W B v l
theorem Jf {W:O} {v:Q} {l:List lg} {ao:Option aD} {n c k:Nat} {x:lg} (h:Bq W v l) (hv:v=U ao n c) (hn:l.length=n) (hk:l[k]?=L x) :
  ∃ p:aD,(∀ w,(au 28 (U ao n c) (D J k)).run Y w=.ok (ah (L p)) w)/\∀ w,Below W.heap.size W w->w.cell? p=L (D J x.1)/\w.cell? ⟨p.block,p.off+1,aA⟩=L (D J x.2.1)/\w.cell? ⟨p.block,p.off+2,aA⟩=L (dz x.2.2):=by
 obtain⟨p,h1,_,h2⟩:=iW okW h hv hn hk;exact⟨p,h1,fun w hw=>⟨by simpa [K] using h2 w hw 0 _ rfl,by simpa [K] using h2 w hw 1 _ rfl,by simpa [K] using h2 w hw 2 _ rfl⟩⟩
structure Ad where
 id:Id
 p:List C5
 par:Int
structure En where
 tree:Id
 sub:Id
 p:List C5
 from_:Int
 up:Bool
structure Ow where
 id:Id
 p:List C5
structure Br where
 me:Int
 near:List Int
 dU:List Ad
 seen:List Id
 ent:List En
 own:List Ow
def oC (W:O) (x:gD) (a:Ad):Prop:=(x.1,x.2.1)=a.id/\x.2.2.2=a.par/\gL W (dz x.2.2.1) a.p
def iT (W:O) (x:gq) (a:En):Prop:=(x.1,x.2.1)=a.tree/\(x.2.2.1,x.2.2.2.1)=a.sub/\x.2.2.2.2.2.1=a.from_/\x.2.2.2.2.2.2=a.up/\gL W (dz x.2.2.2.2.1) a.p
def zG (W:O) (x:lg) (a:Ow):Prop:=(x.1,x.2.1)=a.id/\gL W (dz x.2.2) a.p
theorem oC.on {W W':O} {x:gD} {a:Ad} (h:oC W x a) (hb:Below W.heap.size W W'):oC W' x a:=⟨h.1,h.2.1,h.2.2.on hb⟩
theorem iT.on {W W':O} {x:gq} {a:En} (h:iT W x a) (hb:Below W.heap.size W W'):iT W' x a:=⟨h.1,h.2.1,h.2.2.1,h.2.2.2.1,h.2.2.2.2.on hb⟩
theorem zG.on {W W':O} {x:lg} {a:Ow} (h:zG W x a) (hb:Below W.heap.size W W'):zG W' x a:=⟨h.1,h.2.on hb⟩
inductive dJ {α β:Type} (R:α->β->Prop):List α->List β->Prop
 | nil:dJ R [] []
 | cons {a b l m} (h:R a b) (t:dJ R l m):dJ R (a::l) (b::m)
theorem dJ.mono {α β:Type} {R S:α->β->Prop} (h:∀ a b,R a b->S a b):∀ {l m},dJ R l m->dJ S l m
 | _,_,.nil=>.nil
 | _,_,.cons x t=>.cons (h _ _ x) (t.mono h)
theorem dJ.len {α β:Type} {R:α->β->Prop}:∀ {l m},dJ R l m->l.length=m.length
 | _,_,.nil=>rfl
 | _,_,.cons _ t=>by rw [aC,aC,t.len]
theorem dJ.at {α β:Type} {R:α->β->Prop}:∀ {l m} (_:dJ R l m) (k:Nat) (b:β),m[k]?=L b->∃ a,l[k]?=L a/\R a b
 | _,_,.nil,k,b,h=>by simp at h
 | _,_,.cons x t,0,b,h=>by
  simp at h;subst h;exact⟨_,rfl,x⟩
 | _,_,.cons x t,k+1,b,h=>by
  obtain⟨a,h1,h2⟩:=t.at k b (by simpa using h);exact⟨a,by simpa using h1,h2⟩
theorem dJ.append {α β:Type} {R:α->β->Prop}:∀ {l m l' m'},dJ R l m->dJ R l' m'->dJ R (l++l') (m++m')
 | _,_,_,_,.nil,h=>h
 | _,_,_,_,.cons x t,h=>.cons x (t.append h)
theorem dJ.take {α β:Type} {R:α->β->Prop}:∀ {l m} (k:Nat),dJ R l m->dJ R (l.take k) (m.take k)
 | _,_,0,_=>by simp only [List.take_zero]; exact .nil
 | _,_,k+1,.nil=>by simp only [List.take_nil]; exact .nil
 | _,_,k+1,.cons x t=>.cons x (t.take k)
theorem dJ.drop {α β:Type} {R:α->β->Prop}:∀ {l m} (k:Nat),dJ R l m->dJ R (l.drop k) (m.drop k)
 | _,_,0,h=>h
 | _,_,_k+1,.nil=>.nil
 | _,_,k+1,.cons _ t=>t.drop k
structure iF (W:O) (b:Br) (nv av sv ev ov:Sl):Prop where
 near:om W (dz nv) b.near
 dU:∃ l,qQ W (dz av) l/\dJ (oC W) l b.dU
 seen:oq W (dz sv) b.seen
 ent:∃ l,iY W (dz ev) l/\dJ (iT W) l b.ent
 own:∃ l,Bq W (dz ov) l/\dJ (zG W) l b.own
theorem iF.on {W W':O} {b:Br} {nv av sv ev ov:Sl} (h:iF W b nv av sv ev ov) (hb:Below W.heap.size W W'):iF W' b nv av sv ev ov where
 near:=h.near.on hb
 dU:=by obtain⟨l,h1,h2⟩:=h.dU; exact⟨l,h1.on hb,h2.mono fun _ _ h=>h.on hb⟩
 seen:=h.seen.on hb
 ent:=by obtain⟨l,h1,h2⟩:=h.ent; exact⟨l,h1.on hb,h2.mono fun _ _ h=>h.on hb⟩
 own:=by obtain⟨l,h1,h2⟩:=h.own; exact⟨l,h1.on hb,h2.mono fun _ _ h=>h.on hb⟩
abbrev nE (me:Int) (nv av sv ev ov:Sl):Q:=aB #[D J me,dz nv,dz av,dz sv,dz ev,dz ov]
abbrev jQ (me:Int) (nv av sv ev ov:Sl):Array Q:=#[D J me,dz nv,dz av,dz sv,dz ev,dz ov]
def dD (a b:Id):Bool:=decide (a.1<b.1) || (a.1 == b.1 && decide (a.2<b.2))
def d9:List Id->Id->Int
 | [],_=>-1
 | a::l,x=>if a=x then 0 else if d9 l x=-1 then -1 else d9 l x+1
def gu (l:List Id) (x:Id):Nat:=(l.takeWhile fun a=>dD a x).length
abbrev lq (x:Id):Q:=aB #[D J x.1,D J x.2]
theorem sw:Try.prog.stoodInHeld 23=false:=by kernel_rfl
theorem uy (a b c d:Int) (r:Bool) (h:(a == c && b == d)=r) (w:O):(binOp .eql 23 (aB #[D J a,D J b]) (aB #[D J c,D J d])).run Y w=.ok (aF r) w:=by
 have st:=sw;subst h;by_cases h1:a=c <;> by_cases h2:b=d <;> simp [go_sem,Try.underlying23,Try.underlying3,st,h1,h2]
theorem fK (w:O) (o:Obj):Below w.heap.size w (w.alloc o):=(Below.refl _ _).alloc (Nat.le_refl _) _
theorem eX (w:O) (c d:Array Q) (s t:TypeId):Below w.heap.size w ((w.alloc (.cells c s)).alloc (.cells d t))/\dh ((w.alloc (.cells c s)).alloc (.cells d t)) w.heap.size c s/\dh ((w.alloc (.cells c s)).alloc (.cells d t)) (w.heap.size+1) d t:=by
 refine⟨((Below.refl _ _).alloc (Nat.le_refl _) _).alloc (by simp) _,(dB w c s).more _,?_⟩;have h:=dB (w.alloc (.cells c s)) d t;simpa using h
theorem jR:∀ (l:List Id) (x:Id),-1<=d9 l x
 | [],_=>by simp [d9]
 | a::l,x=>by
  unfold d9;have:=jR l x
  split
  ·omega
  ·split <;> omega
end Go.Proofs.Ytkcfgbddlpomgaa.Bk
