/-
  Names and pick of th. Conditions as told.
-/
import Derived.Test.YtkcfgbddlpomgaaGreatOQ006
import Derived.Shelf.Slices.In.SortNone
import Derived.Shelf.Sort.Plain
import Derived.Shelf.Slices.CompactI
import Derived.Shelf.Slices.SearchI
import Derived.OpenShut
import Derived.Carry
import Derived.ChangeMaps5
import Derived.ChangeArms
set_option maxRecDepth 100000
set_option maxHeartbeats 64000000
open _root_.Go renaming Value->O,World->Q,maxLen->X,TypeId->Z
open Go.Value renaming string->D,slice->U,int->V,bool->Y
open _root_.List renaming getElem?_eq_getElem->K,getD_eq_getElem?_getD->L
open _root_.Option renaming some->J
namespace Go.Proofs.YtkcfgbddlpomgaaGreat.Kp
open Go.RowKit Va In
def nm (i:Nat):ByteArray:=⟨#[UInt8.ofNat (97+i)]⟩
def oJ:Array O:=#[D ⟨#[97]⟩,D ⟨#[98]⟩,D ⟨#[99]⟩,D ⟨#[100]⟩,D ⟨#[101]⟩,D ⟨#[102]⟩,D ⟨#[103]⟩]
theorem Tf (i:Nat) (h:i<7):oJ[i]?=J (D (nm i)):=by
 match i,h with
 | 0,_=>rfl
 | 1,_=>rfl
 | 2,_=>rfl
 | 3,_=>rfl
 | 4,_=>rfl
 | 5,_=>rfl
 | 6,_=>rfl
theorem xW (w:Q):Calls Tryz.prog 31 #[] w fun e w'=>e=.returned (U (J ⟨w.heap.size,0,none⟩) 7 7)/\w'=w.alloc (.cells oJ 9):=by
 go_enter Tryz.func31,Tryz.ntmps31;go_wp2;go_ret;exact⟨rfl,rfl⟩
def kP (zs:List Int) (i:Nat):Int:=if zs=[] then 0 else zs.getD (i % zs.length) 0
theorem zV (nv:O) (zs:List Int) (i:Nat) (w:Q) (hz:iC w nv zs) (hl:zs.length<=X) (hi:i<=100) :
  Calls Tryz.prog 33 #[nv,V .i64 i] w fun e w'=>e=.returned (V .i64 (kP zs i))/\w=w':=by
 obtain⟨ao,cap,rfl⟩:=hz.shape;unfold X at hl;cases zs with
 | nil =>
  go_enter Tryz.func33,Tryz.ntmps33;go_wp2;go_ret;exact⟨rfl,rfl⟩
 | cons z r =>
  have hm:i % (z::r).length<(z::r).length:=Nat.mod_lt _ (by simp);obtain⟨y,hy⟩:∃ y,(z::r)[i % (z::r).length]?=J y:=⟨_,K hm⟩;obtain⟨_,p,_,hix,hpc⟩:=hz.at_ _ y hy;have P:=Lib.hid (show kP (z::r) i=y by unfold kP; rw [if_neg (by simp),L,hy]; rfl);have h0:((((z::r).length:Nat):Int) == 0)=false:=by simp; omega
  have hne:(((z::r).length:Nat):Int)≠0:=by simp; omega
  have ht:(i:Int) % ((z::r).length:Nat)=((i % (z::r).length:Nat):Int):=rfl;have ht2:(i:Int).tmod ((z::r).length:Nat)=((i % (z::r).length:Nat):Int):=by
   rw [Int.tmod_eq_emod_of_nonneg (by omega)]; rfl
  have hn0:0<(((z::r).length:Nat):Int):=by simp
  generalize (z::r).length=n at *;generalize i % n=m at *;clear hz hy hm;go_enter Tryz.func33,Tryz.ntmps33;go_wp2;go_ret;exact⟨Wi.zu P.out.symm,rfl⟩
def odd (z:Int):Bool:=bits BinOp.and IntKind.i64 z 1 == 1
theorem zW {W:Q} {nv:O} {zs:List Int} (hz:iC W nv zs) (i:Nat):-9223372036854775808<=kP zs i/\kP zs i<=9223372036854775807:=by
 unfold kP
 split
 ·omega
 ·rename_i h
  have hm:i % zs.length<zs.length:=Nat.mod_lt _ (List.length_pos_iff.2 h);have:=(hz.at_ _ _ (K hm)).1;rw [L,K hm];exact this
end Go.Proofs.YtkcfgbddlpomgaaGreat.Kp
namespace Go.Proofs.YtkcfgbddlpomgaaGreat.At
open Go.RowKit Va
abbrev A4:=ByteArray×Bool×Int×ByteArray
abbrev av (x:A4):O:=.agg #[D x.1,Y x.2.1,V .i64 x.2.2.1,D x.2.2.2]
def zX (x:A4):List O:=[D x.1,Y x.2.1,V .i64 x.2.2.1,D x.2.2.2]
def mM:List A4->List O
 | []=>[]
 | x::r=>.string x.1::Y x.2.1::V .i64 x.2.2.1::D x.2.2.2::mM r
theorem wE:∀ a b,mM (a++b)=mM a++mM b
 | [],b=>rfl
 | x::r,b=>by simp [mM,wE r b]
theorem Dm:∀ l,∀ u∈mM l,u.oneCell'=true
 | [],u,h=>by cases h
 | x::r,u,h=>by
  simp only [mM,List.mem_cons] at h;rcases h with rfl|rfl|rfl|rfl|h
  ·rfl
  ·rfl
  ·rfl
  ·rfl
  ·exact Dm r u h
theorem Ia:∀ (l:List A4) (m:Nat) (x:A4),l[m]?=J x->(mM l)[m * 4]?=J (D x.1)/\(mM l)[m * 4+1]?=J (Y x.2.1)/\(mM l)[m * 4+2]?=J (V .i64 x.2.2.1)/\(mM l)[m * 4+3]?=J (D x.2.2.2)
 | [],m,x,h=>by simp at h
 | y::r,0,x,h=>by
  simp at h;subst h;exact⟨rfl,rfl,rfl,rfl⟩
 | y::r,m+1,x,h=>by
  have h2:=Ia r m x (by simpa using h);rw [show (m+1) * 4=m * 4+1+1+1+1 by omega,show m * 4+1+1+1+1+2=m * 4+2+1+1+1+1 by omega,show m * 4+1+1+1+1+3=m * 4+3+1+1+1+1 by omega];exact h2
theorem add_add (a:Addr) (i j:Nat):(a.add i).add j=a.add (i+j):=by
 unfold Addr.add;by_cases hi:i=0 <;> by_cases hj:j=0 <;> simp [hi,hj,Nat.add_assoc]
def zm (W:Q) (lv:O) (l:List A4):Prop :=
 (l=[]/\lv=U none 0 0)\/∃ (a:Addr) (cap:Nat),lv=U (J a) l.length cap/\l.length<=cap/\cap<=X/\∀ j u,(mM l)[j]?=J u->W.cell? (a.add j)=J u
theorem zm.on {W W':Q} {lv:O} {l:List A4} (h:zm W lv l) (hb:Below W.heap.size W W'):zm W' lv l:=by
 rcases h with h|⟨a,cap,h1,h2,h3,h5⟩
 ·exact Or.inl h
 ·exact Or.inr ⟨a,cap,h1,h2,h3,fun j u hj=>by
   have hc:=h5 j u hj;rw [hb.cell (World.block_lt_of_cell? W _ hc)]; exact hc⟩
theorem zm.len {W:Q} {lv:O} {l:List A4} (h:zm W lv l):∃ ao cap,lv=U ao l.length cap:=by
 rcases h with⟨rfl,rfl⟩|⟨a,cap,rfl,_⟩
 ·exact⟨none,0,rfl⟩
 ·exact⟨_,cap,rfl⟩
theorem lt_of_heap {w:Q} {b:Nat} {o:Obj} (h:w.heap[b]?=J o):b<w.heap.size:=by
 rcases Nat.lt_or_ge b w.heap.size with h0|h0
 ·exact h0
 ·simp [Array.getElem?_eq_none h0] at h
theorem zm.Yx {W:Q} {B:Nat} {lv:O} {l:List A4} (h:W.ownsRow B 97 4 lv l.length (mM l)):zm W lv l:=by
 rcases h.2 with⟨h1,h2⟩|⟨g,cap,cur,h1,h2,h3,h4,h5,h6,h7⟩
 ·exact Or.inl ⟨List.eq_nil_of_length_eq_zero h2,h1⟩
 ·exact Or.inr ⟨⟨g,0,none⟩,cap,h1,h4,h5,fun j u hj=>h.cells (g:=g) (by rw [h1]; rfl) j u hj⟩
theorem Ky (a:Addr) (m len cap:Nat) (h:m<len) (w:Q):(Instr.indexAt 39 (U (J a) len cap) (V .i64 m)).run Tryz.prog w=.ok (.pointer (J (a.add (m * 4)))) w:=by
 have h1:(m:Int)<len:=by omega
 simp [go_sem,Tryz.underlying39,h1]
end Go.Proofs.YtkcfgbddlpomgaaGreat.At
namespace Go.Proofs
open Go.Shelf
def Tryz.sortI_ren:Go.Shelf.Ren:=⟨fun | 189=>75 | 125=>105 | 257=>104 | 128=>126 | 129=>127 | 294=>117 | 295=>118 | 296=>119 | 297=>120 | 298=>121 | 299=>122 | 216=>123 | 300=>124 | 301=>125 | 328=>134 | 329=>135 | 330=>136 | 331=>137 | 332=>138 | 215=>116 | 343=>142 | n=>n,fun | 28=>25 | 3=>3 | 46=>158 | 0=>0 | 51=>175 | 53=>177 | 4=>4 | 183=>168 | 182=>167 | 131=>114 | 5=>5 | 9=>9 | 218=>181 | 222=>185 | 228=>189 | 229=>190 | n=>n,fun | n=>n⟩
theorem Tryz.sortI:Go.Proofs.Lays.n189 Tryz.prog Tryz.sortI_ren:={
 mixed:=by kernel_rfl
 f125:=Tryz.func105.trans (congrArg J (by kernel_rfl))
 f128:=Tryz.func126.trans (congrArg J (by kernel_rfl))
 f129:=Tryz.func127.trans (congrArg J (by kernel_rfl))
 f189:=Tryz.func75.trans (congrArg J (by kernel_rfl))
 f215:=Tryz.func116.trans (congrArg J (by kernel_rfl))
 f216:=Tryz.func123.trans (congrArg J (by kernel_rfl))
 f257:=Tryz.func104.trans (congrArg J (by kernel_rfl))
 f294:=Tryz.func117.trans (congrArg J (by kernel_rfl))
 f295:=Tryz.func118.trans (congrArg J (by kernel_rfl))
 f296:=Tryz.func119.trans (congrArg J (by kernel_rfl))
 f297:=Tryz.func120.trans (congrArg J (by kernel_rfl))
 f298:=Tryz.func121.trans (congrArg J (by kernel_rfl))
 f299:=Tryz.func122.trans (congrArg J (by kernel_rfl))
 f300:=Tryz.func124.trans (congrArg J (by kernel_rfl))
 f301:=Tryz.func125.trans (congrArg J (by kernel_rfl))
 f328:=Tryz.func134.trans (congrArg J (by kernel_rfl))
 f329:=Tryz.func135.trans (congrArg J (by kernel_rfl))
 f330:=Tryz.func136.trans (congrArg J (by kernel_rfl))
 f331:=Tryz.func137.trans (congrArg J (by kernel_rfl))
 f332:=Tryz.func138.trans (congrArg J (by kernel_rfl))
 f343:=Tryz.func142.trans (congrArg J (by kernel_rfl))
 t0:=Tryz.underlying0
 a0:=Tryz.isAgg0
 z0:=Tryz.sizeOf0
 v0:=Tryz.zeroValue0
 t3:=Tryz.underlying3
 a3:=Tryz.isAgg3
 z3:=Tryz.sizeOf3
 v3:=Tryz.zeroValue3
 t4:=Tryz.underlying4
 a4:=Tryz.isAgg4
 z4:=Tryz.sizeOf4
 v4:=Tryz.zeroValue4
 t5:=Tryz.underlying5
 a5:=Tryz.isAgg5
 z5:=Tryz.sizeOf5
 v5:=Tryz.zeroValue5
 t9:=Tryz.underlying9
 a9:=Tryz.isAgg9
 z9:=Tryz.sizeOf9
 v9:=Tryz.zeroValue9
 t28:=Tryz.underlying25
 a28:=Tryz.isAgg25
 z28:=Tryz.sizeOf25
 v28:=Tryz.zeroValue25
 t46:=Tryz.underlying158
 a46:=Tryz.isAgg158
 z46:=Tryz.sizeOf158
 v46:=Tryz.zeroValue158
 t51:=Tryz.underlying175
 a51:=Tryz.isAgg175
 z51:=Tryz.sizeOf175
 v51:=Tryz.zeroValue175
 t53:=Tryz.underlying177
 a53:=Tryz.isAgg177
 z53:=Tryz.sizeOf177
 v53:=Tryz.zeroValue177
 t131:=Tryz.underlying114
 a131:=Tryz.isAgg114
 z131:=Tryz.sizeOf114
 v131:=Tryz.zeroValue114
 t182:=Tryz.underlying167
 a182:=Tryz.isAgg167
 z182:=Tryz.sizeOf167
 v182:=Tryz.zeroValue167
 t183:=Tryz.underlying168
 a183:=Tryz.isAgg168
 z183:=Tryz.sizeOf168
 v183:=Tryz.zeroValue168
 t218:=Tryz.underlying181
 a218:=Tryz.isAgg181
 z218:=Tryz.sizeOf181
 v218:=Tryz.zeroValue181
 t222:=Tryz.underlying185
 a222:=Tryz.isAgg185
 z222:=Tryz.sizeOf185
 v222:=Tryz.zeroValue185
 t228:=Tryz.underlying189
 a228:=Tryz.isAgg189
 z228:=Tryz.sizeOf189
 v228:=Tryz.zeroValue189
 t229:=Tryz.underlying190
 a229:=Tryz.isAgg190
 z229:=Tryz.sizeOf190
 v229:=Tryz.zeroValue190 }
def Tryz.cptI_ren:Go.Shelf.Ren:=⟨fun | 20=>76 | n=>n,fun | 0=>0 | 3=>3 | 4=>4 | 22=>25 | n=>n,fun | n=>n⟩
theorem Tryz.cptI:Go.Proofs.Lays2.n20 Tryz.prog Tryz.cptI_ren:={
 mixed:=by kernel_rfl
 i3:=by kernel_rfl
 f20:=Tryz.func76.trans (congrArg J (by kernel_rfl))
 t0:=Tryz.underlying0
 a0:=Tryz.isAgg0
 z0:=Tryz.sizeOf0
 v0:=Tryz.zeroValue0
 t3:=Tryz.underlying3
 a3:=Tryz.isAgg3
 z3:=Tryz.sizeOf3
 v3:=Tryz.zeroValue3
 t4:=Tryz.underlying4
 a4:=Tryz.isAgg4
 z4:=Tryz.sizeOf4
 v4:=Tryz.zeroValue4
 t22:=Tryz.underlying25
 a22:=Tryz.isAgg25
 z22:=Tryz.sizeOf25
 v22:=Tryz.zeroValue25 }
end Go.Proofs
namespace Go.Proofs.YtkcfgbddlpomgaaGreat.Ar
open Go.ChangeShapes Go.WideShapes Go.RowKit
def readable (P:Program) (ts:List Z):Bool:=ts.all fun t=>P.readableRec t && decide (t<P.types.size)
theorem carry {H:Type} {enc:Z×O->H} {P:Program} (hl:laidOutB P=true) {W W':Q} (hb:Below W.heap.size W W') :
  ∀ (ts:List Z) (vs:List O) (ds:List (DataW H)) (ps:List MemPlace),readable P ts=true->DataW.TrodAll enc P W 0 (fun _=>true) true ts vs ds ps->(∀ x∈ps,x.block<W.heap.size) ->
   DataW.TrodAll enc P W' 0 (fun b=>decide (b<W.heap.size)) true ts vs ds ps
 | [],vs,ds,ps,_,h,_=>by
  obtain⟨rfl,rfl,rfl⟩:=trodAll_nil h;exact trodAll_mk0
 | t::ts,vs,ds,ps,hr,h,hlt=>by
  obtain⟨v,vs',d,ds',p,q,rfl,rfl,rfl,h1,h2⟩:=trodAll_cons h;simp only [readable,List.all_cons,Bool.and_eq_true,decide_eq_true_eq] at hr;exact trodAll_cons_mk (Below.trod hl hr.1.1 hr.1.2 h1 hb (fun x hx=>hlt x (List.mem_append_left _ hx)))
   (carry hl hb ts vs' ds' q hr.2 h2 (fun x hx=>hlt x (List.mem_append_right _ hx)))
end Go.Proofs.YtkcfgbddlpomgaaGreat.Ar
