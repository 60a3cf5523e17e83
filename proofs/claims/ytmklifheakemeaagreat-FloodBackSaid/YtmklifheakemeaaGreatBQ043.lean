/-
  A broker that steps . Conditions as told.
-/
import Derived.Test.YtmklifheakemeaaGreatBQ042
set_option maxRecDepth 100000
set_option maxHeartbeats 64000000
open _root_.Nat renaming le_trans->D
namespace Go.Proofs.YtmklifheakemeaaGreat.Av
open Go.RowKit Go.Sort Rw YtmklifheakemeaaGreat.Nm Pr Bk
theorem iF {p:List C5} (h:dZ p):p.length<=5:=by
 obtain⟨a,na,rfl⟩:=h;rw [List.length_map];exact na.five
theorem KI.few {b:Br} (h:KI 12 b):PW b:=⟨D h.ln (by decide),D h.la (by decide),D h.ls (by decide),D h.le (by decide),D h.lo (by decide)⟩
theorem KI.uE {b:Br} (h:KI 12 b):yP b:=⟨fun a q=>D (iF (h.pa a q)) (by decide),fun a q=>D (iF (h.pe a q)) (by decide),fun a q=>D (iF (h.po a q)) (by decide)⟩
abbrev z5:C5:=(⟨#[]⟩,0,0,0,⟨#[]⟩)
abbrev c0 (b:Br) (z:Int):Br:={ b with near:=b.near++[z] }
abbrev c1 (b:Br):Br:={ b with dQ:=b.dQ++[⟨(99,0),[],-1⟩] }
abbrev c2 (b:Br):Br:={ b with ent:=b.ent++[⟨(98,0),(0,0),[],-1,false⟩] }
abbrev c3 (b:Br):Br:={ b with own:=b.own++[⟨(-1,0),[]⟩,⟨(-1,0),[]⟩] }
abbrev c4 (b:Br):Br:={ b with seen:=b.seen++[(97,0),(97,0)] }
abbrev c5 (b:Br):Br:={ b with own:=[⟨(-5,0),[z5]⟩]++b.own }
end Go.Proofs.YtmklifheakemeaaGreat.Av
