/-
  join of package pred. Conditions as told.
-/
import Derived.Test.YtncogjpmboglhaaGreatF020
import Derived.Test.YtncogjpmboglhaaGreatF022
import Derived.Test.YtncogjpmboglhaaGreatF008
import Derived.Deep.RegionWith
set_option maxRecDepth 100000
set_option maxHeartbeats 64000000
namespace Go.Proofs.YtncogjpmboglhaaGreat.Pr
open Go.RowKit Go.Sort Pu Rw Va
theorem flat5_set:∀ (l:List C5) (k:Nat) (x:C5),k<l.length→flat EC (l.set k x)=((((( flat EC l).set (k * 5) (.string x.1)).set (k * 5+1) (.int .i64 x.2.1)).set (k * 5+2) (.int .i64 x.2.2.1)).set (k * 5+3) (.int .i64 x.2.2.2.1)).set (k * 5+4) (.string x.2.2.2.2)
 | [],k,x,h=>by simp at h
 | y::r,0,x,_=>by simp [flat,EC,cells5]
 | y::r,k+1,x,h=>by
  have h2:=flat5_set r k x (by simpa using h)
  have e:∀ j u (zs:List Value),(cells5 y++zs).set (5+j) u=cells5 y++zs.set j u:=fun j u zs=>by simp [cells5,Nat.add_comm 5 j]
  simp only [List.set_cons_succ,flat,h2]
  show cells5 y++_=_
  rw [show (k+1) * 5=5+k * 5 by omega,show 5+k * 5+1=5+(k * 5+1) by omega,show 5+k * 5+2=5+(k * 5+2) by omega,show 5+k * 5+3=5+(k * 5+3) by omega,show 5+k * 5+4=5+(k * 5+4) by omega]
  show _=((((( cells5 y++flat EC r).set _ _).set _ _).set _ _).set _ _).set _ _
  rw [e,e,e,e,e]
theorem own_store {W:World} {B g n cap k:Nat} {l:List C5} {x:C5} (h:OwnC W B (.slice (some ⟨g,0,none⟩) n cap) l) (hn:n=l.length) (hk:k<n) :
  OwnC (((((W.setCell ⟨g,k * 5,none⟩ (.string x.1)).setCell ⟨g,k * 5+1,none⟩ (.int .i64 x.2.1)).setCell ⟨g,k * 5+2,none⟩ (.int .i64 x.2.2.1)).setCell ⟨g,k * 5+3,none⟩ (.int .i64 x.2.2.2.1)).setCell ⟨g,k * 5+4,none⟩ (.string x.2.2.2.2)) B (.slice (some ⟨g,0,none⟩) n cap) (l.set k x):=by
 subst hn
 have o1:=(World.ownsRow.stored h (k * 5) (.string x.1)).1
 have o2:=(World.ownsRow.stored o1 (k * 5+1) (.int .i64 x.2.1)).1
 have o3:=(World.ownsRow.stored o2 (k * 5+2) (.int .i64 x.2.2.1)).1
 have o4:=(World.ownsRow.stored o3 (k * 5+3) (.int .i64 x.2.2.2.1)).1
 have o5:=(World.ownsRow.stored o4 (k * 5+4) (.string x.2.2.2.2)).1
 rw [← flat5_set l k x hk] at o5
 show World.ownsRow _ _ _ _ _ (l.set k x).length _
 rw [List.length_set]
 exact o5
theorem below_fiveAt {B:Nat} {W w:World} (h:Below B W w) (g:Nat) (hB:B≤g) (o:Nat) (v0 v1 v2 v3 v4:Value):Below B W (((((w.setCell ⟨g,o,none⟩ v0).setCell ⟨g,o+1,none⟩ v1).setCell ⟨g,o+2,none⟩ v2).setCell ⟨g,o+3,none⟩ v3).setCell ⟨g,o+4,none⟩ v4) :=
 ((((h.setCell hB _).setCell hB _).setCell hB _).setCell hB _).setCell hB _
theorem box_store {W:World} {b:Nat} {z:C5} (h:Box W b (cells5 z).toArray 47) (x:C5):Box (((((W.setCell ⟨b,0,none⟩ (.string x.1)).setCell ⟨b,1,none⟩ (.int .i64 x.2.1)).setCell ⟨b,2,none⟩ (.int .i64 x.2.2.1)).setCell ⟨b,3,none⟩ (.int .i64 x.2.2.2.1)).setCell ⟨b,4,none⟩ (.string x.2.2.2.2)) b (cells5 x).toArray 47:=by
 have h1:=heap_setCell_same W b 0 _ 47 (.string x.1) h
 have h2:=heap_setCell_same _ b 1 _ 47 (.int .i64 x.2.1) h1
 have h3:=heap_setCell_same _ b 2 _ 47 (.int .i64 x.2.2.1) h2
 have h4:=heap_setCell_same _ b 3 _ 47 (.int .i64 x.2.2.2.1) h3
 have h5:=heap_setCell_same _ b 4 _ 47 (.string x.2.2.2.2) h4
 unfold Box
 rw [h5]
 simp [cells5]
end Go.Proofs.YtncogjpmboglhaaGreat.Pr
