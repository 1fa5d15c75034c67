/- trace.rows: the spans of each block that have a time, in the order of their beginnings. -/
import Derived.Test.YtafkkehcacdodaaGreatTraGroup
set_option maxRecDepth 100000
namespace Go.Proofs.YtafkkehcacdodaaGreat
open Go.RowKit Go.Maps

/-- What rows hands back. -/
structure RowsOf (w : World) (base mb : Nat) (l : List Sp) (f : Pl → Option Value) (G : Pl → List Sp) : Prop where
  map : KMap 118 plK w mb l.length f
  grp : Grp w base f G
  perm : ∀ p, (G p).Perm (rowOf l p.1 p.2)
  up : ∀ p, (G p).Pairwise (fun x y => x.frm ≤ y.frm)

end Go.Proofs.YtafkkehcacdodaaGreat
