import Derived.Test.YthccbfgjekdiiaaDoorMhd1
import Derived.Test.YthccbfgjekdiiaaDoorMhd2
import Derived.Test.YthccbfgjekdiiaaDoorMhd3
import Derived.Test.YthccbfgjekdiiaaDoorMhd4
namespace Go.Proofs.YthccbfgjekdiiaaDoor
open Go.RowKit

/-- MerkleTaken. -/
theorem taken_any (j : Int) (x : Value) (vs : List Value) (es : List (List Nat)) (i : Int) (y : Value) (zs : List Int) (w : World) (hg : GS w) (ht : GT w) (hp : Pcs w x vs es) (hC : Cp x) (hB : ∀ e ∈ es, e.length ≤ 16000000) (hn : es.length ≤ 4000000) (hy : Ints w y zs) (hzl : zs.length ≤ 4000000) (hzb : ∀ z ∈ zs, -9223372036854775808 ≤ z) :
    Calls Tryd.prog 3 #[.int .i64 j, x, .int .i64 i, y] w fun e w' => e = .returned (.bool true) ∧ Fr (fun _ => False) w w' := by
  by_cases h1 : i < 0
  · exact taken_3 j x vs es i y zs w hg ht hp hC hB hn hy hzl hzb h1
  · by_cases h2 : (es.length : Int) < i
    · exact taken_4 j x vs es i y zs w hg ht hp hC hB hn hy hzl hzb h2
    · by_cases h3 : i = (es.length : Int)
      · exact taken_2 j x vs es i y zs w hg ht hp hC hB hn hy hzl hzb h3
      · exact taken_1 j x vs es i y zs w hg ht hp hC hB hn hy hzl hzb (by omega)
end Go.Proofs.YthccbfgjekdiiaaDoor
