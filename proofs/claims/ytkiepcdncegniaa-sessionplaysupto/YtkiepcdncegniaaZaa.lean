import Derived.Test.YtkiepcdncegniaaZad
import Derived.DeepKeys4
import Derived.Maps.RangeWalk
import Derived.Maps.OwnSet
import Derived.Maps.OwnOps
import Derived.Maps.Ext
namespace Go.Proofs.Ytkiepcdncegniaa
open Go.RowKit Go.ChangeShapes Go.WideShapes Go.Maps

theorem Try.laidOutS : laidOutB Try.prog = true := by kernel_rfl
theorem Try.rowId : (29 : TypeId) < Try.prog.types.size := of_decide_eq_true (by kernel_rfl)
theorem wide_of {P : Program} {t : TypeId} {fs : Array Field} (h : P.underlying t = some (.struct fs)) : (match P.underlying t with | some (.array _ _) | some (.struct _) => true | _ => false) = true := by rw [h]
set_option maxRecDepth 100000 in
/-- Ids as keys. -/
theorem idK : Keyed Try.prog 29 := Keyed.of_law (deep_law_laid Try.laidOutS (m := 3) (by omega) Try.rowId (by kernel_rfl) (wide_of Try.underlying29))
/-- An id. -/
def idv (c k : Nat) : Value := .agg #[.int .u32 (c : Nat), .int .u32 (k : Nat)]
def kid (c k : Nat) : Lit := .string (keyBytes [.int .u32 (c : Nat), .int .u32 (k : Nat)])
theorem kid_key (c k : Nat) : WideAt.IsKeyLit (kid c k) := trivial
theorem Try.keyTypeId : Try.prog.keyType 29 = true := by kernel_rfl
theorem pos_succ {m n : Nat} (h : m < n) : ∃ k, n = k + 1 := ⟨n - 1, by omega⟩
theorem Try.typesN : ∃ n, Try.prog.types.size = n + 1 := pos_succ Try.rowId
theorem Try.cellsId : Try.prog.cellsOf 29 = 2 := by kernel_rfl
theorem Try.cellsU : Try.prog.cellsOf 26 = 1 := by kernel_rfl
theorem wf32 (c : Nat) : (Lit.int .u32 (c : Nat)).wf = decide (c < 4294967296) := by
  have h1 : IntKind.u32.min = 0 := by decide
  have h2 : IntKind.u32.max = 4294967295 := by decide
  simp only [Lit.wf, h1, h2]
  by_cases h : c < 4294967296
  · simp [h]; omega
  · simp [h]; omega
theorem key_id (c k : Nat) (hc : c < 4294967296) (hk : k < 4294967296) : keyOf Try.prog 29 (idv c k) = some (kid c k) := by
  obtain ⟨n, hn⟩ := Try.typesN
  unfold keyOf
  rw [Try.underlying29, Try.keyTypeId, hn]
  have hf : (idv c k).formed Try.prog 29 = true := by simp [idv, Value.formed, Try.underlying29, Try.cellsId]
  rw [hf]
  simp [idv, Value.cells, Program.keyLits, Try.underlying29, Try.underlying26, Try.cellsId, Try.cellsU, wf32, hc, hk, kid]
theorem kid_inj {c k c' k' : Nat} (hc : c < 4294967296) (hk : k < 4294967296) (hc' : c' < 4294967296) (hk' : k' < 4294967296) (h : kid c k = kid c' k') : c = c' ∧ k = k' := by
  have h2 := key_id c' k' hc' hk'
  rw [← h] at h2
  have := idK.inj (key_id c k hc hk) h2
  simp only [idv, Value.agg.injEq] at this
  have e1 := congrArg (fun a : Array Value => a[0]?) this
  have e2 := congrArg (fun a : Array Value => a[1]?) this
  simp at e1 e2
  omega
theorem keyU {n : Nat} {v : Value} {l : List Lit} (h : Try.prog.keyLits (n + 1) 26 [v] = some l) : ∃ x : Nat, v = .int .u32 (x : Nat) ∧ l = [.int .u32 (x : Nat)] ∧ x < 4294967296 := by
  have h1 : IntKind.u32.min = 0 := by decide
  have h2 : IntKind.u32.max = 4294967295 := by decide
  cases v <;> simp only [Program.keyLits, Try.underlying26, reduceCtorEq] at h
  rename_i q x
  split at h
  · rename_i hc
    obtain ⟨rfl, w1⟩ := hc
    cases h
    simp only [Lit.wf, h1, h2, Bool.and_eq_true, decide_eq_true_eq] at w1
    exact ⟨x.toNat, by rw [Int.toNat_of_nonneg w1.1], by rw [Int.toNat_of_nonneg w1.1], by omega⟩
  · cases h
set_option linter.unusedSimpArgs false in
theorem keyTwo (n : Nat) (a b : Value) : Try.prog.keyLits (n + 1) 29 [a, b] = (Try.prog.keyLits n 26 [a]).bind fun x => (Try.prog.keyLits n 26 [b]).bind fun y => some (x ++ y) := by
  conv => lhs; unfold Program.keyLits
  rw [Try.underlying29]
  simp only [Try.cellsId]
  cases h1 : Try.prog.keyLits n 26 [a] <;> cases h2 : Try.prog.keyLits n 26 [b] <;> simp [h1, h2, Try.cellsU]
theorem pos_succ2 {m n : Nat} (h : m < n) (hm : 1 ≤ m) : ∃ k, n = k + 2 := ⟨n - 2, by omega⟩
theorem Try.typesN2 : ∃ n, Try.prog.types.size = n + 2 := pos_succ2 Try.rowId (by decide)
set_option maxRecDepth 100000 in
theorem keyOf_id {key : Value} {kl : Lit} (h : keyOf Try.prog 29 key = some kl) : ∃ c k, key = idv c k ∧ kl = kid c k ∧ c < 4294967296 ∧ k < 4294967296 := by
  obtain ⟨n, hn⟩ := Try.typesN2
  unfold keyOf at h
  rw [Try.underlying29, Try.keyTypeId, hn] at h
  simp only [Bool.true_and] at h
  split at h
  · rename_i hf
    cases key <;> simp [Value.formed, Try.underlying29] at hf
    rename_i cs
    rw [Try.cellsId] at hf
    obtain ⟨a, b, rfl⟩ : ∃ a b, cs = #[a, b] := by
      obtain ⟨l⟩ := cs
      match l, hf with
      | [a, b], _ => exact ⟨a, b, rfl⟩
    have e : (Value.agg #[a, b]).cells.toList = [a, b] := rfl
    rw [e, keyTwo] at h
    cases h1 : Try.prog.keyLits (n + 2) 26 [a] with
    | none => rw [h1] at h; cases h
    | some la =>
      cases h2 : Try.prog.keyLits (n + 2) 26 [b] with
      | none => rw [h1, h2] at h; cases h
      | some lb =>
        rw [h1, h2] at h
        obtain ⟨x, rfl, rfl, hx⟩ := keyU h1
        obtain ⟨y, rfl, rfl, hy⟩ := keyU h2
        cases h
        exact ⟨x, y, rfl, rfl, hx, hy⟩
  · cases h
/-- A map's element reads as itself. -/
def RU (v : Value) : Option (DataW Value × List MemPlace) := some (.held v, [])
end Go.Proofs.Ytkiepcdncegniaa
