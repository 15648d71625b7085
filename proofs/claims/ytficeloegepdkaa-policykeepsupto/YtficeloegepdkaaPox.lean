import Derived.Test.YtficeloegepdkaaPow
import Derived.Test.YtficeloegepdkaaPot
namespace Go.Proofs.Ytficeloegepdkaa
open Go.ChangeShapes Go.WideShapes Go.ChangeAt Go.RowKit Go.Deep
set_option maxRecDepth 100000

theorem Try.cellsSheet : Try.prog.cellsOf 46 = 4 := by kernel_rfl
theorem Try.cellsAsked : Try.prog.cellsOf 48 = 10 := by kernel_rfl
theorem Try.cellsSls : Try.prog.cellsOf 22 = 1 := by kernel_rfl
theorem Try.cellsSlu : Try.prog.cellsOf 27 = 1 := by kernel_rfl
theorem Try.cellsSlf : Try.prog.cellsOf 36 = 1 := by kernel_rfl
theorem sheet_of_trod {H : Type} {enc : TypeId × Value → H} {W : World} {fuel : Nat} {cs : List Value} {x : DataW H × List MemPlace} (h : DataW.trod enc Try.prog W 0 (fun _ => true) true fuel 46 cs = some x) :
    ∃ (wd ow : Nat) (sl : Bool) (gv : Value) (G : List Nat), cs = [.int .u32 (wd : Nat), .int .u32 (ow : Nat), .bool sl, gv] ∧ Us W gv G ∧ G.length + 1 ≤ Rows.uptoBulk x.1 := by
  obtain ⟨xs, n, _, rfl, hl, hlen, hf⟩ := DataW.trod_struct Try.underlying46 h
  rw [Try.cellsSheet] at hl
  have h0 := hf 0 _ rfl
  have h1 := hf 1 _ rfl
  have h2 := hf 2 _ rfl
  have h3 := hf 3 _ rfl
  match cs, hl with
  | [c0, c1, c2, c3], _ =>
    match xs, hlen with
    | [y0, y1, y2, y3], _ =>
      simp [Try.cellsU32, Try.cellsBool, Try.cellsSlu] at h0 h1 h2 h3
      obtain ⟨a, e0, rfl, wa⟩ := DataW.trod_int Try.underlying26 h0
      obtain ⟨b, e1, rfl, wb⟩ := DataW.trod_int Try.underlying26 h1
      obtain ⟨c, e2, rfl⟩ := DataW.trod_bool Try.underlying4 h2
      simp only [List.cons.injEq, and_true] at e0 e1 e2
      subst e0 e1 e2
      obtain ⟨a, rfl, _⟩ := nat_u32 wa
      obtain ⟨b, rfl, _⟩ := nat_u32 wb
      obtain ⟨G, hG, hb⟩ := us_of_trod h3
      refine ⟨a, b, c, c3, G, rfl, hG, ?_⟩
      simp only [List.map_cons, List.map_nil, Rows.uptoBulk, Rows.uptoBulkAll]
      omega
/-- A question that came in. -/
theorem asked_of_reading {H : Type} {enc : TypeId × Value → H} {W : World} {base : Nat} {v : Value} {d : DataW H} {p : List MemPlace} (hval : Value.okWide Try.prog W .any base 48 v) (h : DataW.Trod enc Try.prog W 0 (fun _ => true) true 48 v d p) :
    ∃ (q : AQ) (S : List P3) (G : List Nat) (F : List F5), v = .agg q.cs ∧ Stf W q.lv S ∧ Us W q.gv G ∧ Fds W q.fv F ∧ S.length + 1 ≤ Rows.uptoBulk d ∧ G.length + 1 ≤ Rows.uptoBulk d ∧ F.length + 1 ≤ Rows.uptoBulk d := by
  obtain ⟨cs, rfl, hsz⟩ := okWide_struct Try.underlying48 hval
  obtain ⟨fuel, hf0⟩ := h
  obtain ⟨xs, n, _, hx, hl, hlen, hfs⟩ := DataW.trod_struct Try.underlying48 hf0
  rw [Try.cellsAsked] at hl
  simp only [Prod.mk.injEq] at hx
  obtain ⟨rfl, -⟩ := hx
  have h0 := hfs 0 _ rfl
  have h1 := hfs 1 _ rfl
  have h2 := hfs 2 _ rfl
  have h3 := hfs 3 _ rfl
  have h4 := hfs 4 _ rfl
  have h5 := hfs 5 _ rfl
  have h6 := hfs 6 _ rfl
  have hc : (Value.agg cs).cells.toList = cs.toList := rfl
  rw [hc] at hl h0 h1 h2 h3 h4 h5 h6
  obtain ⟨l⟩ := cs
  simp only at hl h0 h1 h2 h3 h4 h5 h6
  match l, hl with
  | [c0, c1, c2, c3, c4, c5, c6, c7, c8, c9], _ =>
    match xs, hlen with
    | [y0, y1, y2, y3, y4, y5, y6], _ =>
      simp [Try.cellsU32, Try.cellsSls, Try.cellsSheet, Try.cellsSlf, Try.cellsStr] at h0 h1 h2 h3 h4 h5 h6
      obtain ⟨S, hS, bS⟩ := stf_of_trod h0
      obtain ⟨wd, ow, sl, gv, G, eS, hG, bG⟩ := sheet_of_trod h1
      obtain ⟨a, e2, q2, wa⟩ := DataW.trod_int Try.underlying26 h2
      obtain ⟨b, e3, q3, wb⟩ := DataW.trod_int Try.underlying26 h3
      obtain ⟨c, e4, q4, wc⟩ := DataW.trod_int Try.underlying26 h4
      obtain ⟨F, hF, bF⟩ := fds_of_trod h5
      obtain ⟨s, e6, q6, _⟩ := DataW.trod_string Try.underlying9 h6
      simp only [List.cons.injEq, and_true] at eS e2 e3 e4 e6
      obtain ⟨rfl, rfl, rfl, rfl⟩ := eS
      subst e2 e3 e4 e6
      obtain ⟨a, rfl, _⟩ := nat_u32 wa
      obtain ⟨b, rfl, _⟩ := nat_u32 wb
      obtain ⟨c, rfl, _⟩ := nat_u32 wc
      have hbi : ∀ y : DataW H, y ∈ [y0, y1, y2, y3, y4, y5, y6].map (·.1) → Rows.uptoBulk y ≤ Rows.uptoBulk (DataW.agg ([y0, y1, y2, y3, y4, y5, y6].map (·.1)) : DataW H) := fun y hy => by
        have := bulk_in _ y hy
        simp only [Rows.uptoBulk]
        omega
      have b0 := hbi y0.1 (by simp)
      have b1 := hbi y1.1 (by simp)
      have b5 := hbi y5.1 (by simp)
      exact ⟨⟨c0, wd, ow, sl, c4, a, b, c, c8, s⟩, S, G, F, rfl, hS, hG, hF, by omega, by omega, by omega⟩
end Go.Proofs.Ytficeloegepdkaa
