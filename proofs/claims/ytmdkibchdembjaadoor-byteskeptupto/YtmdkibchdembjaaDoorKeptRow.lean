import Derived.Test.YtmdkibchdembjaaDoorKept
import Derived.Test.YtmdkibchdembjaaDoorSen
namespace Go.Proofs.YtmdkibchdembjaaDoor
open Go.ChangeShapes Go.WideShapes Go.ChangeAt Go.RowKit
set_option maxRecDepth 100000

theorem gl_of_laid_kept {W : World} (h : laidMetH Tryd.prog Rows.bytesKeptUptoRow.laid W) : ∃ E, Gl W E := by
  have hL : laidMet Tryd.prog [(_, Rows.laid_almoner_api_ErrShort), (_, Rows.laid_almoner_api_ErrLong), (_, Rows.laid_almoner_api_ErrTrailing)] W := h
  obtain ⟨a1, h1⟩ := sentinel_cell hL (.head _) (g := 3) (by kernel_rfl) (by kernel_rfl)
  obtain ⟨a2, h2⟩ := sentinel_cell hL (.tail _ (.head _)) (g := 4) (by kernel_rfl) (by kernel_rfl)
  obtain ⟨a3, h3⟩ := sentinel_cell hL (.tail _ (.tail _ (.head _))) (g := 0) (by kernel_rfl) (by kernel_rfl)
  exact ⟨fun n => if n = 1 then a1 else if n = 2 then a2 else a3, ⟨h1, h2, h3⟩⟩

theorem heap_enough {W : World} (h : W.ShapedOpen Tryd.prog) : 9 ≤ W.heap.size := by
  obtain ⟨cs, hc, _⟩ := h.1 8 #[.nilIface] 123 (by decide +kernel) (by kernel_rfl)
  rcases Nat.lt_or_ge 8 W.heap.size with hx | hx
  · exact hx
  · rw [Array.getElem?_eq_none hx] at hc; cases hc

theorem Fr.below {w w' : World} (h : Fr (fun _ => False) w w') : Below w.heap.size w w' := ⟨h.os, h.tape, h.output, h.size, fun k hk => h.block k hk (fun x => x)⟩

theorem kept_contract (H : Type) (enc : TypeId × Value → H) (W : World) (base : Nat) (args : Array Value) (ds gs : List (DataW H)) (before : List MemPlace)
    (hval : ∀ (j : Nat) t v, Tryd.f7.params[j]? = some t → args[j]? = some v → Value.okWide Tryd.prog W .any base t v)
    (hW : DataW.Whole enc Tryd.prog Tryd.f7.params.toList Rows.bytesKeptSpec.vars false W args.toList ds gs before) (hk : Rows.uptoSmall H (ds ++ gs) = true) (hL : laidMetH Tryd.prog Rows.bytesKeptUptoRow.laid W) (hsh : W.ShapedOpen Tryd.prog) :
    Calls Tryd.prog 7 args W fun e W' => ∃ v, e = .returned v ∧ Rows.bytesKeptSpec.post enc Tryd.prog Tryd.f7 false true false false W args v W' := by
  have hW' := hW
  obtain ⟨p, q, hA0, hV, rfl, hfz, hnd⟩ := hW
  have hA : DataW.TrodAll enc Tryd.prog W 0 (fun _ => true) true Tryd.f7.params.toList args.toList ds p := hA0
  rw [Tryd.params7] at hA hval
  obtain ⟨v0, vs0, d0, ds0, p0, q0, hargs, rfl, rfl, h0, r0⟩ := trodAll_cons hA
  obtain ⟨v1, vs1, d1, ds1, p1, q1, rfl, rfl, rfl, h1, r1⟩ := trodAll_cons r0
  obtain ⟨rfl, rfl, rfl⟩ := trodAll_nil r1
  obtain rfl : args = #[v0, v1] := by cases args; simp_all
  obtain ⟨rfl, rfl⟩ := trodVars_none hV
  obtain ⟨l0, s0, b0⟩ := src_of_reading (hval 0 25 v0 rfl rfl) h0
  obtain ⟨l1, s1, b1⟩ := src_of_reading (hval 1 25 v1 rfl rfl) h1
  have hbulk : Rows.uptoBulk d0 + (Rows.uptoBulk d1 + 0) ≤ 1048576 := by
    have h := of_decide_eq_true hk
    simpa only [List.append_nil, Rows.uptoBulkAll] using h
  obtain ⟨E, hg⟩ := gl_of_laid_kept hL
  refine (kept_any v0 v1 l0 l1 E W hg (heap_enough hsh) s0 s1 (by omega) (by omega)).mono fun e W' ⟨he, hf⟩ => ?_
  subst he
  have hlt : ∀ x ∈ p0 ++ (p1 ++ []), x.block < W.heap.size := fun x hx => hW'.lt x (by simpa using hx)
  have hb := hf.below
  refine ⟨_, rfl, _, _, _, [], p0 ++ (p1 ++ []), [], hW', ?_, ?_, ?_, hb.frame _, fun h => by cases h⟩
  · exact trodAll_cons_mk (shut_bool Tryd.underlying4 true) trodAll_mk0
  · exact trodAll_cons_mk (Below.trod (by kernel_rfl) (by kernel_rfl) (by decide +kernel) h0 hb (fun x hx => hlt x (by simp [hx]))) (trodAll_cons_mk (Below.trod (by kernel_rfl) (by kernel_rfl) (by decide +kernel) h1 hb (fun x hx => hlt x (by simp [hx]))) trodAll_mk0)
  · rfl

/-- A world for the witness: the settled one, each listed variable holding an error of its text. -/
noncomputable def keptLow : Nat := (World.holding Tryd.prog default ⟨#[], #[], []⟩).heap.size
noncomputable def keptWorld (os : Os) : World :=
  let w0 := World.holding Tryd.prog os ⟨#[.cells #[.string ⟨#[116, 111, 111, 32, 102, 101, 119, 32, 98, 121, 116, 101, 115]⟩] 166, .cells #[.string ⟨#[116, 111, 111, 32, 108, 111, 110, 103]⟩] 166, .cells #[.string ⟨#[98, 121, 116, 101, 115, 32, 98, 101, 104, 105, 110, 100, 32, 116, 104, 101, 32, 101, 110, 100]⟩] 166], #[], []⟩
  { w0 with heap := ((w0.heap.modify 3 fun
      | .cells _ t frozen => .cells #[.iface 147 (.pointer (some ⟨keptLow, 0, none⟩))] t frozen
      | o => o).modify 4 fun
      | .cells _ t frozen => .cells #[.iface 147 (.pointer (some ⟨keptLow + 1, 0, none⟩))] t frozen
      | o => o).modify 0 fun
      | .cells _ t frozen => .cells #[.iface 147 (.pointer (some ⟨keptLow + 2, 0, none⟩))] t frozen
      | o => o }
theorem kept_laid_met (os : Os) : laidMet Tryd.prog Rows.bytesKeptUptoRow.laid ((keptWorld os).forCall (fun _ _ => 0) ⟨#[], #[.slice none 0 0, .slice none 0 0], []⟩).memory :=
  laidMet_of_run' 8 (by kernel_rfl) (by kernel_rfl)
theorem kept_reads (os : Os) {H : Type} (enc : TypeId × Value → H) : ∃ places, DataW.whole enc Tryd.prog ((keptWorld os).forCall (fun _ _ => 0) ⟨#[], #[.slice none 0 0, .slice none 0 0], []⟩).memory Tryd.f7.params.toList Rows.bytesKeptSpec.vars false #[Value.slice none 0 0, .slice none 0 0].toList 8 = some ([.nil, .nil], [], places) :=
  ⟨[], by kernel_rfl⟩

theorem kept_lifted (os : Os) (started : os.Started) (H : Type) (enc : TypeId × Value → H) (F : Stop.Interp) :
    ReturnsInHanded {} Tryd.checked os 7 .any ((Rows.OpenSpec.upto Rows.bytesKeptSpec).preRow enc Tryd.prog Tryd.f7 Rows.bytesKeptUptoRow.domain false Rows.bytesKeptUptoRow.laid) (((Rows.OpenSpec.upto Rows.bytesKeptSpec).at F).post enc Tryd.prog Tryd.f7 false true false false) := by
  obtain ⟨places, hx⟩ := kept_reads os enc
  refine returnsInHanded_of_row (C := Tryd.checked) (s := Rows.OpenSpec.upto Rows.bytesKeptSpec) Tryd.ownKnob started (by kernel_rfl) Tryd.func7
    (witness_row_atRef (enc := enc) (C := Tryd.checked) false (keptWorld os) #[.slice none 0 0, .slice none 0 0] rfl (by kernel_rfl) (by kernel_rfl) (by kernel_rfl)
      (OpenSpec.preRow_of_cond 8 hx (by kernel_rfl) (fun k hk => by cases hk; kernel_rfl) (by kernel_rfl) (kept_laid_met os))) ?_
  intro W base args ds gs before hval hW _ hcond _ hL hsh _
  exact kept_contract H enc W base args ds gs before hval hW (hcond _ rfl) hL hsh

theorem kept_said : Rows.BytesKeptUptoSaid :=
  OpenClaim.holds_of_cond 7 Tryd.f7 rfl rfl rfl rfl rfl rfl rfl ⟨rfl, rfl, rfl, rfl, rfl⟩ rfl rfl rfl rfl rfl (by kernel_rfl) Tryd.func7 (by kernel_rfl)
    (of_decide_eq_true (by kernel_rfl)) (by unfold Func.isWrapper; first | (rw [if_pos (by decide +kernel)]; kernel_rfl) | (rw [if_neg (by decide +kernel)]; exact ⟨rfl, rfl⟩))
    (fun os started H enc _ F => by rw [OpenClaim.pre_eq_preRow]; exact kept_lifted os started H enc F)

theorem kept_plain (f : FuncId) (fn : Func) (hf : Tryd.pinned.checked.prog.funcNamed Rows.bytesKeptUptoRow.func = some f) (hfn : Tryd.pinned.checked.prog.funcs[f]? = some fn) :
    true = Tryd.pinned.checked.prog.looks [] ∧ ∀ (j : Nat) t, fn.params[j]? = some t → Tryd.pinned.checked.prog.wantsStandIn t = false := by
  obtain rfl : f = 7 := Option.some.inj ((show Tryd.prog.funcNamed Rows.bytesKeptUptoRow.func = some 7 by kernel_rfl).symm.trans hf) |>.symm
  obtain rfl : fn = Tryd.f7 := (Option.some.inj (Tryd.func7.symm.trans hfn)).symm
  refine ⟨by kernel_rfl, fun j t ht => ?_⟩
  rw [Tryd.params7] at ht
  obtain rfl : t = 25 := by simpa using Array.mem_of_getElem? ht
  exact (show Tryd.prog.wantsStandIn 25 = false by kernel_rfl)

/-- THE SECOND FORM's CARD. -/
theorem kept_card : Rows.BytesKeptUptoCardSaid :=
  Claim7.holds_tied_plain_at .later [] _ _ _ _ kept_said (fun _ h => by cases h) (by kernel_rfl) (fun _ h => by cases h) bytesKeptUpto_row_tie rfl ⟨rfl, rfl⟩ (by kernel_rfl) rfl kept_plain (by kernel_rfl)
#print axioms kept_card
end Go.Proofs.YtmdkibchdembjaaDoor
