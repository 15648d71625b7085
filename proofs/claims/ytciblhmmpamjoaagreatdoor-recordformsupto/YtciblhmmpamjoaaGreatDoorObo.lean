import Derived.Test.YtciblhmmpamjoaaGreatDoorOcc
namespace Go.Proofs.YtciblhmmpamjoaaGreatDoor
open Go.RowKit Go.Shelf

theorem scells_len (l : List SM) : (scells l).length = l.length * 4 := by
  induction l with
  | nil => rfl
  | cons f r ih =>
    have e : scells (f :: r) = [.int .u32 (f.au : Nat), .int .u32 (f.ev : Nat), .int .u32 (f.nf : Nat), .bool f.rd] ++ scells r := by simp [scells]
    rw [e, List.length_append, ih]
    simp only [List.length_cons, List.length_nil]
    omega
theorem scells_app (l : List SM) (x : SM) : scells (l ++ [x]) = scells l ++ [.int .u32 (x.au : Nat), .int .u32 (x.ev : Nat), .int .u32 (x.nf : Nat), .bool x.rd] := by simp [scells]
theorem Tryz.infoSu : (Tryz.prog.info? 99).map (fun i => (i.zero, i.size, i.bytes)) = some (some (.agg #[.int .u32 0, .int .u32 0, .int .u32 0, .bool false]), 4, 16) := by kernel_rfl
/-- append(history, s). -/
theorem app_sum (w : World) (base x : Nat) (v : Value) (l : List SM) (y : SM) (h : OwS w base v l) (hb : base ≤ w.heap.size) (hn : l.length ≤ 1000000) (hx : w.heap[x]? = some (.cells #[.int .u32 (y.au : Nat), .int .u32 (y.ev : Nat), .int .u32 (y.nf : Nat), .bool y.rd] 99)) :
    ∃ ao cap w', (Builtin.append_ #[45, 45] 45 #[v, .slice (some ⟨x, 0, none⟩) 1 1]).run Tryz.prog w = .ok (.slice ao (l.length + 1) cap) w' ∧ OwS w' base (.slice ao (l.length + 1) cap) (l ++ [y]) ∧ Fr (fun g => v.ownBlock = some g) w w' := by
  obtain ⟨i0, hi, hz0, hz1, hz2⟩ := info_parts Tryz.infoSu
  obtain ⟨v', w', hr, h2, h3, _, h5⟩ := run_append_own_at (P := Tryz.prog) (w := w) base 45 45 99 i0 (.agg #[.int .u32 0, .int .u32 0, .int .u32 0, .bool false]) 4 16 Tryz.underlying45 hi hz0 hz1 hz2 rfl (by decide) v l.length (scells l) h ⟨x, 0, none⟩ 1 1 [.int .u32 (y.au : Nat), .int .u32 (y.ev : Nat), .int .u32 (y.nf : Nat), .bool y.rd] rfl (fun j u hu => by
    rw [addr_add, Nat.zero_add]
    simp only [World.cell?, hx]
    simpa using hu) (fun u hu => by simp at hu; rcases hu with rfl | rfl | rfl | rfl <;> rfl) (by simp only [maxLen]; omega) (by omega) hb
  obtain ⟨ao, cap, rfl⟩ := own_formX h2
  refine ⟨ao, cap, w', hr, ?_, (Fr.refl _ _).grown h3 (fun g hg => .inl hg)⟩
  unfold OwS
  rw [scells_app, List.length_append, List.length_singleton]
  exact h2
set_option maxHeartbeats 1000000 in
set_option maxRecDepth 100000 in
/-- summary. -/
theorem summary_any (au ev : Nat) (rd : Bool) (xo : Option Addr) (n xc : Nat) (w : World) (hn : n ≤ 1000) : Calls Tryz.prog 127 #[.agg #[.int .u32 (au : Nat), .int .u32 (ev : Nat), .slice xo n xc, .bool rd]] w fun e w' => e = .returned (.agg #[.int .u32 (au : Nat), .int .u32 (ev : Nat), .int .u32 (n : Nat), .bool rd]) ∧ Fr (fun _ => False) w w' := by
  have a2 : IntKind.u32.wrap (n : Int) = (n : Int) := by rw [IntKind.wrap_u32]; omega
  obtain ⟨W1, hW1⟩ : ∃ W1, W1 = (w.alloc (.cells #[.int .u32 (au : Nat), .int .u32 (ev : Nat), .slice xo n xc, .bool rd] 163)).alloc (.cells #[.int .u32 0, .int .u32 0, .int .u32 0, .bool false] 99) := ⟨_, rfl⟩
  have HF : Hid (Fr (fun _ => False) w W1) := by rw [hW1]; exact (box1 w _).trans (box1 _ _) (fun _ _ h => h)
  go_enter Tryz.func127, Tryz.ntmps127
  go_wp2_with fail
  refine bodyPost_ret (results_cell_mid rfl _ _ (w.heap.size + 1) 0 [.int .u32 (au : Nat), .int .u32 (ev : Nat), .int .u32 (n : Nat), .bool rd] _ rfl ?_ Tryz.underlying99 rfl (by kernel_rfl)) rfl ?_
  · intro j v hv
    rcases j with _ | _ | _ | _ | j
    · simp at hv; subst hv; go_simp
    · simp at hv; subst hv; go_simp
    · simp at hv; subst hv; go_simp
    · simp at hv; subst hv; go_simp
    · simp at hv
  · refine ⟨rfl, ?_⟩
    repeat refine Fr.setCell ?_ (.inr (by simp)) _
    exact (box1 w _).trans (box1 _ _) (fun _ _ h => h)
theorem blk7 {W : World} {g t : Nat} {a0 a1 a2 a3 a4 a5 a6 : Value} (hb : W.heap[g]? = some (.cells #[a0, a1, a2, a3, a4, a5, a6] t)) : W.cell? ⟨g, 0, none⟩ = some a0 ∧ W.cell? ⟨g, 1, none⟩ = some a1 ∧ W.cell? ⟨g, 2, none⟩ = some a2 ∧ W.cell? ⟨g, 3, none⟩ = some a3 ∧ W.cell? ⟨g, 4, none⟩ = some a4 ∧ W.cell? ⟨g, 5, none⟩ = some a5 ∧ W.cell? ⟨g, 6, none⟩ = some a6 := by
  refine ⟨?_, ?_, ?_, ?_, ?_, ?_, ?_⟩ <;> (simp only [World.cell?, hb]; rfl)
end Go.Proofs.YtciblhmmpamjoaaGreatDoor
