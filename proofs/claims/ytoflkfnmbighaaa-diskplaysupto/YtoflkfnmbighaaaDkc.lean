import Derived.Test.YtoflkfnmbighaaaDkb
namespace Go.Proofs.Ytoflkfnmbighaaa
open Go.RowKit Go.ChangeShapes Go.WideShapes

/-- A new disk. -/
def DM.new (limit : Nat) : DM := ⟨limit, 0, 0, false, false, 0, 0, .map [], fun _ => ⟨[], 0, []⟩⟩
set_option maxRecDepth 100000 in
theorem new_any (limit : Nat) (w : World) (h1 : 1 ≤ limit) (h2 : limit ≤ 1048576) :
    Calls Try.prog 5 #[.int .i64 (limit : Nat)] w fun e w' => ∃ d m q O, e = .returned (.tuple #[.pointer (some ⟨d, 0, none⟩), .int .i64 0]) ∧ DkAt w' d m (DM.new limit) q O ∧ Fr (fun _ => False) w w' ∧ ∀ k, O k → w.heap.size ≤ k := by
  have hmk : ∀ w' : World, (Instr.makeMap 46 none).run Try.prog w' = .ok (.map (some w'.heap.size)) (w'.alloc (.map #[] 0)) := fun _ => rfl
  go_enter Try.func5, Try.ntmps5
  go_wp2
  go_ret2
  refine ⟨w.heap.size + 1, w.heap.size, ⟨fun _ => 0, fun _ => .slice none 0 0, fun _ => .slice none 0 0⟩, fun k => k = w.heap.size ∨ k = w.heap.size + 1, rfl, ⟨?_, ?_, fun k hk => (by cases hk), fun k hk => (by cases hk), fun k k' hk => (by cases hk), .inr rfl, .inl rfl, fun k hk => ?_⟩, box2 _ _ _, fun k hk => by omega⟩
  · have := heap_alloc_new (w.alloc (.map #[] 0)) (.cells #[.int .i64 (limit : Nat), .map (some w.heap.size), .int .i64 0, .int .i64 0, .bool false, .bool false, .int .i64 0, .int .i64 0] 48)
    simpa [DM.cells, DM.new] using this
  · exact (World.ownsMap_made w Try.prog 9 Rp).alloc _
  · simp; omega
set_option maxRecDepth 100000 in
theorem find_off (d m : Nat) (s : DM) (q : DW) (O : Nat → Prop) (name : ByteArray) (w : World) (h : DkAt w d m s q O) (ho : s.off = true) :
    Calls Try.prog 33 #[.pointer (some ⟨d, 0, none⟩), .string name] w fun e w' => e = .returned (.tuple #[.pointer none, .int .i64 6]) ∧ w' = w := by
  have c4 : w.cell? ⟨d, 4, none⟩ = some (.bool true) := by rw [← ho]; simp [World.cell?, h.blk, DM.cells]
  go_enter Try.func33, Try.ntmps33
  go_wp2
  go_ret2
  exact ⟨rfl, rfl⟩
theorem Try.zeroF (w : World) : (zeroValue 69).run Try.prog w = .ok (.pointer none) w := by kernel_rfl
set_option maxRecDepth 100000 in
theorem find_none (d m : Nat) (s : DM) (q : DW) (O : Nat → Prop) (name : ByteArray) (w : World) (h : DkAt w d m s q O) (ho : s.off = false) (hn : name.size ≤ maxLen) (hh : Maps.has s.D (.string (nm name)) = false) :
    Calls Try.prog 33 #[.pointer (some ⟨d, 0, none⟩), .string name] w fun e w' => e = .returned (.tuple #[.pointer none, .int .i64 15]) ∧ w' = w := by
  have c4 : w.cell? ⟨d, 4, none⟩ = some (.bool false) := by rw [← ho]; simp [World.cell?, h.blk, DM.cells]
  have c1 : w.cell? ⟨d, 1, none⟩ = some (.map (some m)) := by simp [World.cell?, h.blk, DM.cells]
  obtain ⟨v, ps, hr, hv⟩ := h.map.lookup Try.sK (t := 46) Try.underlying46 (Try.zeroF w) Rp_nil (key_nm name hn)
  rw [Maps.atKey_of_not_has hh] at hv
  rcases Rp_inv hv with ⟨rfl, _⟩ | ⟨b, _, hb⟩
  · go_enter Try.func33, Try.ntmps33
    go_wp2
    go_ret2
    exact ⟨rfl, rfl⟩
  · cases hb
set_option maxRecDepth 100000 in
theorem find_at (d m : Nat) (s : DM) (q : DW) (O : Nat → Prop) (name : ByteArray) (w : World) (h : DkAt w d m s q O) (ho : s.off = false) (hn : name.size ≤ maxLen) (hh : Maps.has s.D (.string (nm name)) = true) :
    Calls Try.prog 33 #[.pointer (some ⟨d, 0, none⟩), .string name] w fun e w' => e = .returned (.tuple #[.pointer (some ⟨q.fb (nm name), 0, none⟩), .int .i64 0]) ∧ w' = w := by
  have c4 : w.cell? ⟨d, 4, none⟩ = some (.bool false) := by rw [← ho]; simp [World.cell?, h.blk, DM.cells]
  have c1 : w.cell? ⟨d, 1, none⟩ = some (.map (some m)) := by simp [World.cell?, h.blk, DM.cells]
  obtain ⟨v, ps, hr, hv⟩ := h.map.lookup Try.sK (t := 46) Try.underlying46 (Try.zeroF w) Rp_nil (key_nm name hn)
  rw [(h.at_ _ hh).1] at hv
  rcases Rp_inv hv with ⟨_, hb⟩ | ⟨b, rfl, hb⟩
  · cases hb
  · have hb' : (q.fb (nm name) : Int) = b := by injection hb with h1 _; injection h1 with h1; injection h1 with _ h1
    obtain rfl : b = q.fb (nm name) := by omega
    go_enter Try.func33, Try.ntmps33
    go_wp2
    go_ret2
    exact ⟨rfl, rfl⟩
end Go.Proofs.Ytoflkfnmbighaaa
