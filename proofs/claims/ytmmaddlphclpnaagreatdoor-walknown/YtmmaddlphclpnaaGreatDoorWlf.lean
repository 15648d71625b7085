import Derived.Test.YtmmaddlphclpnaaGreatDoorWle
namespace Go.Proofs.YtmmaddlphclpnaaGreatDoor
open Go.RowKit Go.ChangeShapes Go.WideShapes Go.Maps Go.Sort

/-- The first eight bytes of a frame. -/
def hd8 (n : Nat) : List Nat := nb4 n ++ nb4 (n ^^^ 4294967295)
/-- A payload's frame. -/
def frame (p : List Nat) : List Nat := hd8 p.length ++ nb4 (Sm (Sm 0 (hd8 p.length)) p) ++ p
theorem hd8_len (n : Nat) : (hd8 n).length = 8 := rfl
theorem frame_len (p : List Nat) : (frame p).length = p.length + 12 := by
  simp only [frame, List.length_append, hd8_len, nb4_len]
  omega
theorem makeC (x : Nat) (w : World) (hx : x ≤ 16777216) : ∃ w', (Instr.makeSlice 35 (.int .i64 0) (.int .i64 (x : Int))).run Tryz.prog w = .ok (.slice (some ⟨w.heap.size, 0, none⟩) 0 x) w' ∧ w'.ownsRow w.heap.size 5 1 (.slice (some ⟨w.heap.size, 0, none⟩) 0 x) 0 [] ∧ Fr (fun _ => False) w w' := by
  obtain ⟨i, hi, hz, hs, hb⟩ := info_parts Tryz.info5
  obtain ⟨w', hr, ho, hg⟩ := run_makeSlice_owned (P := Tryz.prog) w w.heap.size 35 5 i (.int .u8 0) 1 Tryz.underlying35 hi hz hs .i64 .i64 x (by omega) (by rw [hb]; omega) (by simp only [maxLen]; omega) (Nat.le_refl _)
  exact ⟨w', hr, ho, (Fr.refl _ _).grown hg (fun _ h => by cases h)⟩
set_option maxHeartbeats 1000000 in
set_option maxRecDepth 100000 in
theorem framed_any (y : Value) (p : List Nat) (w : World) (hy : Src w y p) (hp : p.length ≤ 1048576) :
    Calls Tryz.prog 45 #[y] w fun e w' => ∃ v, e = .returned v ∧ w'.ownsRow w.heap.size 5 1 v (frame p).length (cellsOf (frame p)) ∧ Fr (fun _ => False) w w' := by
  obtain ⟨yo, yc, rfl⟩ := hy.form
  obtain ⟨w1, hr1, hown1, hf1⟩ := makeC (12 + p.length) w (by omega)
  have HY := hide hy
  have H1 := hide (And.intro hown1 hf1)
  have hr1' : (Instr.makeSlice 35 (.int .i64 0) (.int .i64 (12 + (p.length : Int)))).run Tryz.prog w = .ok (.slice (some ⟨w.heap.size, 0, none⟩) 0 (12 + p.length)) w1 := by rw [← hr1]; rfl
  have HP := hide hp
  have hwr : IntKind.u32.wrap (p.length : Int) = (p.length : Int) := by rw [IntKind.wrap_u32]; omega
  have hnt : bits .xor .u32 IntKind.u32.max (p.length : Int) = ((p.length ^^^ 4294967295 : Nat) : Int) := not_u32 p.length (by omega)
  obtain ⟨NT, hNT⟩ : ∃ NT, NT = p.length ^^^ 4294967295 := ⟨_, rfl⟩
  rw [← hNT] at hnt
  have hNTl : NT < 4294967296 := by rw [hNT]; exact not_lt p.length (by omega)
  have HNT := hide (And.intro hNT hNTl)
  clear hy hown1 hf1 hr1 hNT hNTl
  go_enter Tryz.func45, Tryz.ntmps45
  go_wp2_with fail
  refine (appendNumber_any w.heap.size p.length [] _ w1 (unhide H1).1 (unhide H1).2.size (by decide) (by have := unhide HP; omega)).mono ?_
  rintro e w2 ⟨v2, rfl, hown2, hf2, hb2⟩
  obtain ⟨b2o, b2c, rfl⟩ := own_form hown2
  have hF2 : Fr (fun _ => False) w w2 := (unhide H1).2.absorb hf2 (fun k hk => by cases hk; exact Nat.le_refl _)
  have H2 := hide (And.intro hown2 hF2)
  clear hown2 hf2 hb2 hF2
  go_wp2_with fail
  refine (appendNumber_any w.heap.size NT _ _ w2 (unhide H2).1 (unhide H2).2.size (by rw [List.nil_append, nb4_len]; decide) (unhide HNT).2).mono ?_
  rintro e w3 ⟨v3, rfl, hown3, hf3, hb3⟩
  obtain ⟨b3o, b3c, rfl⟩ := own_form hown3
  have hF3 : Fr (fun _ => False) w w3 := (unhide H2).2.absorb hf3 (fun k hk => ((unhide H2).1.lt k hk).1)
  have e3 : [] ++ nb4 p.length ++ nb4 NT = hd8 p.length := by rw [(unhide HNT).1]; rfl
  rw [e3] at hown3
  have H3 := hide (And.intro hown3 hF3)
  rw [e3]
  clear hown3 hf3 hb3 hF3
  go_wp2_with fail
  refine (wsum_any _ _ (hd8 p.length) p w3 (own_src (unhide H3).1) ((unhide HY).fr0 (unhide H3).2) (by rw [hd8_len]; decide) (by have := unhide HP; omega)).mono ?_
  rintro e w4 ⟨rfl, hf4⟩
  have hown4 : w4.ownsRow w.heap.size 5 1 (.slice b3o (hd8 p.length).length b3c) (hd8 p.length).length (cellsOf (hd8 p.length)) := ownsRow_of_block (unhide H3).1 (fun g hg => hf4.block g ((unhide H3).1.lt g hg).2 (fun h => h))
  have H4 := hide (And.intro hown4 ((unhide H3).2.trans hf4 (fun _ _ h => h)))
  clear hown4 hf4
  go_wp2_with fail
  refine (appendNumber_any w.heap.size (Sm (Sm 0 (hd8 p.length)) p) _ _ w4 (unhide H4).1 (unhide H4).2.size (by rw [hd8_len]; decide) (Sm_lt _ _ (Sm_lt 0 _ (by decide)))).mono ?_
  rintro e w5 ⟨v5, rfl, hown5, hf5, hb5⟩
  obtain ⟨b5o, b5c, rfl⟩ := own_form hown5
  have hF5 : Fr (fun _ => False) w w5 := (unhide H4).2.absorb hf5 (fun k hk => ((unhide H4).1.lt k hk).1)
  obtain ⟨F, hFr⟩ : ∃ F, F = hd8 p.length ++ nb4 (Sm (Sm 0 (hd8 p.length)) p) := ⟨_, rfl⟩
  have hFl : F.length = 12 := by rw [hFr]; rfl
  rw [← hFr] at hown5 ⊢
  obtain ⟨ao6, c6, w6, hr6, hown6, hg6, _⟩ := run_app_sl w5 35 w.heap.size F.length _ _ (cellsOf F) p hown5 ((unhide HY).fr0 hF5) (by have := unhide HP; omega) hF5.size
  have hF6 : Fr (fun _ => False) w w6 := hF5.absorb ((Fr.refl _ _).grown hg6 (fun k hk => .inl hk) : Fr (fun k => (Value.slice b5o F.length b5c).ownBlock = some k) w5 w6) (fun k hk => (hown5.lt k hk).1)
  rw [← cellsOf_append, ← List.length_append] at hown6
  have HR6 := hide hr6
  have H6 : Hid (w6.ownsRow w.heap.size 5 1 (.slice ao6 (F.length + p.length) c6) (frame p).length (cellsOf (frame p)) ∧ Fr (fun _ => False) w w6) := by
    have e : F ++ p = frame p := by rw [hFr]; rfl
    rw [e] at hown6
    refine hide ⟨?_, hF6⟩
    have el : F.length + p.length = (frame p).length := by rw [← e, List.length_append]
    rw [el]
    exact hown6
  clear hown5 hf5 hb5 hF5 hr6 hown6 hg6 hF6 hFr hFl
  go_wp2_with (at_builtin; refine wpList_app rfl _ _ 35 35 rfl _ _ _ rfl rfl (unhide HR6) ?_; clear HR6)
  go_ret
  exact ⟨_, rfl, (unhide H6).1, (unhide H6).2⟩
end Go.Proofs.YtmmaddlphclpnaaGreatDoor
