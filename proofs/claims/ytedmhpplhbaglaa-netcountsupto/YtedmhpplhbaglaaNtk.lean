import Derived.Test.YtedmhpplhbaglaaNtj
namespace Go.Proofs.Ytedmhpplhbaglaa
open Go.RowKit Go.ChangeShapes Go.WideShapes Go.Maps

def kp1 : List PK := [⟨0, 1, [5], 0, false⟩, ⟨2, 0, [], 0, false⟩]
def kp2 : List PK := [⟨0, 1, [5], 0, false⟩, ⟨2, 0, [], 0, false⟩, ⟨0, 1, [5], 0, true⟩]
def kp3 : List PK := [⟨0, 1, [5], 0, false⟩, ⟨2, 0, [], 0, false⟩, ⟨0, 1, [5], 1, true⟩]
def kp4 : List PK := [⟨0, 1, [5], 0, false⟩, ⟨2, 0, [], 2, false⟩, ⟨0, 1, [5], 1, true⟩]
def kp5 : List PK := [⟨0, 1, [5], 0, false⟩, ⟨2, 0, [], 2, false⟩, ⟨0, 1, [5], 1, true⟩, ⟨1, 1, [6], 0, false⟩]
def kp6 : List PK := [⟨0, 1, [5], 2, false⟩, ⟨2, 0, [], 2, false⟩, ⟨0, 1, [5], 1, true⟩, ⟨1, 1, [6], 2, false⟩]
theorem owk_cell {w : World} {base g c : Nat} {L : List (PV × List Nat)} (h : OwK w base (.slice (some ⟨g, 0, none⟩) L.length c) L) (i : Nat) (x : PV × List Nat) (hx : L[i]? = some x) :
    w.cell? ⟨g, i * 4, none⟩ = some (.int .i64 x.1.n) ∧ w.cell? ⟨g, i * 4 + 1, none⟩ = some (.int .i64 x.1.f) ∧ w.cell? ⟨g, i * 4 + 2, none⟩ = some (.int .i64 x.1.t) ∧ w.cell? ⟨g, i * 4 + 3, none⟩ = some x.1.sl ∧ ∀ j, w.frozen? ⟨g, j, none⟩ = false := by
  have hlt := (List.getElem?_eq_some_iff.1 hx).1
  have hk : ∀ (L : List (PV × List Nat)) (i : Nat), L[i]? = some x → (kcells L)[i * 4]? = some (.int .i64 x.1.n) ∧ (kcells L)[i * 4 + 1]? = some (.int .i64 x.1.f) ∧ (kcells L)[i * 4 + 2]? = some (.int .i64 x.1.t) ∧ (kcells L)[i * 4 + 3]? = some x.1.sl := by
    intro L
    induction L with
    | nil => intro i hi; simp at hi
    | cons y L ih =>
      intro i hi
      rcases i with _ | i
      · simp at hi
        subst hi
        simp [kcells, PV.sl]
      · have := ih i (by simpa using hi)
        have e : kcells (y :: L) = [.int .i64 y.1.n, .int .i64 y.1.f, .int .i64 y.1.t, .slice y.1.a y.1.l y.1.c] ++ kcells L := by simp [kcells]
        rw [e, show (i + 1) * 4 = i * 4 + 4 by omega]
        refine ⟨?_, ?_, ?_, ?_⟩
        · rw [List.getElem?_append_right (by simp)]; simpa using this.1
        · rw [List.getElem?_append_right (by simp)]; simpa [show i * 4 + 4 + 1 - 4 = i * 4 + 1 by omega] using this.2.1
        · rw [List.getElem?_append_right (by simp)]; simpa [show i * 4 + 4 + 2 - 4 = i * 4 + 2 by omega] using this.2.2.1
        · rw [List.getElem?_append_right (by simp)]; simpa [show i * 4 + 4 + 3 - 4 = i * 4 + 3 by omega] using this.2.2.2
  obtain ⟨k0, k1, k2, k3⟩ := hk L i hx
  refine ⟨(h.row.cellAt _ (by omega)).trans k0, (h.row.cellAt _ (by omega)).trans k1, (h.row.cellAt _ (by omega)).trans k2, (h.row.cellAt _ (by omega)).trans k3, fun j => ?_⟩
  obtain ⟨cur, hb⟩ := own_blk h.row rfl
  simp [World.frozen?, hb]
theorem owk_at {w : World} {base c : Nat} {ao : Option Addr} {L : List (PV × List Nat)} (h : OwK w base (.slice ao L.length c) L) (hl : 0 < L.length) : ∃ g, ao = some ⟨g, 0, none⟩ := by
  rcases h.row.2 with ⟨_, e⟩ | ⟨g, c', cur, e, _⟩
  · omega
  · simp only [Value.slice.injEq] at e; exact ⟨g, e.1⟩
set_option maxHeartbeats 4000000 in
set_option maxRecDepth 100000 in
theorem nknown_any (w : World) : Calls Try.prog 3 #[] w fun e w' => e = .returned (.bool true) ∧ Fr (fun _ => False) w w' := by
  go_enter Try.func3, Try.ntmps3
  go_wp2_with fail
  refine (new_bad 0 w (by decide)).mono ?_
  rintro e w1 ⟨rfl, hw⟩
  obtain rfl := hw.symm
  go_wp2_with fail
  refine (new_bad 65 w (by decide)).mono ?_
  rintro e w1 ⟨rfl, hw⟩
  obtain rfl := hw.symm
  go_wp2_with fail
  refine (ns_new 3 w w (by decide) (by decide) (Fr.refl _ _)).mono ?_
  rintro e w1 ⟨d, m, rfl, h1⟩
  have H1 := hide h1
  clear h1
  go_wp2_with fail
  refine (awake14 w1).mono ?_
  rintro e w2 ⟨rfl, hf⟩
  have H2 := hide ((unhide H1).go hf)
  have hd2 := (unhide H2).dl
  clear hf H1
  go_wp2_with fail
  refine (ns_send_bad d m 3 0 3 [] (.slice none 0 0) w w2 (unhide H2) (.inr rfl)).mono ?_
  rintro e w3 ⟨rfl, hw⟩
  obtain rfl := hw.symm
  go_wp2_with fail
  refine (ns_send_bad d m 3 (-1) 0 [] (.slice none 0 0) w w2 (unhide H2) (.inl rfl)).mono ?_
  rintro e w3 ⟨rfl, hw⟩
  obtain rfl := hw.symm
  go_wp2_with fail
  refine (ns_send d m 3 0 1 [] (.slice (some ⟨w2.heap.size, 0, none⟩) 1 1) [5] w _ ((unhide H2).go (box1 _ _)) rfl rfl (lit_srcW w2 [5] #[.int .u8 5] 1 rfl) (fun g o n c e => by cases e; omega) (by decide) (by decide) 1 rfl).mono ?_
  rintro e w3 ⟨rfl, h3, _⟩
  have H3 := hide h3
  clear h3 H2 hd2
  go_wp2_with fail
  refine (ns_send d m 3 2 0 _ (.slice none 0 0) [] w w3 (unhide H3) rfl rfl (.inl ⟨rfl, rfl⟩) (fun g o n c e => by cases e) (by decide) (by decide) 2 rfl).mono ?_
  rintro e w4 ⟨rfl, h4, _⟩
  have H4 : Hid (NS w w4 d m 3 kp1) := hide h4
  clear h4 H3
  go_wp2_with fail
  refine (ns_copy d m 0 3 kp1 ⟨0, 1, [5], 0, false⟩ w w4 (unhide H4) rfl rfl (by decide) 1 3 rfl rfl).mono ?_
  rintro e w5 ⟨rfl, h5, _⟩
  have H5 : Hid (NS w w5 d m 3 kp2) := hide h5
  clear h5 H4
  go_wp2_with fail
  refine (ns_copy_no d m 3 9 kp2 w w5 (unhide H5) (by decide) (by decide)).mono ?_
  rintro e w6 ⟨rfl, h6, _⟩
  have H6 := hide h6
  clear h6 H5
  go_wp2_with fail
  refine (ns_wait d m 3 kp2 w w6 (unhide H6) (by decide)).mono ?_
  rintro e w7 ⟨ao, L, c, rfl, hO, hL, h7, _⟩
  have hwl : wl kp2 = [(1, 0, 1, [5]), (2, 2, 0, []), (3, 0, 1, [5])] := by decide
  rw [hwl] at hL
  have hLl : L.length = 3 := by simpa using congrArg List.length hL
  obtain ⟨g, rfl⟩ := owk_at hO (by omega)
  obtain ⟨x0, x1, x2, rfl⟩ : ∃ x0 x1 x2, L = [x0, x1, x2] := by
    match L, hLl with
    | [x0, x1, x2], _ => exact ⟨x0, x1, x2, rfl⟩
  simp only [List.map_cons, List.map_nil, List.cons.injEq, told, Prod.mk.injEq, and_true] at hL
  obtain ⟨⟨e0, _, _, _⟩, ⟨e1, _, _, eb⟩, ⟨e2, _, et, _⟩⟩ := hL
  obtain ⟨a0, _, _, _, _⟩ := owk_cell hO 0 x0 rfl
  obtain ⟨b0, _, _, b3, _⟩ := owk_cell hO 1 x1 rfl
  obtain ⟨c0, _, c2, _, _⟩ := owk_cell hO 2 x2 rfl
  have hx1 := (hO.el 1 x1 rfl).1
  rw [eb] at hx1
  rw [e0] at a0
  rw [e1] at b0
  rw [e2] at c0
  rw [et] at c2
  unfold PV.sl at b3
  rw [hx1] at b3
  simp only [List.length_nil, Nat.reduceMul, Nat.reduceAdd] at a0 b0 b3 c0 c2
  have hcap : 3 ≤ c := by
    rcases hO.row.2 with ⟨e, _⟩ | ⟨g', c', cur, e, _, _, hc, _⟩
    · cases e
    · simp only [Value.slice.injEq] at e; simp at hc; omega
  have H7 := hide h7
  clear h7 H6 hO hwl hLl hx1 e0 e1 e2 et eb
  go_wp2_with fail
  clear a0 b0 b3 c0 c2 hcap
  refine (ns_deliver d m 2 3 kp2 ⟨0, 1, [5], 0, true⟩ w w7 (unhide H7) rfl rfl (by decide) 3 rfl).mono ?_
  rintro e w8 ⟨bo, bc, rfl, hv, h8, _⟩
  have H8 : Hid (NS w w8 d m 3 kp3 ∧ Src w8 (.slice bo 1 bc) [5]) := hide ⟨h8, own_src (l := [5]) hv⟩
  clear h8 hv H7
  go_wp2_with fail
  refine (ns_deliver_no d m 3 3 kp3 w _ ((unhide H8).1.go (box1 _ _)) (by decide) (by decide)).mono ?_
  rintro e w9 ⟨rfl, h9, hf9⟩
  have p0 : w9.cell? ⟨w8.heap.size, 0, none⟩ = some (.int .i64 3) := (hf9.cell (p := ⟨w8.heap.size, 0, none⟩) (by simp) (fun h => h)).trans (World.cell?_alloc_at _ _ _ _ rfl)
  have p1 : w9.cell? ⟨w8.heap.size, 1, none⟩ = some (.int .i64 0) := (hf9.cell (p := ⟨w8.heap.size, 1, none⟩) (by simp) (fun h => h)).trans (World.cell?_alloc_at _ _ _ _ rfl)
  have p2 : w9.cell? ⟨w8.heap.size, 2, none⟩ = some (.int .i64 1) := (hf9.cell (p := ⟨w8.heap.size, 2, none⟩) (by simp) (fun h => h)).trans (World.cell?_alloc_at _ _ _ _ rfl)
  have p3 : w9.cell? ⟨w8.heap.size, 3, none⟩ = some (.slice bo 1 bc) := (hf9.cell (p := ⟨w8.heap.size, 3, none⟩) (by simp) (fun h => h)).trans (World.cell?_alloc_at _ _ _ _ rfl)
  have hs9 := ((unhide H8).2.fr (box1 _ _) (fun _ _ _ _ _ h => h)).fr hf9 (fun _ _ _ _ _ h => h)
  have H9 := hide (And.intro h9 hs9)
  clear h9 hf9 hs9 H8
  go_wp2_with fail
  refine (same_fr _ _ [5] _ ((unhide H9).2.fr (box1 _ _) (fun _ _ _ _ _ h => h)) (lit_srcW w9 [5] #[.int .u8 5] 1 rfl) (by decide)).mono ?_
  rintro e w10 ⟨rfl, hf⟩
  have H10 := hide (((unhide H9).1.go (box1 _ _)).go hf)
  clear hf H9 p0 p1 p2 p3
  go_wp2_with fail
  refine (ns_drop d m 1 3 kp3 ⟨2, 0, [], 0, false⟩ w w10 (unhide H10) rfl rfl (by decide) 2 rfl).mono ?_
  rintro e w11 ⟨rfl, h11, _⟩
  have H11 : Hid (NS w w11 d m 3 kp4) := hide h11
  clear h11 H10
  go_wp2_with fail
  refine (ns_drop_no d m 3 2 kp4 w w11 (unhide H11) (by decide) (by decide)).mono ?_
  rintro e w12 ⟨rfl, h12, _⟩
  have H12 := hide h12
  have hd12 := h12.dl
  clear h12 H11
  go_wp2_with fail
  refine (ns_send d m 3 1 1 kp4 (.slice (some ⟨w12.heap.size, 0, none⟩) 1 1) [6] w _ ((unhide H12).go (box1 _ _)) rfl rfl (lit_srcW w12 [6] #[.int .u8 6] 1 rfl) (fun g o n c e => by cases e; omega) (by decide) (by decide) 4 rfl).mono ?_
  rintro e w13 ⟨rfl, h13, _⟩
  have H13 : Hid (NS w w13 d m 3 kp5) := hide h13
  clear h13 H12 hd12
  go_wp2_with fail
  refine (ns_lose d m 3 1 kp5 w w13 (unhide H13) (by decide)).mono ?_
  rintro e w14 ⟨rfl, h14, _⟩
  have H14 : Hid (NS w w14 d m 3 kp6) := hide h14
  clear h14 H13
  rw [show ((loseN 1 kp5 : Nat) : Int) = 2 by decide]
  go_wp2_with fail
  refine (ns_lose d m 3 7 kp6 w w14 (unhide H14) (by decide)).mono ?_
  rintro e w15 ⟨rfl, h15, _⟩
  have H15 : Hid (NS w w15 d m 3 kp6) := hide h15
  clear h15 H14
  rw [show ((loseN 7 kp6 : Nat) : Int) = 0 by decide]
  go_wp2_with fail
  refine (ns_wait d m 3 kp6 w w15 (unhide H15) (by decide)).mono ?_
  rintro e w16 ⟨ao, L, cc, rfl, _, hL, h16, _⟩
  have hwl : wl kp6 = [] := by decide
  rw [hwl] at hL
  obtain rfl : L = [] := by simpa using hL
  have H16 := hide h16
  clear h16 H15 hL hwl
  simp only [List.length_nil]
  go_wp2_with fail
  refine (ns_count d m 3 kp6 w w16 (unhide H16)).mono ?_
  rintro e w17 ⟨rfl, h17, _⟩
  have H17 := hide h17
  clear h17 H16
  rw [show ((cS kp6 : Nat) : Int) = 3 by decide, show ((cC kp6 : Nat) : Int) = 1 by decide, show ((cD kp6 : Nat) : Int) = 1 by decide, show ((cL kp6 : Nat) : Int) = 3 by decide]
  go_wp2_with fail
  go_ret
  exact ⟨rfl, (unhide H17).fr⟩
end Go.Proofs.Ytedmhpplhbaglaa
