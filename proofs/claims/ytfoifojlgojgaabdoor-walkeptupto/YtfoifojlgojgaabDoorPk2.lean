import Derived.Test.YtfoifojlgojgaabDoorPk1
import Derived.Test.YtfoifojlgojgaabDoorDki
namespace Go.Proofs.YtfoifojlgojgaabDoor
open Go.RowKit Go.ChangeShapes Go.WideShapes Go.Maps Go.Sort

set_option maxHeartbeats 1000000 in
set_option maxRecDepth 100000 in
/-- Log.find where there is no segment. -/
theorem find_new (w : World) (l d m : Nat) (L : LM) (s : DM) (q : DW) (O : Nat → Prop) (sv pv : Value) (W : World) (h : WL w W l d m L s q O sv pv) (hs : L.segs = []) (hnl : L.name.size ≤ 32) (ho : s.off = false) (hh : Maps.has s.D (.string (nm (seg L.name 0))) = false) (hsz : Maps.size s.D < 256) :
    Calls Tryd.prog 15 #[.pointer (some ⟨l, 0, none⟩)] W fun e W' => e = .returned (.int .i64 0) ∧ ∃ fb q' O' sv', WL w W' l d m { L with segs := [0] } (s.made (nm (seg L.name 0)) fb) q' O' sv' pv := by
  have HS := hide (scan_none w l d m L s q O sv pv W h hs hnl ho hh)
  have HB : Hid (∀ W', Fr (fun _ => False) W W' → Calls Tryd.prog 29 #[.pointer (some ⟨l, 0, none⟩)] W' fun e W2 => e = .returned (.int .i64 0) ∧ ∃ fb q' O' sv', WL w W2 l d m { L with segs := [0] } (s.made (nm (seg L.name 0)) fb) q' O' sv' pv) := fun W' hf => by
    have := begin_ok w l d m L s q O sv pv W' (h.quiet hf) ho hnl (by rw [hs]; decide) (by rw [hs]; exact hh) hsz
    rw [hs] at this
    exact this
  have HK : Hid (∀ W', Fr (fun _ => False) W W' → ∃ so sc, W'.cell? ⟨l, 3, none⟩ = some (.slice so 0 sc)) := fun W' hf => by
    obtain ⟨so, sc, e⟩ := own_formX h.G.so
    have := (h.quiet hf).G.cells.2.2.2.1
    rw [e, hs] at this
    exact ⟨so, sc, this⟩
  clear h hs hnl ho hh hsz
  go_enter Tryd.func15, Tryd.ntmps15
  go_wp2_with fail
  refine (unhide HS).mono ?_
  rintro e w1 ⟨rfl, hf1⟩
  obtain ⟨so, sc, c3⟩ := (unhide HK) _ hf1
  have HB1 := hide ((unhide HB) _ hf1)
  clear hf1
  go_wp2_with fail
  refine (unhide HB1).mono ?_
  rintro e w2 ⟨rfl, hW⟩
  have HW := hide hW
  clear hW
  go_wp2_with fail
  go_ret
  exact ⟨rfl, unhide HW⟩
set_option maxHeartbeats 1000000 in
set_option maxRecDepth 100000 in
/-- Open where there is no segment. -/
theorem open_new (w : World) (d m z : Nat) (s : DM) (q : DW) (O : Nat → Prop) (name : ByteArray) (W : World) (h : DS w W d m s q O) (hn1 : 1 ≤ name.size) (hn2 : name.size ≤ 32) (hz1 : 16 ≤ z) (hz2 : z ≤ 1048576) (ho : s.off = false) (hh : Maps.has s.D (.string (nm (seg name 0))) = false) (hsz : Maps.size s.D < 256) :
    Calls Tryd.prog 6 #[.pointer (some ⟨d, 0, none⟩), .string name, .int .i64 (z : Nat)] W fun e W' => ∃ l, e = .returned (.tuple #[.pointer (some ⟨l, 0, none⟩), .int .i64 0]) ∧ ∃ fb q' O' sv', WL w W' l d m ⟨name, z, [0], []⟩ (s.made (nm (seg name 0)) fb) q' O' sv' (.slice none 0 0) := by
  have HO := hide (off_any d m s q O W h.D)
  rw [ho] at HO
  have HF : Hid (∀ W1 W2 l, Fr (fun _ => False) W W1 → W2 = W1.alloc (.cells #[.pointer (some ⟨d, 0, none⟩), .string name, .int .i64 (z : Nat), .slice none 0 0, .slice none 0 0] 46) → l = W1.heap.size → Calls Tryd.prog 15 #[.pointer (some ⟨l, 0, none⟩)] W2 fun e W' => e = .returned (.int .i64 0) ∧ ∃ fb q' O' sv', WL w W' l d m ⟨name, z, [0], []⟩ (s.made (nm (seg name 0)) fb) q' O' sv' (.slice none 0 0)) := fun W1 W2 l hf e2 el => by
    subst el
    subst e2
    have h1 := h.quiet hf
    have h2 := h1.quiet (box1 W1 (.cells #[.pointer (some ⟨d, 0, none⟩), .string name, .int .i64 (z : Nat), .slice none 0 0, .slice none 0 0] 46))
    have hw : WL w (W1.alloc (.cells #[.pointer (some ⟨d, 0, none⟩), .string name, .int .i64 (z : Nat), .slice none 0 0, .slice none 0 0] 46)) W1.heap.size d m ⟨name, z, [], []⟩ s q O (.slice none 0 0) (.slice none 0 0) :=
      ⟨h2.D, ⟨heap_alloc_new _ _, World.ownsRow_nil _ _ _ _, World.ownsRow_nil _ _ _ _⟩, fun e => Nat.lt_irrefl _ (h1.D.lt _ e), fun g hg => (by cases hg), fun g hg => (by cases hg), h2.fr, h2.o, h1.fr.size, fun g hg => (by cases hg), fun g hg => (by cases hg)⟩
    exact find_new w W1.heap.size d m ⟨name, z, [], []⟩ s q O _ _ _ hw rfl hn2 ho hh hsz
  have HC : Hid (∀ W', Calls Tryd.prog 14 #[.string name] W' fun e w' => e = .returned (.string name) ∧ Fr (fun _ => False) W' w') := fun W' => sclone_any name W' (by omega)
  have h1 : ¬ (name.size : Int) < 1 := by omega
  have h2 : ¬ (32 : Int) < (name.size : Int) := by omega
  have h3 : ¬ (z : Int) < 16 := by omega
  have h4 : ¬ (1048576 : Int) < (z : Int) := by omega
  clear h ho hh hsz hn1 hn2 hz1 hz2
  go_enter Tryd.func6, Tryd.ntmps6
  go_wp2_with (go_at_call 13; refine (unhide HO).mono ?_; rintro e w' ⟨rfl, rfl⟩; clear HO)
  refine ((unhide HC) _).mono ?_
  rintro e w1 ⟨rfl, hf1⟩
  have HF1 := hide ((unhide HF) w1 _ _ hf1 rfl rfl)
  clear hf1 HF HC
  go_wp2_with (go_at_call 15; refine (unhide HF1).mono ?_; rintro e w2 ⟨rfl, hW⟩; clear HF1; have HW := hide hW; clear hW)
  go_ret2
  exact ⟨_, rfl, unhide HW⟩
end Go.Proofs.YtfoifojlgojgaabDoor

namespace Go.Proofs.YtfoifojlgojgaabDoor
open Go.RowKit Go.ChangeShapes Go.WideShapes Go.Maps Go.Sort

set_option maxHeartbeats 1000000 in
set_option maxRecDepth 100000 in
/-- sort.Search. -/
theorem search_any (F n : Nat) (caps : Array Value) (p : Nat → Bool) (w : World) (hn : n ≤ 1000000)
    (he : ∀ x W, (callFunc F (#[x] ++ caps)).run Tryd.prog W = .ok (.enter F (#[x] ++ caps)) W)
    (hf : ∀ W i, Fr (fun _ => False) w W → i < n → Calls Tryd.prog F (#[.int .i64 (i : Nat)] ++ caps) W fun e w' => e = .returned (.bool (p i)) ∧ Fr (fun _ => False) w w')
    (hmono : ∀ a b, a ≤ b → b < n → p a = true → p b = true) :
    Calls Tryd.prog 25 #[.int .i64 (n : Nat), .func (.func F) #[] caps] w fun e w' => ∃ r : Nat, e = .returned (.int .i64 (r : Nat)) ∧ r ≤ n ∧ (∀ i, i < r → p i = false) ∧ (∀ i, r ≤ i → i < n → p i = true) ∧ Fr (fun _ => False) w w' := by
  have HF := hide (And.intro hf hmono)
  clear hf hmono
  go_enter Tryd.func25, Tryd.ntmps25
  go_wp2_with fail
  go_loopw [5, 6, 7] (fun iv jv _ wr => ∃ a b : Nat, iv = .int .i64 (a : Nat) ∧ jv = .int .i64 (b : Nat) ∧ a ≤ b ∧ b ≤ n ∧ (∀ i, i < a → p i = false) ∧ (∀ i, b ≤ i → i < n → p i = true) ∧ Fr (fun _ => False) w wr) (fun iv jv _ _ => (intOf jv).toNat - (intOf iv).toNat)
  case atStart => exact ⟨0, n, rfl, rfl, Nat.zero_le _, Nat.le_refl _, fun i hi => by omega, fun i h1 h2 => by omega, Fr.refl _ _⟩
  case round =>
    obtain ⟨a, b, rfl, rfl, hab, hbn, hlo, hhi, hfr⟩ := hrel
    have HI := hide (And.intro hlo (And.intro hhi hfr))
    clear hlo hhi hfr
    by_cases hlt : a < b
    · obtain ⟨h, hh, hah, hhb⟩ : ∃ h : Nat, ((a : Int) + (b : Int)) / 2 = (h : Int) ∧ a ≤ h ∧ h < b := ⟨(a + b) / 2, by omega, by omega, by omega⟩
      have HC := hide ((unhide HF).1 _ h (unhide HI).2.2 (by omega))
      go_wp2_with fail
      refine (unhide HC).mono ?_
      rintro e w2 ⟨rfl, hf2⟩
      have HF2 := hide hf2
      clear hf2 HC hh
      cases hp : p h with
      | true =>
        have HP := hide hp
        clear hp
        go_wp2_with fail
        go_roundw
        case rel => exact ⟨a, h, rfl, rfl, hah, by omega, (unhide HI).1, fun i h1 h2 => (unhide HF).2 h i h1 h2 (unhide HP), unhide HF2⟩
        case measure => simp [intOf]; omega
      | false =>
        have HP := hide hp
        clear hp
        go_wp2_with fail
        go_roundw
        case rel =>
          refine ⟨h + 1, b, by go_num, rfl, hhb, hbn, fun i hi => ?_, (unhide HI).2.1, unhide HF2⟩
          cases hpi : p i with
          | false => rfl
          | true => have := (unhide HF).2 i h (by omega) (by omega) hpi; rw [unhide HP] at this; cases this
        case measure => simp [intOf]; omega
    · go_wp2_with fail
      go_ret
      obtain rfl : a = b := by omega
      exact ⟨a, rfl, hbn, (unhide HI).1, (unhide HI).2.1, (unhide HI).2.2⟩
end Go.Proofs.YtfoifojlgojgaabDoor

namespace Go.Proofs.YtfoifojlgojgaabDoor
open Go.RowKit Go.ChangeShapes Go.WideShapes Go.Maps Go.Sort

/-- Is a payload not safe? -/
def pendP (op sf : Nat) (x : Nat × Nat × Nat) : Bool := decide (x.1 = op ∧ sf < x.2.1 + x.2.2)
set_option maxHeartbeats 1000000 in
set_option maxRecDepth 100000 in
theorem sync1_any (bl bo bs l d op sf i a b c : Nat) (L : LM) (sv pv : Value) (W : World) (h : LgAt W l d L sv pv) (hk : L.pls[i]? = some (a, b, c)) (hl : W.cell? ⟨bl, 0, none⟩ = some (.pointer (some ⟨l, 0, none⟩))) (ho : W.cell? ⟨bo, 0, none⟩ = some (.int .i64 (op : Nat))) (hs : W.cell? ⟨bs, 0, none⟩ = some (.int .i64 (sf : Nat))) (hb : b ≤ 10000000) (hc : c ≤ 10000000) :
    Calls Tryd.prog 26 #[.int .i64 (i : Nat), .pointer (some ⟨bl, 0, none⟩), .pointer (some ⟨bo, 0, none⟩), .pointer (some ⟨bs, 0, none⟩)] W fun e W' => e = .returned (.bool (pendP op sf (a, b, c))) ∧ Fr (fun _ => False) W W' := by
  obtain ⟨g, pc, rfl, hkl, e0, e1, e2⟩ := h.pay hk
  obtain ⟨c0, c1, c2, c3, c4, fz⟩ := h.cells
  have l1 := lt_of_cell hl
  have l2 := lt_of_cell ho
  have l3 := lt_of_cell hs
  obtain ⟨PL, hPL⟩ : ∃ PL, PL = L.pls.length := ⟨_, rfl⟩
  rw [← hPL] at c4 hkl
  clear h hk hPL c0 c1 c2 c3 fz
  have hkl' : (i : Int) < (PL : Int) := by omega
  by_cases hao : a = op
  · subst hao
    obtain ⟨r, hr⟩ : ∃ r, pendP a sf (a, b, c) = r := ⟨_, rfl⟩
    have hr2 : decide ((sf : Int) < (b : Int) + (c : Int)) = r := by
      rw [← hr]
      simp only [pendP, true_and]
      exact decide_eq_decide.2 (by omega)
    rw [hr]
    have HR := hide hr2
    clear hr hr2
    go_enter Tryd.func26, Tryd.ntmps26
    go_wp2_with fail
    go_ret
    exact ⟨congrArg (fun b => Ending.returned (Value.bool b)) (unhide HR), box1 W _⟩
  · have hr : pendP op sf (a, b, c) = false := by simp [pendP, hao]
    have hao' : ¬ ((a : Int) = (op : Int)) := by omega
    rw [hr]
    clear hr
    go_enter Tryd.func26, Tryd.ntmps26
    go_wp2_with fail
    go_ret
    exact ⟨rfl, box1 W _⟩
/-- Which payloads are not safe. -/
def LM.uns (L : LM) (op sf i : Nat) : Bool := (L.pls[i]?).elim false (pendP op sf)
theorem entersW {F : Nat} {fn : Func} (hf : Tryd.prog.funcs[F]? = some fn) (hn : (fn.name == "runtime.NumGoroutine") = false) (hb : fn.body.isSome = true) (caps : Array Value) (W : World) : (callFunc F caps).run Tryd.prog W = .ok (.enter F caps) W := by
  have h1 : ¬ fn.name = "runtime.NumGoroutine" := by simpa using hn
  have h2 : ¬ fn.body = none := by intro h; rw [h] at hb; cases hb
  simp [callFunc, hf, h1, h2]
set_option maxHeartbeats 1000000 in
set_option maxRecDepth 100000 in
/-- Log.Synced. -/
theorem wsynced_any (w : World) (l d m : Nat) (L : LM) (s : DM) (q : DW) (O : Nat → Prop) (sv pv : Value) (ss : List Nat) (x : Nat) (W : World) (h : WL w W l d m L s q O sv pv) (hs : L.segs = ss ++ [x]) (hl : ss.length < 100) (hnl : L.name.size ≤ 32) (hlp : L.pls.length ≤ 1000000) (hpb : ∀ p ∈ L.pls, p.2.1 ≤ 10000000 ∧ p.2.2 ≤ 10000000) (ho : s.off = false) (hh : Maps.has s.D (.string (nm (seg L.name ss.length))) = true) (hmono : ∀ a b, a ≤ b → b < L.pls.length → L.uns ss.length (s.F (nm (seg L.name ss.length))).safe a = true → L.uns ss.length (s.F (nm (seg L.name ss.length))).safe b = true) :
    Calls Tryd.prog 12 #[.pointer (some ⟨l, 0, none⟩)] W fun e W' => ∃ r : Nat, e = .returned (.int .i64 (r : Nat)) ∧ r ≤ L.pls.length ∧ (∀ i, i < r → L.uns ss.length (s.F (nm (seg L.name ss.length))).safe i = false) ∧ (∀ i, r ≤ i → i < L.pls.length → L.uns ss.length (s.F (nm (seg L.name ss.length))).safe i = true) ∧ Fr (fun _ => False) W W' := by
  have hsz := seg_size L.name ss.length hl
  obtain ⟨sf, hsf⟩ : ∃ sf, sf = (s.F (nm (seg L.name ss.length))).safe := ⟨_, rfl⟩
  rw [← hsf] at hmono ⊢
  have HO : Hid (∀ W', Fr (fun _ => False) W W' → Calls Tryd.prog 19 #[.pointer (some ⟨l, 0, none⟩)] W' fun e w' => e = .returned (.int .i64 (ss.length : Nat)) ∧ w' = W') := fun W' hf => by
    have hlen : L.segs.length = ss.length + 1 := by rw [hs]; simp
    have := wopen_any l d L sv pv W' (h.quiet hf).G (by omega)
    rw [show (L.segs.length : Int) - 1 = (ss.length : Nat) by omega] at this
    exact this
  have HFi : Hid (∀ W', Fr (fun _ => False) W W' → Calls Tryd.prog 18 #[.pointer (some ⟨l, 0, none⟩), .int .i64 (ss.length : Nat)] W' fun e W2 => e = .returned (.string (seg L.name ss.length)) ∧ Fr (fun _ => False) W' W2) := fun W' hf =>
    file_any l ss.length L.name W' hl (h.quiet hf).G.cells.2.1 (by omega)
  have HSy : Hid (∀ W', Fr (fun _ => False) W W' → Calls Tryd.prog 24 #[.pointer (some ⟨d, 0, none⟩), .string (seg L.name ss.length)] W' fun e W2 => e = .returned (.tuple #[.int .i64 (sf : Nat), .int .i64 0]) ∧ W2 = W') := fun W' hf => by
    rw [hsf]
    exact synced_at d m s q O (seg L.name ss.length) W' (h.quiet hf).D ho (by simp only [maxLen]; omega) hh
  have HCl : Hid (∀ W' bl bo bs i, Fr (fun _ => False) W W' → W'.cell? ⟨bl, 0, none⟩ = some (.pointer (some ⟨l, 0, none⟩)) → W'.cell? ⟨bo, 0, none⟩ = some (.int .i64 (ss.length : Nat)) → W'.cell? ⟨bs, 0, none⟩ = some (.int .i64 (sf : Nat)) → i < L.pls.length → Calls Tryd.prog 26 #[.int .i64 (i : Nat), .pointer (some ⟨bl, 0, none⟩), .pointer (some ⟨bo, 0, none⟩), .pointer (some ⟨bs, 0, none⟩)] W' fun e W2 => e = .returned (.bool (L.uns ss.length sf i)) ∧ Fr (fun _ => False) W' W2) := fun W' bl bo bs i hf h1 h2 h3 hi => by
    have hk : L.pls[i]? = some (L.pls[i].1, L.pls[i].2.1, L.pls[i].2.2) := List.getElem?_eq_getElem hi
    have hb := hpb L.pls[i] (List.getElem_mem hi)
    have e : L.uns ss.length sf i = pendP ss.length sf (L.pls[i].1, L.pls[i].2.1, L.pls[i].2.2) := by rw [LM.uns, hk]; rfl
    rw [e]
    exact sync1_any bl bo bs l d ss.length sf i _ _ _ L sv pv W' (h.quiet hf).G hk h1 h2 h3 hb.1 hb.2
  have HK : Hid (∀ W', Fr (fun _ => False) W W' → W'.cell? ⟨l, 0, none⟩ = some (.pointer (some ⟨d, 0, none⟩)) ∧ ∃ po pc, W'.cell? ⟨l, 4, none⟩ = some (.slice po L.pls.length pc)) := fun W' hf => by
    obtain ⟨po, pc, e⟩ := own_formX h.G.po
    have c4 := (h.quiet hf).G.cells.2.2.2.2.1
    rw [e] at c4
    exact ⟨(h.quiet hf).G.cells.1, po, pc, c4⟩
  have HM := hide hmono
  obtain ⟨SN, hSN⟩ : ∃ SN, SN = seg L.name ss.length := ⟨_, rfl⟩
  rw [← hSN] at HFi HSy
  clear h hs hnl hpb ho hh hmono hsz hsf hSN
  go_enter Tryd.func12, Tryd.ntmps12
  go_wp2_with fail
  obtain ⟨W1, hW1⟩ : ∃ W1, W1 = W.alloc (.cells #[.pointer (some ⟨l, 0, none⟩)] 28) := ⟨_, rfl⟩
  obtain ⟨B1, hB1⟩ : ∃ B1, B1 = W.heap.size := ⟨_, rfl⟩
  have hf1 : Fr (fun _ => False) W W1 := by rw [hW1]; exact box1 W _
  have k1 : W1.heap[B1]? = some (.cells #[.pointer (some ⟨l, 0, none⟩)] 28) := by rw [hW1, hB1]; exact heap_alloc_new W _
  have HF1 := hide (And.intro hf1 k1)
  rw [← hW1, ← hB1]
  clear hW1 hB1 hf1 k1
  refine ((unhide HO) W1 (unhide HF1).1).mono ?_
  rintro e w2 ⟨rfl, rfl⟩
  rename World => W1
  have c1 : W1.cell? ⟨B1, 0, none⟩ = some (.pointer (some ⟨l, 0, none⟩)) := by simp [World.cell?, (unhide HF1).2]
  have l1 := lt_of_cell c1
  obtain ⟨cd, _⟩ := (unhide HK) _ (unhide HF1).1
  have ll := lt_of_cell cd
  clear HO
  go_wp2_with fail
  obtain ⟨W2, hW2⟩ : ∃ W2, W2 = W1.alloc (.cells #[.int .i64 (ss.length : Nat)] 3) := ⟨_, rfl⟩
  obtain ⟨B2, hB2⟩ : ∃ B2, B2 = W1.heap.size := ⟨_, rfl⟩
  have hf12 : Fr (fun _ => False) W1 W2 := by rw [hW2]; exact box1 W1 _
  have k2 : W2.heap[B2]? = some (.cells #[.int .i64 (ss.length : Nat)] 3) := by rw [hW2, hB2]; exact heap_alloc_new W1 _
  have k1 : W2.heap[B1]? = some (.cells #[.pointer (some ⟨l, 0, none⟩)] 28) := (hf12.block B1 l1 (fun h => h)).trans (unhide HF1).2
  have hf2 : Fr (fun _ => False) W W2 := (unhide HF1).1.trans hf12 (fun _ _ h => h)
  have HBx : Hid (∀ W', Fr (fun _ => False) W2 W' → W'.cell? ⟨l, 0, none⟩ = some (.pointer (some ⟨d, 0, none⟩)) ∧ W'.cell? ⟨B1, 0, none⟩ = some (.pointer (some ⟨l, 0, none⟩)) ∧ W'.cell? ⟨B2, 0, none⟩ = some (.int .i64 (ss.length : Nat))) := fun W' hf => by
    have b1 := (hf.block B1 (lt_of_block k1) (fun h => h)).trans k1
    have b2 := (hf.block B2 (lt_of_block k2) (fun h => h)).trans k2
    exact ⟨((unhide HK) _ (hf2.trans hf (fun _ _ h => h))).1, by simp [World.cell?, b1], by simp [World.cell?, b2]⟩
  have HF2 := hide (And.intro hf2 (And.intro k1 k2))
  rw [← hW2, ← hB2]
  clear hW2 hB2 hf12 hf2 k1 k2 c1 l1 cd ll HF1
  go_region_held_law (fun w' => w'.cell? ⟨l, 0, none⟩ = some (.pointer (some ⟨d, 0, none⟩)) ∧ w'.cell? ⟨B1, 0, none⟩ = some (.pointer (some ⟨l, 0, none⟩)) ∧ w'.cell? ⟨B2, 0, none⟩ = some (.int .i64 (ss.length : Nat)))
    (first | exact (unhide HBx) _ (Fr.refl _ _).drew | exact (unhide HBx) _ ((Fr.refl _ _).drew.alloc _) | exact (unhide HBx) _ hf3 | exact (unhide HBx) _ (hf3.alloc _) | exact (unhide HBx) _ (hf3.setCell (p := ⟨W2.heap.size, 0, none⟩) (.inr (Nat.le_refl _)) _))
    (first
      | (go_at_call 18
         first
           | (refine ((unhide HFi) _ (unhide HF2).1.drew).mono ?_; rintro e w3 ⟨rfl, hf3'⟩; clear HFi; have hf3 : Fr (fun _ => False) W2 w3 := (Fr.refl _ _).drew.trans hf3' (fun _ _ h => h))
           | (refine ((unhide HFi) _ ((unhide HF2).1.drew.alloc _)).mono ?_; rintro e w3 ⟨rfl, hf3'⟩; clear HFi; have hf3 : Fr (fun _ => False) W2 w3 := ((Fr.refl _ _).drew.alloc _).trans hf3' (fun _ _ h => h); have hq : w3.heap[W2.heap.size]? = some (.cells #[.int .i64 0] 3) := (hf3'.block W2.heap.size (by simp) (fun h => h)).trans (heap_alloc_new W2.drew _); have hq1 : w3.cell? ⟨W2.heap.size, 0, none⟩ = some (.int .i64 0) := (by simp [World.cell?, hq]); have hq2 : w3.frozen? ⟨W2.heap.size, 0, none⟩ = false := (by simp [World.frozen?, hq])))
      | (go_at_call 24
         first
           | (refine ((unhide HSy) _ ((unhide HF2).1.trans hf3 (fun _ _ h => h))).mono ?_; rintro e w4 ⟨rfl, rfl⟩; clear HSy)
           | (refine ((unhide HSy) _ (((unhide HF2).1.trans hf3 (fun _ _ h => h)).alloc _)).mono ?_; rintro e w4 ⟨rfl, rfl⟩; clear HSy)))
  all_goals
    first
      | (obtain ⟨W5, hW5⟩ : ∃ W5, W5 = w4.alloc (.cells #[.int .i64 (sf : Nat)] 3) := ⟨_, rfl⟩
         obtain ⟨B3, hB3⟩ : ∃ B3, B3 = w4.heap.size := ⟨_, rfl⟩
         have hf5 : Fr (fun _ => False) W2 W5 := (by rw [hW5]; exact hf3.alloc _)
         have k3 : W5.heap[B3]? = some (.cells #[.int .i64 (sf : Nat)] 3) := (by rw [hW5, hB3]; exact heap_alloc_new w4 _)
         rw [← hW5, ← hB3])
      | (obtain ⟨W5, hW5⟩ : ∃ W5, W5 = w3.alloc (.cells #[.int .i64 (sf : Nat)] 3) := ⟨_, rfl⟩
         obtain ⟨B3, hB3⟩ : ∃ B3, B3 = w3.heap.size := ⟨_, rfl⟩
         have hf5 : Fr (fun _ => False) W2 W5 := (by rw [hW5]; exact hf3.alloc _)
         have k3 : W5.heap[B3]? = some (.cells #[.int .i64 (sf : Nat)] 3) := (by rw [hW5, hB3]; exact heap_alloc_new w3 _)
         rw [← hW5, ← hB3])
      | (obtain ⟨W5, hW5⟩ : ∃ W5, W5 = w4.setCell ⟨W2.heap.size, 0, none⟩ (.int .i64 (sf : Nat)) := ⟨_, rfl⟩
         obtain ⟨B3, hB3⟩ : ∃ B3, B3 = W2.heap.size := ⟨_, rfl⟩
         have hf5 : Fr (fun _ => False) W2 W5 := (by rw [hW5]; exact hf3.setCell (p := ⟨W2.heap.size, 0, none⟩) (.inr (Nat.le_refl _)) _)
         have k3 : W5.heap[B3]? = some (.cells #[.int .i64 (sf : Nat)] 3) := (by rw [hW5, hB3, blkset hq]; rfl)
         rw [← hW5, ← hB3])
    have hfW : Fr (fun _ => False) W W5 := (unhide HF2).1.trans hf5 (fun _ _ h => h)
    obtain ⟨-, po, pc, c4⟩ := (unhide HK) _ hfW
    obtain ⟨-, cb1, cb2⟩ := (unhide HBx) _ hf5
    have cb3 : W5.cell? ⟨B3, 0, none⟩ = some (.int .i64 (sf : Nat)) := by simp [World.cell?, k3]
    have HSe := hide (search_any 26 L.pls.length #[.pointer (some ⟨B1, 0, none⟩), .pointer (some ⟨B2, 0, none⟩), .pointer (some ⟨B3, 0, none⟩)] (L.uns ss.length sf) W5 hlp (fun x W' => entersW Tryd.func26 rfl rfl _ W') (fun W' i hf hi => by
      have b1 := (unhide HBx) _ (hf5.trans hf (fun _ _ h => h))
      have b3 : W'.cell? ⟨B3, 0, none⟩ = some (.int .i64 (sf : Nat)) := (hf.cell (p := ⟨B3, 0, none⟩) (lt_of_block k3) (fun h => h)).trans cb3
      refine ((unhide HCl) W' B1 B2 B3 i (hfW.trans hf (fun _ _ h => h)) b1.2.1 b1.2.2 b3 hi).mono ?_
      rintro e w' ⟨rfl, hf'⟩
      exact ⟨rfl, hf.trans hf' (fun _ _ h => h)⟩) (unhide HM))
    have HFW := hide hfW
    clear hW5 hB3 hf5 k3 hfW hf3 cb2 cb3
    go_wp2_with fail
    refine (unhide HSe).mono ?_
    rintro e w6 ⟨r, rfl, hr1, hr2, hr3, hf6⟩
    have H6 := hide (And.intro hr1 (And.intro hr2 (And.intro hr3 ((unhide HFW).trans hf6 (fun _ _ h => h)))))
    clear hr1 hr2 hr3 hf6 HSe
    go_wp2_with fail
    go_ret
    exact ⟨r, rfl, unhide H6⟩
end Go.Proofs.YtfoifojlgojgaabDoor

namespace Go.Proofs.YtfoifojlgojgaabDoor
open Go.RowKit Go.ChangeShapes Go.WideShapes Go.Maps Go.Sort

def sLog : ByteArray := ⟨#[108, 111, 103]⟩
theorem segLog : nm (seg sLog 0) = [108, 111, 103, 46, 48] := by decide +kernel
/-- A new log's disk. -/
theorem new_good (z fb : Nat) (hz : z ≤ 1048576) (x : List UInt8) : ((DM.new z).made x fb).Good := ⟨rfl, rfl, rfl, by show (0 : Int) ≤ 0; decide, by show (0 : Int) < _; decide, hz, by show 0 < _; decide⟩
/-- The first payload of a new log. -/
theorem wappend_first (w : World) (l d m z Z fb : Nat) (q : DW) (O : Nat → Prop) (sv pv y : Value) (p : List Nat) (W : World) (h : WL w W l d m ⟨sLog, Z, [0], []⟩ ((DM.new z).made (nm (seg sLog 0)) fb) q O sv pv) (hy : Src W y p) (hp : p.length + 12 ≤ Z) (hZ : Z ≤ 1048576) (hr : p.length + 12 ≤ z) (hz : z ≤ 1048576) :
    Calls Tryd.prog 7 #[.pointer (some ⟨l, 0, none⟩), y] W fun e W' => e = .returned (.tuple #[.int .i64 0, .int .i64 0]) ∧ ∃ q' O' sv' pv', WL w W' l d m ⟨sLog, Z, [12 + p.length], [(0, 12, p.length)]⟩ (((DM.new z).made (nm (seg sLog 0)) fb).app (nm (seg sLog 0)) (frame p)) q' O' sv' pv' ∧ (∀ k, O' k → O k ∨ W.heap.size ≤ k) ∧ Fr (fun k => O k ∨ k = l ∨ sv.ownBlock = some k ∨ pv.ownBlock = some k) W W' := by
  have hF : (((DM.new z).made (nm (seg sLog 0)) fb).F (nm (seg sLog 0))) = ⟨[], 0, []⟩ := by simp [DM.made]
  have hc := wappend_core w l d m ⟨sLog, Z, [0], []⟩ ⟨sLog, Z, [0], []⟩ ((DM.new z).made (nm (seg sLog 0)) fb) ((DM.new z).made (nm (seg sLog 0)) fb) q O sv pv y [] 0 p W h hy
    ((makeRoom_fits l d ⟨sLog, Z, [0], []⟩ sv pv [] 0 (12 + p.length) W h.G rfl (by decide) (by decide) (by omega) (by show Z ≤ _; omega) (by show 0 + _ ≤ Z; omega)).mono (fun e W' he => ⟨he.1, q, O, sv, h.quiet he.2, hy.fr0 he.2, fun _ h => .inl h, fun _ h => .inl h, he.2.mono (fun _ _ h => h.elim)⟩))
    (by omega) hp hZ rfl rfl rfl (show sLog.size ≤ 32 by decide) (by decide) (Nat.zero_le _) (by decide) (new_good z fb hz _) (by show Maps.has ((DM.new z).made (nm (seg sLog 0)) fb).D (.string (nm (seg sLog 0))) = true; rw [one_D]; exact one_has _ _) (by show 0 + _ ≤ z; omega) (by show (((DM.new z).made (nm (seg sLog 0)) fb).F (nm (seg sLog 0))).b.length ≤ _; rw [hF]; decide) (by show (((DM.new z).made (nm (seg sLog 0)) fb).F (nm (seg sLog 0))).ps.length ≤ _; rw [hF]; decide)
  refine hc.mono ?_
  rintro e W' ⟨rfl, q', O', sv', pv', hW, hO⟩
  refine ⟨rfl, q', O', sv', pv', ?_, hO⟩
  have e : (0 + (12 + p.length)) = 12 + p.length := by omega
  rw [e] at hW
  exact hW
theorem first_F (z fb : Nat) (p : List Nat) : (((DM.new z).made (nm (seg sLog 0)) fb).app (nm (seg sLog 0)) (frame p)).F (nm (seg sLog 0)) = ⟨frame p, 0, [(1, (frame p).length)]⟩ := by
  have hl : ¬ (frame p).length = 0 := by rw [frame_len]; omega
  have hc : ∀ n, ((DM.new z).made (nm (seg sLog 0)) fb).count n = ({ (DM.new z).made (nm (seg sLog 0)) fb with writes := 1 }, n) := fun n => rfl
  simp only [DM.app, hc, if_pos, List.take_length]
  simp [DM.made, DM.new, FM.put, hl]
theorem first_D (z fb : Nat) (p : List Nat) : (((DM.new z).made (nm (seg sLog 0)) fb).app (nm (seg sLog 0)) (frame p)).D = .map [(.string (nm (seg sLog 0)), .lit (.int .i64 (fb : Nat)))] := by
  have hc : ∀ n, ((DM.new z).made (nm (seg sLog 0)) fb).count n = ({ (DM.new z).made (nm (seg sLog 0)) fb with writes := 1 }, n) := fun n => rfl
  simp only [DM.app, hc]
  exact one_D _ _ _
theorem frame_pay (p : List Nat) : ((frame p).drop 12).take p.length = p := by
  have e : (hd8 p.length ++ nb4 (Sm (Sm 0 (hd8 p.length)) p)).length = 12 := rfl
  rw [frame, ← e, List.drop_left, List.take_length]
/-- At(0) of a new log's first payload. -/
theorem wat_first (w : World) (l d m z Z fb : Nat) (q : DW) (O : Nat → Prop) (sv pv : Value) (p : List Nat) (W : World) (h : WL w W l d m ⟨sLog, Z, [12 + p.length], [(0, 12, p.length)]⟩ (((DM.new z).made (nm (seg sLog 0)) fb).app (nm (seg sLog 0)) (frame p)) q O sv pv) (hp : p.length ≤ 1000000) :
    Calls Tryd.prog 8 #[.pointer (some ⟨l, 0, none⟩), .int .i64 0] W fun e W' => ∃ v, e = .returned (.tuple #[v, .int .i64 0]) ∧ W'.ownsRow W.heap.size 5 1 v p.length (cellsOf p) ∧ Fr (fun _ => False) W W' := by
  have hF := first_F z fb p
  have := wat_ok w l d m _ _ q O sv pv 0 0 12 p.length W h rfl (show sLog.size ≤ 32 by decide) (by decide) rfl (by show Maps.has (((DM.new z).made (nm (seg sLog 0)) fb).app (nm (seg sLog 0)) (frame p)).D _ = true; rw [first_D]; exact one_has _ _) (by show ((((DM.new z).made (nm (seg sLog 0)) fb).app (nm (seg sLog 0)) (frame p)).F (nm (seg sLog 0))).b.length ≤ _; rw [hF, frame_len]; omega) (by show _ ≤ ((((DM.new z).made (nm (seg sLog 0)) fb).app (nm (seg sLog 0)) (frame p)).F (nm (seg sLog 0))).b.length; rw [hF, frame_len]; omega)
  refine this.mono ?_
  rintro e W' ⟨v, rfl, h1, h2⟩
  have h3 : ((((DM.new z).made (nm (seg sLog 0)) fb).app (nm (seg sLog 0)) (frame p)).F (nm (seg sLog 0))).b = frame p := by rw [hF]
  have h4 : W'.ownsRow W.heap.size 5 1 v p.length (cellsOf (((((DM.new z).made (nm (seg sLog 0)) fb).app (nm (seg sLog 0)) (frame p)).F (nm (seg sLog 0))).b.drop 12 |>.take p.length)) := h1
  rw [h3, frame_pay] at h4
  exact ⟨v, rfl, h4, h2⟩
/-- Synced of a new log's first payload. -/
theorem wsync_first (w : World) (l d m z Z fb : Nat) (q : DW) (O : Nat → Prop) (sv pv : Value) (p : List Nat) (W : World) (h : WL w W l d m ⟨sLog, Z, [12 + p.length], [(0, 12, p.length)]⟩ (((DM.new z).made (nm (seg sLog 0)) fb).app (nm (seg sLog 0)) (frame p)) q O sv pv) (hp : p.length ≤ 1000000) :
    Calls Tryd.prog 12 #[.pointer (some ⟨l, 0, none⟩)] W fun e W' => e = .returned (.int .i64 0) ∧ Fr (fun _ => False) W W' := by
  have hF := first_F z fb p
  have hun : (LM.mk sLog Z [12 + p.length] [(0, 12, p.length)]).uns 0 0 0 = true := by
    show pendP 0 0 (0, 12, p.length) = true
    simp only [pendP]
    exact decide_eq_true ⟨trivial, by show 0 < 12 + p.length; omega⟩
  have := wsynced_any w l d m _ _ q O sv pv [] (12 + p.length) W h rfl (by decide) (show sLog.size ≤ 32 by decide) (by show 1 ≤ _; decide) (fun x hx => by
    have e : x = (0, 12, p.length) := by simpa using hx
    subst e
    exact ⟨by show 12 ≤ 10000000; decide, by show p.length ≤ _; omega⟩) rfl (by show Maps.has (((DM.new z).made (nm (seg sLog 0)) fb).app (nm (seg sLog 0)) (frame p)).D _ = true; rw [first_D]; exact one_has _ _) (fun a b hab hb _ => by
    have hb0 : b = 0 := by have : b < 1 := hb; omega
    subst hb0
    show (LM.mk sLog Z [12 + p.length] [(0, 12, p.length)]).uns 0 ((((DM.new z).made (nm (seg sLog 0)) fb).app (nm (seg sLog 0)) (frame p)).F (nm (seg sLog 0))).safe 0 = true
    rw [hF]
    exact hun)
  refine this.mono ?_
  rintro e W' ⟨r, rfl, hr1, hr2, hr3, hf⟩
  have hr0 : r = 0 := by
    rcases Nat.eq_zero_or_pos r with e | e
    · exact e
    · have h0 : (LM.mk sLog Z [12 + p.length] [(0, 12, p.length)]).uns 0 ((((DM.new z).made (nm (seg sLog 0)) fb).app (nm (seg sLog 0)) (frame p)).F (nm (seg sLog 0))).safe 0 = false := hr2 0 e
      rw [hF] at h0
      rw [hun] at h0
      cases h0
  subst hr0
  exact ⟨rfl, hf⟩
set_option maxHeartbeats 1000000 in
set_option maxRecDepth 100000 in
theorem awake9 (w : World) : Calls Tryd.prog 4 #[] w fun e w' => e = .returned (.bool true) ∧ Fr (fun _ => False) w w' := by
  go_enter Tryd.func4, Tryd.ntmps4
  go_wp2_with fail
  refine (new_any 4096 w (by decide) (by decide)).mono ?_
  rintro e w1 ⟨d, m, q, O, rfl, hD, hf, hO⟩
  have H1 := hide (DS.mk hD hf hO)
  clear hD hf hO
  go_wp2_with fail
  refine (open_new w d m 40 _ q O sLog w1 (unhide H1) (by decide) (by decide) (by decide) (by decide) rfl rfl (by decide)).mono ?_
  rintro e w2 ⟨l, rfl, fb, q2, O2, sv2, hW2⟩
  have H2 := hide hW2
  clear hW2 H1
  go_wp2_with fail
  have hbx := box1 w2 (.cells #[.int .u8 1, .int .u8 2, .int .u8 3] 5)
  refine (wappend_first w l d m 4096 40 fb q2 O2 sv2 _ (.slice (some ⟨w2.heap.size, 0, none⟩) 3 3) [1, 2, 3] _ ((unhide H2).quiet hbx) (lit_srcW w2 [1, 2, 3] #[.int .u8 1, .int .u8 2, .int .u8 3] 3 rfl) (by decide) (by decide) (by decide) (by decide)).mono ?_
  rintro e w3 ⟨rfl, q3, O3, sv3, pv3, hW3, _, _⟩
  have H3 := hide hW3
  clear hW3 H2 hbx
  go_wp2_with fail
  refine (wat_first w l d m 4096 40 fb q3 O3 sv3 pv3 [1, 2, 3] w3 (unhide H3) (by decide)).mono ?_
  rintro e w4 ⟨v4, rfl, hv4, hf4⟩
  have H4 := hide ((unhide H3).quiet hf4)
  have HV4 := hide hv4
  clear hf4 hv4 H3
  go_wp2_with fail
  have hbx := box1 w4 (.cells #[.int .u8 1, .int .u8 2, .int .u8 3] 5)
  refine (same_any _ _ [1, 2, 3] [1, 2, 3] _ ((own_src (unhide HV4)).fr hbx (fun _ _ _ _ _ h => h)) (lit_srcW w4 [1, 2, 3] #[.int .u8 1, .int .u8 2, .int .u8 3] 3 rfl) (by decide)).mono ?_
  rintro e w5 ⟨rfl, n5, rfl⟩
  rw [same_self]
  have H5 := hide ((unhide H4).quiet (hbx.drewN n5))
  clear hbx H4 HV4
  go_wp2_with fail
  refine (wlen_any l d _ sv3 pv3 _ (unhide H5).G).mono ?_
  rintro e w6 ⟨rfl, rfl⟩
  go_wp2_with fail
  refine (wsync_first w l d m 4096 40 fb q3 O3 sv3 pv3 [1, 2, 3] _ (unhide H5) (by decide)).mono ?_
  rintro e w7 ⟨rfl, hf7⟩
  have HF7 := hide ((unhide H5).fr.trans hf7 (fun _ _ h => h))
  clear hf7 H5
  go_wp2_with fail
  go_ret
  exact ⟨rfl, unhide HF7⟩
end Go.Proofs.YtfoifojlgojgaabDoor

namespace Go.Proofs.YtfoifojlgojgaabDoor
open Go.RowKit Go.ChangeShapes Go.WideShapes Go.Maps Go.Sort

theorem Tryd.ni1 (a : Addr) (n c : Nat) (w : World) : (binOp .eql 36 (.slice (some a) n c) (.slice none 0 0)).run Tryd.prog w = .ok (.bool false) w := by kernel_rfl
set_option maxRecDepth 100000 in
/-- slices.Clone of numbers. -/
theorem iclone_any (g n c : Nat) (l : List Nat) (w : World) (h : w.ownsRow 0 3 1 (.slice (some ⟨g, 0, none⟩) n c) n (icells l)) (hn : l.length = n) (hl : n ≤ 1000) :
    Calls Tryd.prog 23 #[.slice (some ⟨g, 0, none⟩) n c] w fun e w' => ∃ v, e = .returned v ∧ w'.ownsRow w.heap.size 3 1 v n (icells l) ∧ Fr (fun _ => False) w w' := by
  obtain ⟨i0, hi, hz0, hz1, hz2⟩ := info_parts Tryd.infoInt
  have hbx := box1 w (.cells #[] 3)
  have hil : (icells l).length = n := by simp [icells, hn]
  obtain ⟨v', w2, hr, h2, h3, _, _⟩ := run_append_own_at (P := Tryd.prog) (w := w.alloc (.cells #[] 3)) w.heap.size 36 36 3 i0 (.int .i64 0) 1 8 Tryd.underlying36 hi hz0 hz1 hz2 rfl (by decide) (.slice (some ⟨w.heap.size, 0, none⟩) 0 0) 0 [] (World.ownsRow_made w #[] 0 (Nat.le_refl _) (Nat.zero_le _) rfl) ⟨g, 0, none⟩ n c (icells l) (by rw [hil]; omega) (fun j u hu => by
    have hj : j < n := by
      have := (List.getElem?_eq_some_iff.1 hu).1
      omega
    rw [addr_add, Nat.zero_add]
    have hc := (h.cellAt j (by omega)).trans hu
    exact (hbx.cell (p := ⟨g, j, none⟩) (lt_of_cell hc) (fun h => h)).trans hc) (fun u hu => by
    simp only [icells, List.mem_map] at hu
    obtain ⟨z, _, rfl⟩ := hu
    rfl) (by simp only [maxLen]; omega) (by omega) (by simp)
  obtain ⟨ao, cap, rfl⟩ := own_formX h2
  have HR := hide hr
  have HA := hide (And.intro h2 (hbx.grown h3 (fun k hk => .inr (by simp [Value.ownBlock] at hk; omega))))
  clear hr h2 h3 h
  have n1 := Tryd.ni1
  go_enter Tryd.func23, Tryd.ntmps23
  go_wp2_with (at_builtin; refine wpList_app rfl _ _ 36 36 rfl _ _ _ rfl rfl (unhide HR) ?_)
  go_ret
  obtain ⟨hown, hf⟩ := unhide HA
  exact ⟨_, rfl, by simpa using hown, hf⟩
set_option maxRecDepth 100000 in
/-- Log.Segments. -/
theorem segments_any (l d : Nat) (L : LM) (sv pv : Value) (ss : List Nat) (x : Nat) (W : World) (h : LgAt W l d L sv pv) (hs : L.segs = ss ++ [x]) (hl : ss.length < 100) :
    Calls Tryd.prog 10 #[.pointer (some ⟨l, 0, none⟩)] W fun e W' => ∃ v, e = .returned v ∧ W'.ownsRow W.heap.size 3 1 v (ss.length + 1) (icells (ss ++ [x])) ∧ Fr (fun _ => False) W W' := by
  obtain ⟨g, c, rfl, hc, _⟩ := h.last hs
  obtain ⟨c0, c1, c2, c3, c4, fz⟩ := h.cells
  have hso := h.so
  have hlen : L.segs.length = ss.length + 1 := by rw [hs]; simp
  rw [hlen, hs] at hso
  have HC := hide (iclone_any g (ss.length + 1) c (ss ++ [x]) W hso (by simp) (by omega))
  clear h hs hso hlen c0 c1 c2 c4 fz
  go_enter Tryd.func10, Tryd.ntmps10
  go_wp2_with fail
  refine (unhide HC).mono ?_
  rintro e w2 ⟨v, rfl, h1, h2⟩
  have H2 := hide (And.intro h1 h2)
  clear h1 h2
  go_wp2_with fail
  go_ret
  exact ⟨v, rfl, (unhide H2).1, (unhide H2).2⟩
end Go.Proofs.YtfoifojlgojgaabDoor

namespace Go.Proofs.YtfoifojlgojgaabDoor
open Go.RowKit Go.ChangeShapes Go.WideShapes Go.Maps Go.Sort

/-- Two disks, apart, laid since w. -/
structure TD (w W : World) (d m : Nat) (s : DM) (q : DW) (O : Nat → Prop) (d' m' : Nat) (s' : DM) (q' : DW) (O' : Nat → Prop) : Prop where
  a : DkAt W d m s q O
  b : DkAt W d' m' s' q' O'
  f : Fr (fun _ => False) w W
  ap : ∀ k, O k → ¬ O' k
  n : ∀ k, O k → w.heap.size ≤ k
  n' : ∀ k, O' k → w.heap.size ≤ k
theorem TD.fr {w W W' : World} {d m d' m' : Nat} {s s' : DM} {q q' : DW} {O O' S : Nat → Prop} (h : TD w W d m s q O d' m' s' q' O') (hf : Fr S W W') (hS : ∀ k, S k → w.heap.size ≤ k ∧ ¬ O k ∧ ¬ O' k) : TD w W' d m s q O d' m' s' q' O' :=
  ⟨h.a.fr hf (fun k hk hs => (hS k hs).2.1 hk), h.b.fr hf (fun k hk hs => (hS k hs).2.2 hk), h.f.absorb hf (fun k hs => (hS k hs).1), h.ap, h.n, h.n'⟩
theorem TD.stepA {w W W' : World} {d m d' m' : Nat} {s s' s2 : DM} {q q' q2 : DW} {O O' O2 : Nat → Prop} (h : TD w W d m s q O d' m' s' q' O') (hD : DkAt W' d m s2 q2 O2) (hf : Fr O W W') (hO : ∀ k, O2 k → O k ∨ W.heap.size ≤ k) : TD w W' d m s2 q2 O2 d' m' s' q' O' :=
  ⟨hD, h.b.fr hf (fun k hk hs => h.ap k hs hk), h.f.absorb hf h.n, fun k hk hk' => (hO k hk).elim (fun h1 => h.ap k h1 hk') (fun h1 => by have := h.b.lt k hk'; omega), fun k hk => (hO k hk).elim (h.n k) (Nat.le_trans h.f.size), h.n'⟩
theorem TD.stepB {w W W' : World} {d m d' m' : Nat} {s s' s2 : DM} {q q' q2 : DW} {O O' O2 : Nat → Prop} (h : TD w W d m s q O d' m' s' q' O') (hD : DkAt W' d' m' s2 q2 O2) (hf : Fr O' W W') (hO : ∀ k, O2 k → O' k ∨ W.heap.size ≤ k) : TD w W' d m s q O d' m' s2 q2 O2 :=
  ⟨h.a.fr hf (fun k hk hs => h.ap k hk hs), hD, h.f.absorb hf h.n', fun k hk hk' => (hO k hk').elim (fun h1 => h.ap k hk h1) (fun h1 => by have := h.a.lt k hk; omega), h.n, fun k hk => (hO k hk).elim (h.n' k) (Nat.le_trans h.f.size)⟩
/-- x = append(x, 9) onto a row of one's own. -/
theorem app9 (w : World) (base n c : Nat) (ao : Option Addr) (xs : List Value) (hx : w.ownsRow base 5 1 (.slice ao n c) n xs) (hn : n ≤ 100000000) (hb : base ≤ w.heap.size) :
    ∃ ao' c' w', (Builtin.append_ #[22, 22] 22 #[.slice ao n c, .slice (some ⟨w.heap.size, 0, none⟩) 1 1]).run Tryd.prog (w.alloc (.cells #[.int .u8 9] 5)) = .ok (.slice ao' (n + 1) c') w' ∧ (∃ xs', w'.ownsRow base 5 1 (.slice ao' (n + 1) c') (n + 1) xs') ∧ Fr (fun k => (Value.slice ao n c).ownBlock = some k) w w' ∧ ∀ g, (Value.slice ao' (n + 1) c').ownBlock = some g → (Value.slice ao n c).ownBlock = some g ∨ w.heap.size ≤ g := by
  have hx1 : (w.alloc (.cells #[.int .u8 9] 5)).ownsRow base 5 1 (.slice ao n c) n xs := ownsRow_of_block hx (fun k hk => Below.heap_alloc _ _ _ (hx.lt k hk).2)
  obtain ⟨ao', c', w', hr, hown, hg, hat⟩ := run_app_sl _ 22 base n _ _ xs [9] hx1 (lit_srcW w [9] #[.int .u8 9] 1 rfl) (by simp; omega) (by simp; omega)
  refine ⟨ao', c', w', hr, ⟨_, hown⟩, ((box1 w _).mono (fun _ _ h => h.elim)).grown hg (fun k hk => .inl hk), fun g hg2 => ?_⟩
  rcases hat with e | e
  · rw [show (Value.slice ao' (n + 1) c').ownBlock = (Value.slice ao n c).ownBlock from e] at hg2; exact .inl hg2
  · rw [show (Value.slice ao' (n + 1) c').ownBlock = some (w.alloc (.cells #[.int .u8 9] 5)).heap.size from e] at hg2
    cases hg2
    exact .inr (by simp)
theorem ownb {ao : Option Addr} {n c k : Nat} (h : (Value.slice ao n c).ownBlock = some k) : ao.map (·.block) = some k := by
  cases ao with
  | none => cases h
  | some a => simpa [Value.ownBlock] using h
/-- A row of bytes of one's own, whatever it holds. -/
def OwnI (w0 w : World) (base : Nat) (ao : Option Addr) (c n : Nat) : Prop := Fr (fun k => ao.map (·.block) = some k) w0 w ∧ ∃ xs, w.ownsRow base 5 1 (.slice ao n c) n xs ∧ ∀ j, j < n → ∃ z, xs[j]? = some (.int .u8 z)
theorem OwnI.at_ {w0 w : World} {base c n : Nat} {ao : Option Addr} (h : OwnI w0 w base ao c n) (j : Nat) (hj : j < n) : ∃ g z, ao = some ⟨g, 0, none⟩ ∧ w.cell? ⟨g, j, none⟩ = some (.int .u8 z) ∧ w.frozen? ⟨g, j, none⟩ = false := by
  obtain ⟨_, xs, hx, hz⟩ := h
  obtain ⟨z, e⟩ := hz j hj
  rcases hx.2 with ⟨_, e0⟩ | ⟨g', c', cur, e1, _, e3, _⟩
  · omega
  · simp only [Value.slice.injEq] at e1
    obtain ⟨rfl, -, rfl⟩ := e1
    exact ⟨g', z, rfl, (hx.cellAt j (by omega)).trans e, by simp [World.frozen?, e3]⟩
theorem OwnI.step {w0 w : World} {base g c n : Nat} (h : OwnI w0 w base (some ⟨g, 0, none⟩) c n) (j : Nat) (z : Int) : OwnI w0 (w.setCell ⟨g, j, none⟩ (.int .u8 z)) base (some ⟨g, 0, none⟩) c n := by
  obtain ⟨hf, xs, hx, hz⟩ := h
  have hl : xs.length = n := by simpa using hx.1
  refine ⟨hf.setCell (p := ⟨g, j, none⟩) (.inl rfl) _, xs.set j (.int .u8 z), (hx.stored j _).1, fun i hi => ?_⟩
  by_cases hij : j = i
  · subst hij
    exact ⟨z, by simp [hl, hi]⟩
  · obtain ⟨z', e⟩ := hz i hi
    exact ⟨z', by rw [List.getElem?_set_ne hij]; exact e⟩
theorem one_keys (L fb : Nat) (x : List UInt8) (l : List Nat) (ss : List (List UInt8)) (h : ss.Perm (strKeys (DM.one L x fb l).D)) : ss = [x] := by
  have e : strKeys (DM.one L x fb l).D = [x] := rfl
  rw [e] at h
  exact List.perm_singleton.1 h
/-- Read of all bytes of a disk's only file. -/
theorem read_one (d m L fb : Nat) (l : List Nat) (q : DW) (O : Nat → Prop) (w : World) (h : DkAt w d m (DM.one L (nm sA) fb l) q O) (hl : l.length ≤ 1048576) :
    Calls Tryd.prog 22 #[.pointer (some ⟨d, 0, none⟩), .string sA, .int .i64 0, .int .i64 (l.length : Nat)] w fun e w' => ∃ ao c, e = .returned (.tuple #[.slice ao l.length c, .int .i64 0]) ∧ w'.ownsRow w.heap.size 5 1 (.slice ao l.length c) l.length (cellsOf l) ∧ Fr (fun _ => False) w w' := by
  refine (read0_at d m l.length _ q O sA w h rfl (by simp [maxLen]; decide) (one_has _ _) (one_len _ _ _ _ hl _).1 (by rw [one_b]; exact Nat.le_refl _)).mono ?_
  rintro e w' ⟨v, rfl, hv, hf⟩
  rw [one_b, List.take_length] at hv
  obtain ⟨ao, c, rfl⟩ := own_form hv
  exact ⟨ao, c, rfl, hv, hf⟩
end Go.Proofs.YtfoifojlgojgaabDoor

namespace Go.Proofs.YtfoifojlgojgaabDoor
open Go.RowKit Go.ChangeShapes Go.WideShapes Go.Maps Go.Sort

/-- A block that is apart from a log and its disk. -/
def Apt9 (w : World) (l : Nat) (O : Nat → Prop) (sv pv : Value) (k : Nat) : Prop := ¬ O k ∧ k ≠ l ∧ sv.ownBlock ≠ some k ∧ pv.ownBlock ≠ some k ∧ w.heap.size ≤ k
theorem WL.fresh {w W : World} {l d m : Nat} {L : LM} {s : DM} {q : DW} {O : Nat → Prop} {sv pv : Value} (h : WL w W l d m L s q O sv pv) {k : Nat} (hk : W.heap.size ≤ k) : Apt9 w l O sv pv k :=
  ⟨fun e => by have := h.D.lt k e; omega, fun e => by have := h.G.lt.1; omega, fun e => by have := h.G.lt.2.1 k e; omega, fun e => by have := h.G.lt.2.2 k e; omega, Nat.le_trans h.fr.size hk⟩
theorem WL.go {w W W' : World} {l d m : Nat} {L : LM} {s : DM} {q : DW} {O S : Nat → Prop} {sv pv : Value} (h : WL w W l d m L s q O sv pv) (hf : Fr S W W') (hS : ∀ k, S k → Apt9 w l O sv pv k) : WL w W' l d m L s q O sv pv :=
  ⟨h.D.fr hf (fun k hk e => (hS k e).1 hk), h.G.fr hf (fun e => (hS l e).2.1 rfl) (fun g hg e => (hS g e).2.2.1 hg) (fun g hg e => (hS g e).2.2.2.1 hg), h.al, h.asv, h.ap, h.fr.absorb hf (fun k hk => (hS k hk).2.2.2.2), h.o, h.ol, h.os, h.op⟩
theorem appC (w : World) (base n c z : Nat) (ao : Option Addr) (xs : List Value) (hx : w.ownsRow base 5 1 (.slice ao n c) n xs) (hn : n ≤ 100000000) (hb : base ≤ w.heap.size) (hz : z < 256) :
    ∃ ao' c' w', (Builtin.append_ #[22, 22] 22 #[.slice ao n c, .slice (some ⟨w.heap.size, 0, none⟩) 1 1]).run Tryd.prog (w.alloc (.cells #[.int .u8 (z : Nat)] 5)) = .ok (.slice ao' (n + 1) c') w' ∧ (∃ xs', w'.ownsRow base 5 1 (.slice ao' (n + 1) c') (n + 1) xs') ∧ Fr (fun k => (Value.slice ao n c).ownBlock = some k) w w' ∧ ∀ g, (Value.slice ao' (n + 1) c').ownBlock = some g → (Value.slice ao n c).ownBlock = some g ∨ w.heap.size ≤ g := by
  have hx1 : (w.alloc (.cells #[.int .u8 (z : Nat)] 5)).ownsRow base 5 1 (.slice ao n c) n xs := ownsRow_of_block hx (fun k hk => Below.heap_alloc _ _ _ (hx.lt k hk).2)
  obtain ⟨ao', c', w', hr, hown, hg, hat⟩ := run_app_sl _ 22 base n _ _ xs [z] hx1 (lit_srcW w [z] #[.int .u8 (z : Nat)] 1 (by simp [cellsOf, B, Nat.mod_eq_of_lt hz])) (by simp; omega) (by simp; omega)
  refine ⟨ao', c', w', hr, ⟨_, hown⟩, ((box1 w _).mono (fun _ _ h => h.elim)).grown hg (fun k hk => .inl hk), fun g hg => ?_⟩
  rcases hat with e | e
  · exact .inl (e ▸ hg)
  · have := hg.symm.trans e
    simp at this
    exact .inr (by omega)
set_option maxHeartbeats 4000000 in
set_option maxRecDepth 100000 in
/-- WalKept. -/
theorem wkept9_any (N : Nat) (data : List Nat) (xo : Option Addr) (xc : Nat) (w : World) (hx : Src w (.slice xo data.length xc) data) (hN : N ≤ xc) (hN2 : N < 9223372036854775808) (hcase : N = data.length ∧ data.length ≤ 65536 ∨ 65536 < N ∧ data.length = 65536) :
    Calls Tryd.prog 3 #[.slice xo N xc] w fun e w' => e = .returned (.bool true) ∧ Fr (fun _ => False) w w' := by
  have HX := hide hx
  have hl : data.length ≤ 65536 := by omega
  have HL := hide hl
  clear hx hl
  go_enter Tryd.func3, Tryd.ntmps3
  go_wp2_with fail
  refine (awake9 w).mono ?_
  rintro e w1 ⟨rfl, hf1⟩
  have H1 := hide hf1
  clear hf1
  go_wp2_with fail
  refine (new_any 1048576 w1 (by decide) (by decide)).mono ?_
  rintro e w2 ⟨d, m, q, O, rfl, hD2, hf2, hO2⟩
  have H2 := hide (DS.mk (w := w) hD2 ((unhide H1).trans hf2 (fun _ _ h => h)) (fun k hk => Nat.le_trans (unhide H1).size (hO2 k hk)))
  clear hD2 hf2 hO2 H1
  go_wp2_with fail
  refine (open_new w d m 1048576 _ q O sLog w2 (unhide H2) (by decide) (by decide) (by decide) (by decide) rfl rfl (by decide)).mono ?_
  rintro e w3 ⟨l, rfl, fb, q3, O3, sv3, hW3⟩
  have H3 := hide hW3
  clear hW3 H2
  have HCS := hide hcase
  clear hcase
  rcases unhide HCS with ⟨hNe, hle⟩ | ⟨hbig, hde⟩
  · subst hNe
    go_upto_region 12 with fail
    have hl := unhide HL
    clear HCS HL
    obtain ⟨po, pc, w4, hr4, hown4, hf4⟩ := app_nil w3 (.slice xo data.length xc) data ((unhide HX).fr (unhide H3).fr (fun _ _ _ _ _ h => h)) (by omega)
    have HR4 := hide hr4
    have hW4 := (unhide H3).quiet hf4
    have hpb : ∀ k, po.map (·.block) = some k → w3.heap.size ≤ k ∧ k < w4.heap.size := own_block hown4
    have H4 := hide (And.intro hW4 (And.intro hown4 hpb))
    have HP3 := hide (fun k (hk : w3.heap.size ≤ k) => (unhide H3).fresh hk)
    clear hr4 hown4 hf4 hW4 hpb H3
    go_wp2_with (at_builtin; refine wpList_app rfl _ _ 22 22 rfl _ _ _ rfl rfl (unhide HR4) ?_; clear HR4)
    refine (wappend_first w l d m 1048576 1048576 fb q3 O3 sv3 _ (.slice po data.length pc) data w4 (unhide H4).1 (own_src (unhide H4).2.1) (by omega) (by decide) (by omega) (by decide)).mono ?_
    rintro e w5 ⟨rfl, q5, O5, sv5, pv5, hW5, hO5, hf5⟩
    have hown5 : w5.ownsRow w3.heap.size 5 1 (.slice po data.length pc) data.length (cellsOf data) := ownsRow_of_block (unhide H4).2.1 (fun g hg => hf5.block g ((unhide H4).2.1.lt g hg).2 (fun e => by
      obtain ⟨a1, a2, a3, _, _⟩ := (unhide HP3) g ((unhide H4).2.1.lt g hg).1
      rcases e with e | e | e | e
      · exact a1 e
      · exact a2 e
      · exact a3 e
      · cases e))
    have hap5 : ∀ k, po.map (·.block) = some k → Apt9 w l O5 sv5 pv5 k := fun k hk => by
      obtain ⟨a1, a2, a3, _, a5⟩ := (unhide HP3) k ((unhide H4).2.2 k hk).1
      obtain ⟨cur, hc⟩ := own_blk hown5 (g := k) (by cases po with | none => cases hk | some a => simpa [Value.ownBlock] using hk)
      refine ⟨fun e => (hO5 k e).elim a1 (fun e => by have := ((unhide H4).2.2 k hk).2; omega), a2, fun e => ?_, fun e => ?_, a5⟩
      · obtain ⟨cur2, hc2⟩ := own_blk hW5.G.so e
        rw [hc] at hc2
        simp at hc2
      · obtain ⟨cur2, hc2⟩ := own_blk hW5.G.po e
        rw [hc] at hc2
        simp at hc2
    have H5 := hide (And.intro hW5 (And.intro hown5 hap5))
    clear hW5 hO5 hf5 hown5 hap5 H4 HP3
    go_wp2_with fail
    go_loopw [7] (fun i wr => ∃ k : Nat, k ≤ data.length ∧ i = .int .i64 k ∧ Inc w5 wr po data.length) (fun i _ => data.length - (intOf i).toNat)
    case atStart => exact ⟨0, Nat.zero_le _, rfl, inc_start (l := data) (unhide H5).2.1⟩
    case round =>
      obtain ⟨k, hk, rfl, hinc⟩ := hrel
      have HI := hide hinc
      clear hinc
      by_cases hlt : k < data.length
      · obtain ⟨g, c, rfl, hc, hz⟩ := (unhide HI).at_ k hlt
        go_wp2
        go_roundw
        case rel => exact ⟨k + 1, by omega, by go_num, (unhide HI).step k hlt _⟩
        case measure => simp [intOf]; omega
      · rename World => w6
        have H6 := hide ((unhide H5).1.go (unhide HI).fr (unhide H5).2.2)
        clear H5 HI
        go_wp2_with fail
        refine (wat_first w l d m 1048576 1048576 fb q5 O5 sv5 pv5 data w6 (unhide H6) (by omega)).mono ?_
        rintro e w7 ⟨v7, rfl, hv7, hf7⟩
        obtain ⟨ao, ac, rfl⟩ := own_form hv7
        have H7 := hide (And.intro ((unhide H6).quiet hf7) (And.intro hv7 hf7.size))
        have HP6 := hide (fun k (hk : w6.heap.size ≤ k) => (unhide H6).fresh hk)
        clear hv7 hf7 H6
        go_wp2_with fail
        refine (wat_first w l d m 1048576 1048576 fb q5 O5 sv5 pv5 data w7 (unhide H7).1 (by omega)).mono ?_
        rintro e w8 ⟨v8, rfl, hv8, hf8⟩
        obtain ⟨bo, bc, rfl⟩ := own_form hv8
        have ha8 : w8.ownsRow w6.heap.size 5 1 (.slice ao data.length ac) data.length (cellsOf data) := ownsRow_of_block (unhide H7).2.1 (fun g hg => hf8.block g ((unhide H7).2.1.lt g hg).2 (fun h => h))
        have hbx : ∀ k, (Value.slice ao data.length ac).ownBlock = some k → w6.heap.size ≤ k ∧ k < w7.heap.size := fun k hk => (unhide H7).2.1.lt k hk
        have hs6 := (unhide H7).2.2
        have H8 := hide (And.intro ((unhide H7).1.quiet hf8) (And.intro ha8 (And.intro hv8 (And.intro hbx (And.intro hs6 hf8.size)))))
        clear hv8 hf8 ha8 hbx hs6 H7
        have hda : Src w8 (.slice xo data.length xc) data := (unhide HX).fr (unhide H8).1.fr (fun _ _ _ _ _ h => h)
        have HDA := hide hda
        clear hda
        go_wp2_with fail
        refine (same_any _ _ data data w8 (own_src (unhide H8).2.1) (unhide HDA) (by omega)).mono ?_
        rintro e w9 ⟨rfl, n1, rfl⟩
        rw [same_self]
        go_wp2_with fail
        refine (same_any _ _ data data (w8.drewN n1) ((own_src (unhide H8).2.2.1).fr ((Fr.refl (fun _ => False) _).drewN n1) (fun _ _ _ _ _ h => h)) ((unhide HDA).fr ((Fr.refl (fun _ => False) _).drewN n1) (fun _ _ _ _ _ h => h)) (by omega)).mono ?_
        rintro e w9 ⟨rfl, n2, rfl⟩
        rw [same_self]
        obtain ⟨WA, hWA⟩ : ∃ WA, WA = (w8.drewN n1).drewN n2 := ⟨_, rfl⟩
        have hfA : Fr (fun _ => False) w8 WA := by rw [hWA]; exact ((Fr.refl _ _).drewN n1).drewN n2
        rw [← hWA]
        clear hWA
        have haA : WA.ownsRow w6.heap.size 5 1 (.slice ao data.length ac) data.length (cellsOf data) := ownsRow_of_block (unhide H8).2.1 (fun g hg => hfA.block g ((unhide H8).2.1.lt g hg).2 (fun h => h))
        have hbA : WA.ownsRow w7.heap.size 5 1 (.slice bo data.length bc) data.length (cellsOf data) := ownsRow_of_block (unhide H8).2.2.1 (fun g hg => hfA.block g ((unhide H8).2.2.1.lt g hg).2 (fun h => h))
        have hsz : w6.heap.size ≤ WA.heap.size := Nat.le_trans (Nat.le_trans (unhide H8).2.2.2.2.1 (unhide H8).2.2.2.2.2) hfA.size
        have HA := hide (And.intro ((unhide H8).1.quiet hfA) (And.intro haA (And.intro hbA (And.intro (unhide H8).2.2.2.1 hsz))))
        clear hfA haA hbA hsz H8 HDA
        go_wp2_with fail
        go_loopw [12] (fun i wr => ∃ k : Nat, k ≤ data.length ∧ i = .int .i64 k ∧ OwnI WA wr w6.heap.size ao ac data.length) (fun i _ => data.length - (intOf i).toNat)
        case atStart => exact ⟨0, Nat.zero_le _, rfl, Fr.refl _ _, _, (unhide HA).2.1, cells8 data rfl⟩
        case round =>
          obtain ⟨k2, hk2, rfl, hinc⟩ := hrel
          have HI := hide hinc
          clear hinc
          by_cases hlt2 : k2 < data.length
          · obtain ⟨g, c, rfl, hc, hz⟩ := (unhide HI).at_ k2 hlt2
            go_wp2
            go_roundw
            case rel => exact ⟨k2 + 1, by omega, by go_num, (unhide HI).step k2 _⟩
            case measure => simp [intOf]; omega
          · rename World => wB
            have hown : ∀ k, ao.map (·.block) = some k → w6.heap.size ≤ k ∧ k < w7.heap.size := fun k hk => (unhide HA).2.2.2.1 k (by cases ao with | none => cases hk | some a => simpa [Value.ownBlock] using hk)
            have hWB := (unhide HA).1.go (unhide HI).1 (fun k hk => (unhide HP6) k (hown k hk).1)
            have hbB : wB.ownsRow w7.heap.size 5 1 (.slice bo data.length bc) data.length (cellsOf data) := ownsRow_of_block (unhide HA).2.2.1 (fun g hg => (unhide HI).1.block g ((unhide HA).2.2.1.lt g hg).2 (fun e => by
              have h1 := ((unhide HA).2.2.1.lt g hg).1
              have h2 := hown g e
              omega))
            have hszB : w6.heap.size ≤ wB.heap.size := Nat.le_trans (unhide HA).2.2.2.2 (unhide HI).1.size
            have HB := hide (And.intro hWB (And.intro (unhide HI).2 (And.intro hbB (And.intro (unhide HA).2.2.2.1 hszB))))
            clear hWB hbB hown hszB HA HI
            go_wp2_with fail
            go_loopw [8, 13] (fun xv iv wr => ∃ (k : Nat) (ao' : Option Addr) (c' : Nat) (xs : List Value), k ≤ 5 ∧ iv = .int .i64 k ∧ xv = .slice ao' (data.length + k) c' ∧ (∀ g, (Value.slice ao' (data.length + k) c').ownBlock = some g → (Value.slice ao data.length ac).ownBlock = some g ∨ wB.heap.size ≤ g) ∧ Fr (fun j => (Value.slice ao data.length ac).ownBlock = some j) wB wr ∧ wr.ownsRow w6.heap.size 5 1 (.slice ao' (data.length + k) c') (data.length + k) xs) (fun _ i _ => 5 - (intOf i).toNat)
            case atStart =>
              obtain ⟨xs, hxs, _⟩ := (unhide HB).2.1
              exact ⟨0, ao, ac, xs, by decide, rfl, rfl, fun g hg => .inl hg, Fr.refl _ _, hxs⟩
            case round =>
              obtain ⟨k5, a5, c5, xs5, hk5, rfl, rfl, hb5, hf5, hx5⟩ := hrel
              have H5 := hide (And.intro hb5 (And.intro hf5 hx5))
              clear hb5 hf5 hx5
              by_cases hlt5 : k5 < 5
              · rename World => wq
                obtain ⟨hb5, hf5, hx5⟩ := unhide H5
                obtain ⟨a6, c6, w6', hr6, hx6, hf6, hb6⟩ := appC wq w6.heap.size (data.length + k5) c5 7 a5 xs5 hx5 (by omega) (Nat.le_trans (unhide HB).2.2.2.2 hf5.size) (by decide)
                have hf6' : Fr (fun j => (Value.slice ao data.length ac).ownBlock = some j) wB w6' := hf5.trans hf6 (fun i hi e => (hb5 i e).elim id (fun h => by omega))
                have hb6' : ∀ g, (Value.slice a6 (data.length + k5 + 1) c6).ownBlock = some g → (Value.slice ao data.length ac).ownBlock = some g ∨ wB.heap.size ≤ g := fun g hg => (hb6 g hg).elim (hb5 g) (fun h => .inr (Nat.le_trans hf5.size h))
                have HR6 := hide hr6
                have H6 := hide (And.intro hx6 (And.intro hf6' hb6'))
                clear hr6 hx6 hf6 hb6 hf6' hb6' hb5 hf5 hx5 H5
                go_wp2_with (at_builtin; refine wpList_app rfl _ _ 22 22 rfl _ _ _ rfl rfl (unhide HR6) ?_)
                go_roundw
                case rel =>
                  obtain ⟨xs6, hx6⟩ := (unhide H6).1
                  exact ⟨k5 + 1, a6, c6, xs6, by omega, by go_num, rfl, (unhide H6).2.2, (unhide H6).2.1, hx6⟩
                case measure => simp [intOf]; omega
              · rename World => wC
                obtain rfl : k5 = 5 := by omega
                have hWC := (unhide HB).1.go (unhide H5).2.1 (fun k hk => (unhide HP6) k ((unhide HB).2.2.2.1 k hk).1)
                have hbC : wC.ownsRow w7.heap.size 5 1 (.slice bo data.length bc) data.length (cellsOf data) := ownsRow_of_block (unhide HB).2.2.1 (fun g hg => (unhide H5).2.1.block g ((unhide HB).2.2.1.lt g hg).2 (fun e => by
                  have h1 := ((unhide HB).2.2.1.lt g hg).1
                  have h2 := (unhide HB).2.2.2.1 g e
                  omega))
                have HC := hide (And.intro hWC hbC)
                clear hWC hbC HB H5
                go_wp2_with fail
                refine (segments_any l d _ sv5 pv5 [] (12 + data.length) wC (unhide HC).1.G rfl (by decide)).mono ?_
                rintro e wD ⟨sD, rfl, hsD, hfD⟩
                have hsf : ∃ sg sc, sD = .slice (some ⟨sg, 0, none⟩) 1 sc ∧ wC.heap.size ≤ sg ∧ wD.cell? ⟨sg, 0, none⟩ = some (.int .i64 ((12 + data.length : Nat) : Int)) ∧ wD.frozen? ⟨sg, 0, none⟩ = false := by
                  rcases hsD.2 with ⟨_, e⟩ | ⟨g, c, cur, e, hg, hb, _⟩
                  · simp at e
                  · subst e
                    exact ⟨g, c, rfl, hg, (hsD.cellAt 0 (by simp)).trans rfl, by simp [World.frozen?, hb]⟩
                obtain ⟨sg, sc, rfl, hsg, hsc, hsz0⟩ := hsf
                have hWD := (unhide HC).1.quiet hfD
                have hbD : wD.ownsRow w7.heap.size 5 1 (.slice bo data.length bc) data.length (cellsOf data) := ownsRow_of_block (unhide HC).2 (fun g hg => hfD.block g ((unhide HC).2.lt g hg).2 (fun h => h))
                have HD := hide (And.intro hWD (And.intro hbD (And.intro ((unhide HC).1.fresh hsg) (And.intro ((unhide HC).2.lt) hsg))))
                have HSC := hide (And.intro hsc hsz0)
                clear hsD hfD hWD hbD HC hsc hsz0
                go_wp2_with fail
                refine (segments_any l d _ sv5 pv5 [] (12 + data.length) wD (unhide HD).1.G rfl (by decide)).mono ?_
                rintro e wE ⟨tE, rfl, htE, hfE⟩
                have htf : ∃ tg tc, tE = .slice (some ⟨tg, 0, none⟩) 1 tc ∧ wD.heap.size ≤ tg ∧ tg < wE.heap.size ∧ wE.cell? ⟨tg, 0, none⟩ = some (.int .i64 ((12 + data.length : Nat) : Int)) := by
                  rcases htE.2 with ⟨_, e⟩ | ⟨g, c, cur, e, hg, hb, _⟩
                  · simp at e
                  · subst e
                    exact ⟨g, c, rfl, hg, lt_of_block hb, (htE.cellAt 0 (by simp)).trans rfl⟩
                obtain ⟨tg, tc, rfl, htg, htl, htc⟩ := htf
                have hsl : sg < wD.heap.size := lt_of_cell (unhide HSC).1
                have scE : wE.cell? ⟨sg, 0, none⟩ = some (.int .i64 ((12 + data.length : Nat) : Int)) := (hfE.cell (p := ⟨sg, 0, none⟩) hsl (fun h => h)).trans (unhide HSC).1
                have szE : wE.frozen? ⟨sg, 0, none⟩ = false := by
                  have h0 : wE.heap[sg]? = wD.heap[sg]? := hfE.block sg hsl (fun h => h)
                  have h1 := (unhide HSC).2
                  simp only [World.frozen?, h0] at h1 ⊢
                  exact h1
                have hfs : Fr (fun k => k = sg) wE (wE.setCell ⟨sg, 0, none⟩ (.int .i64 7)) := (Fr.refl _ _).at1 _ _
                have hWF := ((unhide HD).1.quiet hfE).go hfs (fun k hk => by rw [hk]; exact (unhide HD).2.2.1)
                have hbF : (wE.setCell ⟨sg, 0, none⟩ (.int .i64 7)).ownsRow w7.heap.size 5 1 (.slice bo data.length bc) data.length (cellsOf data) := ownsRow_of_block (unhide HD).2.1 (fun g hg => by
                  have h1 := ((unhide HD).2.1.lt g hg).2
                  have h2 := ((unhide HD).2.2.2.1 g hg).2
                  have h3 := (unhide HD).2.2.2.2
                  rw [hfs.block g (Nat.lt_of_lt_of_le h1 hfE.size) (fun e => by have e' : g = sg := e; omega), hfE.block g h1 (fun h => h)])
                have htF : (wE.setCell ⟨sg, 0, none⟩ (.int .i64 7)).cell? ⟨tg, 0, none⟩ = some (.int .i64 ((12 + data.length : Nat) : Int)) := (hfs.cell (p := ⟨tg, 0, none⟩) htl (fun e => by have e' : tg = sg := e; omega)).trans htc
                have HF := hide (And.intro hWF (And.intro hbF (And.intro htF (show tg < (wE.setCell ⟨sg, 0, none⟩ (.int .i64 7)).heap.size by simpa [World.setCell] using htl))))
                obtain ⟨WF, hWFe⟩ : ∃ WF, WF = wE.setCell ⟨sg, 0, none⟩ (.int .i64 7) := ⟨_, rfl⟩
                rw [← hWFe] at HF
                have HWF := hide hWFe
                clear hWFe htE hfE hfs hWF hbF htF htc htl htg hsl HD HSC
                go_wp2_with fail
                rw [← unhide HWF]
                clear HWF scE szE
                refine (wat_first w l d m 1048576 1048576 fb q5 O5 sv5 pv5 data WF (unhide HF).1 (by omega)).mono ?_
                rintro e wG ⟨vG, rfl, hvG, hfG⟩
                obtain ⟨co, cc, rfl⟩ := own_form hvG
                have hbG : Src wG (.slice bo data.length bc) data := (own_src (unhide HF).2.1).fr hfG (fun _ _ _ _ _ h => h)
                have hWG := (unhide HF).1.quiet hfG
                have hdG : Src wG (.slice xo data.length xc) data := (unhide HX).fr hWG.fr (fun _ _ _ _ _ h => h)
                have htG : wG.cell? ⟨tg, 0, none⟩ = some (.int .i64 ((12 + data.length : Nat) : Int)) := (hfG.cell (p := ⟨tg, 0, none⟩) (unhide HF).2.2.2 (fun h => h)).trans (unhide HF).2.2.1
                have HG := hide (And.intro hbG (And.intro (own_src hvG) (And.intro hdG (And.intro htG hWG.fr))))
                clear hvG hfG hbG hWG hdG htG HF
                go_wp2_with fail
                refine (same_any _ _ data data wG (unhide HG).1 (unhide HG).2.2.1 (by omega)).mono ?_
                rintro e wH ⟨rfl, n3, rfl⟩
                rw [same_self]
                go_wp2_with fail
                refine (same_any _ _ data data (wG.drewN n3) ((unhide HG).2.1.fr ((Fr.refl (fun _ => False) _).drewN n3) (fun _ _ _ _ _ h => h)) ((unhide HG).2.2.1.fr ((Fr.refl (fun _ => False) _).drewN n3) (fun _ _ _ _ _ h => h)) (by omega)).mono ?_
                rintro e wH ⟨rfl, n4, rfl⟩
                rw [same_self]
                have hfH : Fr (fun _ => False) w ((wG.drewN n3).drewN n4) := ((unhide HG).2.2.2.2.drewN n3).drewN n4
                have htH : ((wG.drewN n3).drewN n4).cell? ⟨tg, 0, none⟩ = some (.int .i64 ((12 + data.length : Nat) : Int)) := (unhide HG).2.2.2.1
                rw [show ((12 + data.length : Nat) : Int) = (data.length : Int) + 12 by omega] at htH
                have HFH := hide hfH
                clear hfH HG
                generalize (wG.drewN n3).drewN n4 = WH at *
                go_wp2_with fail
                go_ret
                exact ⟨rfl, unhide HFH⟩
  · have HDE := hide hde
    clear hde
    go_upto_region 12 with fail
    rw [← unhide HDE]
    have hl := unhide HL
    clear HCS HL HDE
    obtain ⟨po, pc, w4, hr4, hown4, hf4⟩ := app_nil w3 (.slice xo data.length xc) data ((unhide HX).fr (unhide H3).fr (fun _ _ _ _ _ h => h)) (by omega)
    have HR4 := hide hr4
    have hW4 := (unhide H3).quiet hf4
    have hpb : ∀ k, po.map (·.block) = some k → w3.heap.size ≤ k ∧ k < w4.heap.size := own_block hown4
    have H4 := hide (And.intro hW4 (And.intro hown4 hpb))
    have HP3 := hide (fun k (hk : w3.heap.size ≤ k) => (unhide H3).fresh hk)
    clear hr4 hown4 hf4 hW4 hpb H3
    go_wp2_with (at_builtin; refine wpList_app rfl _ _ 22 22 rfl _ _ _ rfl rfl (unhide HR4) ?_; clear HR4)
    refine (wappend_first w l d m 1048576 1048576 fb q3 O3 sv3 _ (.slice po data.length pc) data w4 (unhide H4).1 (own_src (unhide H4).2.1) (by omega) (by decide) (by omega) (by decide)).mono ?_
    rintro e w5 ⟨rfl, q5, O5, sv5, pv5, hW5, hO5, hf5⟩
    have hown5 : w5.ownsRow w3.heap.size 5 1 (.slice po data.length pc) data.length (cellsOf data) := ownsRow_of_block (unhide H4).2.1 (fun g hg => hf5.block g ((unhide H4).2.1.lt g hg).2 (fun e => by
      obtain ⟨a1, a2, a3, _, _⟩ := (unhide HP3) g ((unhide H4).2.1.lt g hg).1
      rcases e with e | e | e | e
      · exact a1 e
      · exact a2 e
      · exact a3 e
      · cases e))
    have hap5 : ∀ k, po.map (·.block) = some k → Apt9 w l O5 sv5 pv5 k := fun k hk => by
      obtain ⟨a1, a2, a3, _, a5⟩ := (unhide HP3) k ((unhide H4).2.2 k hk).1
      obtain ⟨cur, hc⟩ := own_blk hown5 (g := k) (by cases po with | none => cases hk | some a => simpa [Value.ownBlock] using hk)
      refine ⟨fun e => (hO5 k e).elim a1 (fun e => by have := ((unhide H4).2.2 k hk).2; omega), a2, fun e => ?_, fun e => ?_, a5⟩
      · obtain ⟨cur2, hc2⟩ := own_blk hW5.G.so e
        rw [hc] at hc2
        simp at hc2
      · obtain ⟨cur2, hc2⟩ := own_blk hW5.G.po e
        rw [hc] at hc2
        simp at hc2
    have H5 := hide (And.intro hW5 (And.intro hown5 hap5))
    clear hW5 hO5 hf5 hown5 hap5 H4 HP3
    go_wp2_with fail
    go_loopw [7] (fun i wr => ∃ k : Nat, k ≤ data.length ∧ i = .int .i64 k ∧ Inc w5 wr po data.length) (fun i _ => data.length - (intOf i).toNat)
    case atStart => exact ⟨0, Nat.zero_le _, rfl, inc_start (l := data) (unhide H5).2.1⟩
    case round =>
      obtain ⟨k, hk, rfl, hinc⟩ := hrel
      have HI := hide hinc
      clear hinc
      by_cases hlt : k < data.length
      · obtain ⟨g, c, rfl, hc, hz⟩ := (unhide HI).at_ k hlt
        go_wp2
        go_roundw
        case rel => exact ⟨k + 1, by omega, by go_num, (unhide HI).step k hlt _⟩
        case measure => simp [intOf]; omega
      · rename World => w6
        have H6 := hide ((unhide H5).1.go (unhide HI).fr (unhide H5).2.2)
        clear H5 HI
        go_wp2_with fail
        refine (wat_first w l d m 1048576 1048576 fb q5 O5 sv5 pv5 data w6 (unhide H6) (by omega)).mono ?_
        rintro e w7 ⟨v7, rfl, hv7, hf7⟩
        obtain ⟨ao, ac, rfl⟩ := own_form hv7
        have H7 := hide (And.intro ((unhide H6).quiet hf7) (And.intro hv7 hf7.size))
        have HP6 := hide (fun k (hk : w6.heap.size ≤ k) => (unhide H6).fresh hk)
        clear hv7 hf7 H6
        go_wp2_with fail
        refine (wat_first w l d m 1048576 1048576 fb q5 O5 sv5 pv5 data w7 (unhide H7).1 (by omega)).mono ?_
        rintro e w8 ⟨v8, rfl, hv8, hf8⟩
        obtain ⟨bo, bc, rfl⟩ := own_form hv8
        have ha8 : w8.ownsRow w6.heap.size 5 1 (.slice ao data.length ac) data.length (cellsOf data) := ownsRow_of_block (unhide H7).2.1 (fun g hg => hf8.block g ((unhide H7).2.1.lt g hg).2 (fun h => h))
        have hbx : ∀ k, (Value.slice ao data.length ac).ownBlock = some k → w6.heap.size ≤ k ∧ k < w7.heap.size := fun k hk => (unhide H7).2.1.lt k hk
        have hs6 := (unhide H7).2.2
        have H8 := hide (And.intro ((unhide H7).1.quiet hf8) (And.intro ha8 (And.intro hv8 (And.intro hbx (And.intro hs6 hf8.size)))))
        clear hv8 hf8 ha8 hbx hs6 H7
        have hda : Src w8 (.slice xo data.length xc) data := (unhide HX).fr (unhide H8).1.fr (fun _ _ _ _ _ h => h)
        have HDA := hide hda
        clear hda
        go_wp2_with fail
        refine (same_any _ _ data data w8 (own_src (unhide H8).2.1) (unhide HDA) (by omega)).mono ?_
        rintro e w9 ⟨rfl, n1, rfl⟩
        rw [same_self]
        go_wp2_with fail
        refine (same_any _ _ data data (w8.drewN n1) ((own_src (unhide H8).2.2.1).fr ((Fr.refl (fun _ => False) _).drewN n1) (fun _ _ _ _ _ h => h)) ((unhide HDA).fr ((Fr.refl (fun _ => False) _).drewN n1) (fun _ _ _ _ _ h => h)) (by omega)).mono ?_
        rintro e w9 ⟨rfl, n2, rfl⟩
        rw [same_self]
        obtain ⟨WA, hWA⟩ : ∃ WA, WA = (w8.drewN n1).drewN n2 := ⟨_, rfl⟩
        have hfA : Fr (fun _ => False) w8 WA := by rw [hWA]; exact ((Fr.refl _ _).drewN n1).drewN n2
        rw [← hWA]
        clear hWA
        have haA : WA.ownsRow w6.heap.size 5 1 (.slice ao data.length ac) data.length (cellsOf data) := ownsRow_of_block (unhide H8).2.1 (fun g hg => hfA.block g ((unhide H8).2.1.lt g hg).2 (fun h => h))
        have hbA : WA.ownsRow w7.heap.size 5 1 (.slice bo data.length bc) data.length (cellsOf data) := ownsRow_of_block (unhide H8).2.2.1 (fun g hg => hfA.block g ((unhide H8).2.2.1.lt g hg).2 (fun h => h))
        have hsz : w6.heap.size ≤ WA.heap.size := Nat.le_trans (Nat.le_trans (unhide H8).2.2.2.2.1 (unhide H8).2.2.2.2.2) hfA.size
        have HA := hide (And.intro ((unhide H8).1.quiet hfA) (And.intro haA (And.intro hbA (And.intro (unhide H8).2.2.2.1 hsz))))
        clear hfA haA hbA hsz H8 HDA
        go_wp2_with fail
        go_loopw [12] (fun i wr => ∃ k : Nat, k ≤ data.length ∧ i = .int .i64 k ∧ OwnI WA wr w6.heap.size ao ac data.length) (fun i _ => data.length - (intOf i).toNat)
        case atStart => exact ⟨0, Nat.zero_le _, rfl, Fr.refl _ _, _, (unhide HA).2.1, cells8 data rfl⟩
        case round =>
          obtain ⟨k2, hk2, rfl, hinc⟩ := hrel
          have HI := hide hinc
          clear hinc
          by_cases hlt2 : k2 < data.length
          · obtain ⟨g, c, rfl, hc, hz⟩ := (unhide HI).at_ k2 hlt2
            go_wp2
            go_roundw
            case rel => exact ⟨k2 + 1, by omega, by go_num, (unhide HI).step k2 _⟩
            case measure => simp [intOf]; omega
          · rename World => wB
            have hown : ∀ k, ao.map (·.block) = some k → w6.heap.size ≤ k ∧ k < w7.heap.size := fun k hk => (unhide HA).2.2.2.1 k (by cases ao with | none => cases hk | some a => simpa [Value.ownBlock] using hk)
            have hWB := (unhide HA).1.go (unhide HI).1 (fun k hk => (unhide HP6) k (hown k hk).1)
            have hbB : wB.ownsRow w7.heap.size 5 1 (.slice bo data.length bc) data.length (cellsOf data) := ownsRow_of_block (unhide HA).2.2.1 (fun g hg => (unhide HI).1.block g ((unhide HA).2.2.1.lt g hg).2 (fun e => by
              have h1 := ((unhide HA).2.2.1.lt g hg).1
              have h2 := hown g e
              omega))
            have hszB : w6.heap.size ≤ wB.heap.size := Nat.le_trans (unhide HA).2.2.2.2 (unhide HI).1.size
            have HB := hide (And.intro hWB (And.intro (unhide HI).2 (And.intro hbB (And.intro (unhide HA).2.2.2.1 hszB))))
            clear hWB hbB hown hszB HA HI
            go_wp2_with fail
            go_loopw [8, 13] (fun xv iv wr => ∃ (k : Nat) (ao' : Option Addr) (c' : Nat) (xs : List Value), k ≤ 5 ∧ iv = .int .i64 k ∧ xv = .slice ao' (data.length + k) c' ∧ (∀ g, (Value.slice ao' (data.length + k) c').ownBlock = some g → (Value.slice ao data.length ac).ownBlock = some g ∨ wB.heap.size ≤ g) ∧ Fr (fun j => (Value.slice ao data.length ac).ownBlock = some j) wB wr ∧ wr.ownsRow w6.heap.size 5 1 (.slice ao' (data.length + k) c') (data.length + k) xs) (fun _ i _ => 5 - (intOf i).toNat)
            case atStart =>
              obtain ⟨xs, hxs, _⟩ := (unhide HB).2.1
              exact ⟨0, ao, ac, xs, by decide, rfl, rfl, fun g hg => .inl hg, Fr.refl _ _, hxs⟩
            case round =>
              obtain ⟨k5, a5, c5, xs5, hk5, rfl, rfl, hb5, hf5, hx5⟩ := hrel
              have H5 := hide (And.intro hb5 (And.intro hf5 hx5))
              clear hb5 hf5 hx5
              by_cases hlt5 : k5 < 5
              · rename World => wq
                obtain ⟨hb5, hf5, hx5⟩ := unhide H5
                obtain ⟨a6, c6, w6', hr6, hx6, hf6, hb6⟩ := appC wq w6.heap.size (data.length + k5) c5 7 a5 xs5 hx5 (by omega) (Nat.le_trans (unhide HB).2.2.2.2 hf5.size) (by decide)
                have hf6' : Fr (fun j => (Value.slice ao data.length ac).ownBlock = some j) wB w6' := hf5.trans hf6 (fun i hi e => (hb5 i e).elim id (fun h => by omega))
                have hb6' : ∀ g, (Value.slice a6 (data.length + k5 + 1) c6).ownBlock = some g → (Value.slice ao data.length ac).ownBlock = some g ∨ wB.heap.size ≤ g := fun g hg => (hb6 g hg).elim (hb5 g) (fun h => .inr (Nat.le_trans hf5.size h))
                have HR6 := hide hr6
                have H6 := hide (And.intro hx6 (And.intro hf6' hb6'))
                clear hr6 hx6 hf6 hb6 hf6' hb6' hb5 hf5 hx5 H5
                go_wp2_with (at_builtin; refine wpList_app rfl _ _ 22 22 rfl _ _ _ rfl rfl (unhide HR6) ?_)
                go_roundw
                case rel =>
                  obtain ⟨xs6, hx6⟩ := (unhide H6).1
                  exact ⟨k5 + 1, a6, c6, xs6, by omega, by go_num, rfl, (unhide H6).2.2, (unhide H6).2.1, hx6⟩
                case measure => simp [intOf]; omega
              · rename World => wC
                obtain rfl : k5 = 5 := by omega
                have hWC := (unhide HB).1.go (unhide H5).2.1 (fun k hk => (unhide HP6) k ((unhide HB).2.2.2.1 k hk).1)
                have hbC : wC.ownsRow w7.heap.size 5 1 (.slice bo data.length bc) data.length (cellsOf data) := ownsRow_of_block (unhide HB).2.2.1 (fun g hg => (unhide H5).2.1.block g ((unhide HB).2.2.1.lt g hg).2 (fun e => by
                  have h1 := ((unhide HB).2.2.1.lt g hg).1
                  have h2 := (unhide HB).2.2.2.1 g e
                  omega))
                have HC := hide (And.intro hWC hbC)
                clear hWC hbC HB H5
                go_wp2_with fail
                refine (segments_any l d _ sv5 pv5 [] (12 + data.length) wC (unhide HC).1.G rfl (by decide)).mono ?_
                rintro e wD ⟨sD, rfl, hsD, hfD⟩
                have hsf : ∃ sg sc, sD = .slice (some ⟨sg, 0, none⟩) 1 sc ∧ wC.heap.size ≤ sg ∧ wD.cell? ⟨sg, 0, none⟩ = some (.int .i64 ((12 + data.length : Nat) : Int)) ∧ wD.frozen? ⟨sg, 0, none⟩ = false := by
                  rcases hsD.2 with ⟨_, e⟩ | ⟨g, c, cur, e, hg, hb, _⟩
                  · simp at e
                  · subst e
                    exact ⟨g, c, rfl, hg, (hsD.cellAt 0 (by simp)).trans rfl, by simp [World.frozen?, hb]⟩
                obtain ⟨sg, sc, rfl, hsg, hsc, hsz0⟩ := hsf
                have hWD := (unhide HC).1.quiet hfD
                have hbD : wD.ownsRow w7.heap.size 5 1 (.slice bo data.length bc) data.length (cellsOf data) := ownsRow_of_block (unhide HC).2 (fun g hg => hfD.block g ((unhide HC).2.lt g hg).2 (fun h => h))
                have HD := hide (And.intro hWD (And.intro hbD (And.intro ((unhide HC).1.fresh hsg) (And.intro ((unhide HC).2.lt) hsg))))
                have HSC := hide (And.intro hsc hsz0)
                clear hsD hfD hWD hbD HC hsc hsz0
                go_wp2_with fail
                refine (segments_any l d _ sv5 pv5 [] (12 + data.length) wD (unhide HD).1.G rfl (by decide)).mono ?_
                rintro e wE ⟨tE, rfl, htE, hfE⟩
                have htf : ∃ tg tc, tE = .slice (some ⟨tg, 0, none⟩) 1 tc ∧ wD.heap.size ≤ tg ∧ tg < wE.heap.size ∧ wE.cell? ⟨tg, 0, none⟩ = some (.int .i64 ((12 + data.length : Nat) : Int)) := by
                  rcases htE.2 with ⟨_, e⟩ | ⟨g, c, cur, e, hg, hb, _⟩
                  · simp at e
                  · subst e
                    exact ⟨g, c, rfl, hg, lt_of_block hb, (htE.cellAt 0 (by simp)).trans rfl⟩
                obtain ⟨tg, tc, rfl, htg, htl, htc⟩ := htf
                have hsl : sg < wD.heap.size := lt_of_cell (unhide HSC).1
                have scE : wE.cell? ⟨sg, 0, none⟩ = some (.int .i64 ((12 + data.length : Nat) : Int)) := (hfE.cell (p := ⟨sg, 0, none⟩) hsl (fun h => h)).trans (unhide HSC).1
                have szE : wE.frozen? ⟨sg, 0, none⟩ = false := by
                  have h0 : wE.heap[sg]? = wD.heap[sg]? := hfE.block sg hsl (fun h => h)
                  have h1 := (unhide HSC).2
                  simp only [World.frozen?, h0] at h1 ⊢
                  exact h1
                have hfs : Fr (fun k => k = sg) wE (wE.setCell ⟨sg, 0, none⟩ (.int .i64 7)) := (Fr.refl _ _).at1 _ _
                have hWF := ((unhide HD).1.quiet hfE).go hfs (fun k hk => by rw [hk]; exact (unhide HD).2.2.1)
                have hbF : (wE.setCell ⟨sg, 0, none⟩ (.int .i64 7)).ownsRow w7.heap.size 5 1 (.slice bo data.length bc) data.length (cellsOf data) := ownsRow_of_block (unhide HD).2.1 (fun g hg => by
                  have h1 := ((unhide HD).2.1.lt g hg).2
                  have h2 := ((unhide HD).2.2.2.1 g hg).2
                  have h3 := (unhide HD).2.2.2.2
                  rw [hfs.block g (Nat.lt_of_lt_of_le h1 hfE.size) (fun e => by have e' : g = sg := e; omega), hfE.block g h1 (fun h => h)])
                have htF : (wE.setCell ⟨sg, 0, none⟩ (.int .i64 7)).cell? ⟨tg, 0, none⟩ = some (.int .i64 ((12 + data.length : Nat) : Int)) := (hfs.cell (p := ⟨tg, 0, none⟩) htl (fun e => by have e' : tg = sg := e; omega)).trans htc
                have HF := hide (And.intro hWF (And.intro hbF (And.intro htF (show tg < (wE.setCell ⟨sg, 0, none⟩ (.int .i64 7)).heap.size by simpa [World.setCell] using htl))))
                obtain ⟨WF, hWFe⟩ : ∃ WF, WF = wE.setCell ⟨sg, 0, none⟩ (.int .i64 7) := ⟨_, rfl⟩
                rw [← hWFe] at HF
                have HWF := hide hWFe
                clear hWFe htE hfE hfs hWF hbF htF htc htl htg hsl HD HSC
                go_wp2_with fail
                rw [← unhide HWF]
                clear HWF scE szE
                refine (wat_first w l d m 1048576 1048576 fb q5 O5 sv5 pv5 data WF (unhide HF).1 (by omega)).mono ?_
                rintro e wG ⟨vG, rfl, hvG, hfG⟩
                obtain ⟨co, cc, rfl⟩ := own_form hvG
                have hbG : Src wG (.slice bo data.length bc) data := (own_src (unhide HF).2.1).fr hfG (fun _ _ _ _ _ h => h)
                have hWG := (unhide HF).1.quiet hfG
                have hdG : Src wG (.slice xo data.length xc) data := (unhide HX).fr hWG.fr (fun _ _ _ _ _ h => h)
                have htG : wG.cell? ⟨tg, 0, none⟩ = some (.int .i64 ((12 + data.length : Nat) : Int)) := (hfG.cell (p := ⟨tg, 0, none⟩) (unhide HF).2.2.2 (fun h => h)).trans (unhide HF).2.2.1
                have HG := hide (And.intro hbG (And.intro (own_src hvG) (And.intro hdG (And.intro htG hWG.fr))))
                clear hvG hfG hbG hWG hdG htG HF
                go_wp2_with fail
                refine (same_any _ _ data data wG (unhide HG).1 (unhide HG).2.2.1 (by omega)).mono ?_
                rintro e wH ⟨rfl, n3, rfl⟩
                rw [same_self]
                go_wp2_with fail
                refine (same_any _ _ data data (wG.drewN n3) ((unhide HG).2.1.fr ((Fr.refl (fun _ => False) _).drewN n3) (fun _ _ _ _ _ h => h)) ((unhide HG).2.2.1.fr ((Fr.refl (fun _ => False) _).drewN n3) (fun _ _ _ _ _ h => h)) (by omega)).mono ?_
                rintro e wH ⟨rfl, n4, rfl⟩
                rw [same_self]
                have hfH : Fr (fun _ => False) w ((wG.drewN n3).drewN n4) := ((unhide HG).2.2.2.2.drewN n3).drewN n4
                have htH : ((wG.drewN n3).drewN n4).cell? ⟨tg, 0, none⟩ = some (.int .i64 ((12 + data.length : Nat) : Int)) := (unhide HG).2.2.2.1
                rw [show ((12 + data.length : Nat) : Int) = (data.length : Int) + 12 by omega] at htH
                have HFH := hide hfH
                clear hfH HG
                generalize (wG.drewN n3).drewN n4 = WH at *
                go_wp2_with fail
                go_ret
                exact ⟨rfl, unhide HFH⟩
end Go.Proofs.YtfoifojlgojgaabDoor

