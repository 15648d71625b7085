import Derived.Test.YtmmaddlphclpnaaGreatDoorPk2
import Derived.Test.YtmmaddlphclpnaaGreatDoorPk1
import Derived.Test.YtmmaddlphclpnaaGreatDoorDkr
import Derived.Test.YtmmaddlphclpnaaGreatDoorCards
import Derived.Test.YtmmaddlphclpnaaGreatDoorTie
import Derived.Deep.DeepWitnessRowRef
import Derived.Lib.TrailingZeros
import Derived.Lib.ItoaNum
namespace Go.Proofs.YtmmaddlphclpnaaGreatDoor
open Go.RowKit Go.ChangeShapes Go.WideShapes Go.Maps Go.Sort

theorem LT.n {s : DM} {Z : Nat} {I : List (List (List Nat))} {ps : List (List Nat)} {t : List Nat} {V : Nat} (h : LT s Z I ps t V) : I.length + ps.length ≤ 70 := by
  have := flat_ge I h.ne
  have := h.few
  omega
theorem LT.used {s : DM} {Z : Nat} {I : List (List (List Nat))} {ps : List (List Nat)} {t : List Nat} {V : Nat} (h : LT s Z I ps t V) : s.used ≤ 42600 := by
  obtain ⟨pc, sf, hf, _⟩ := h.fl
  have hn := h.n
  have hz := h.z
  have := tot_le (fun i => (LB I ⟨fby ps ++ t, sf, pc⟩ i).b) 600 (I.length + 1) (fun i hi => by
    by_cases e : i = I.length
    · subst e
      simp only [LB_last]
      have := h.lg
      omega
    · have hi2 : i < I.length := by omega
      simp only [LB_old _ _ hi2]
      have := h.sg (I.getD i []) (by
        rw [List.getD_eq_getElem?_getD, List.getElem?_eq_getElem hi2]
        exact List.mem_append_left _ (List.getElem_mem hi2))
      omega)
  have e := hf.used
  have : (I.length + 1) * 600 ≤ 71 * 600 := Nat.mul_le_mul_right _ (by omega)
  omega
set_option maxHeartbeats 1000000 in
set_option maxRecDepth 100000 in
/-- Log.find of a log that is there. -/
theorem wfind_at (w : World) (l d m : Nat) (s : DM) (q : DW) (O : Nat → Prop) (Z V : Nat) (I : List (List (List Nat))) (ps : List (List Nat)) (t : List Nat) (W : World) (h : WL w W l d m ⟨sLog, Z, [], []⟩ s q O (.slice none 0 0) (.slice none 0 0)) (hT : LT s Z I ps t V) (hZ : 16 ≤ Z) :
    Calls Tryz.prog 38 #[.pointer (some ⟨l, 0, none⟩)] W fun e W' => e = .returned (.int .i64 0) ∧ ∃ s' q' O' sv' pv', WL w W' l d m (LM.of sLog Z (I ++ [ps])) s' q' O' sv' pv' ∧ LS s' Z I ps ps.length V ∧ (∀ k, O' k → O k ∨ W.heap.size ≤ k) ∧ (∀ g, sv'.ownBlock = some g → W.heap.size ≤ g) ∧ (∀ g, pv'.ownBlock = some g → W.heap.size ≤ g) ∧ Fr (fun k => O k ∨ k = l) W W' := by
  obtain ⟨pc, sf, hf, hpc, hsz⟩ := hT.fl
  have hn := hT.n
  have hz := hT.z
  have hus := hT.used
  have htot : tot (fun i => (s.F (nm (seg sLog i))).b) (I.length + 1) ≤ 1048576 := by
    have e : tot (fun i => (s.F (nm (seg sLog i))).b) (I.length + 1) = s.used := by
      rw [hf.used]
      exact tot_eq (fun i hi => by rw [hf.F i hi])
    omega
  have hsc := scan_ext w l d m ⟨sLog, Z, [], []⟩ s q O _ _ (I.length + 1) (Z - 12) W (fun i => (s.F (nm (seg sLog i))).b) (fun _ => rfl) h rfl rfl rfl rfl (by show (3 : Nat) ≤ 32; decide) hT.good.off (by omega) (fun i hi => hf.has hi) (hf.no (Nat.le_refl _) (by omega)) htot (by show Z = _; omega) (by omega)
  rw [hT.scan] at hsc
  have ilen : (I.map (fun ps => (fby ps).length)).length = I.length := List.length_map _
  have HSC := hide hsc
  have HB : Hid (∀ W1 sv pv, WL w W1 l d m (LM.of sLog Z (I ++ [ps])) s q O sv pv → Ext W W1 l sv pv → Calls Tryz.prog 75 #[.pointer (some ⟨l, 0, none⟩)] W1 fun e W' => e = .returned (.int .i64 0) ∧ ∃ s' q' O' sv' pv', WL w W' l d m (LM.of sLog Z (I ++ [ps])) s' q' O' sv' pv' ∧ LS s' Z I ps ps.length V ∧ (∀ k, O' k → O k ∨ W.heap.size ≤ k) ∧ (∀ g, sv'.ownBlock = some g → W.heap.size ≤ g) ∧ (∀ g, pv'.ownBlock = some g → W.heap.size ≤ g) ∧ Fr (fun k => O k ∨ k = l) W W') := fun W1 sv pv h1 hx => by
    have hst := settle_any w l d m (LM.of sLog Z (I ++ [ps])) s q O sv pv _ _ (LB I ⟨fby ps ++ t, sf, pc⟩) W1 h1 (of_segs ..) (by rw [ilen]; omega) (by show (3 : Nat) ≤ 32; decide) hT.good.off (by rw [ilen]; exact hf) (by rw [ilen, LB_last]; simp) (by omega) (by rw [ilen, LB_last]; simp only; omega) (by rw [ilen, LB_last]; intro p hp; have := hsz p hp; omega)
    rw [ilen] at hst
    refine hst.mono ?_
    rintro e W2 ⟨rfl, hS⟩
    obtain ⟨sk, qk, Ok, h2, hl, hfl, hO, hfr⟩ := hS.ex
    refine ⟨rfl, sk, qk, Ok, sv, pv, h2, hT.settled hl (LB I ⟨fby ps ++ t, sf, pc⟩) hf.F (hfl.congr (fun i hi => by rw [if_pos hi])), fun k hk => (hO k hk).imp id (Nat.le_trans hx.1.size), hx.2.1, hx.2.2, (hx.1.mono (fun _ _ h => .inr h)).trans hfr (fun _ _ h => .inl h)⟩
  have HK : Hid (∀ W1 sv pv, WL w W1 l d m (LM.of sLog Z (I ++ [ps])) s q O sv pv → ∃ so sc, W1.cell? ⟨l, 3, none⟩ = some (.slice so (I.length + 1) sc)) := fun W1 sv pv h1 => by
    obtain ⟨so, sc, e⟩ := own_formX h1.G.so
    have := h1.G.cells.2.2.2.1
    rw [e, of_segs] at this
    simp only [List.length_append, List.length_map, List.length_singleton] at this
    exact ⟨so, sc, this⟩
  clear h hsc hf hus htot
  go_enter Tryz.func38, Tryz.ntmps38
  go_wp2_with fail
  refine (unhide HSC).mono ?_
  rintro e w1 ⟨rfl, sv, pv, hW1, hx1⟩
  obtain ⟨so, sc, c3⟩ := (unhide HK) _ _ _ hW1
  have HB1 := hide ((unhide HB) _ _ _ hW1 hx1)
  clear hW1 hx1
  have hne : ¬ ((I.length : Int) + 1 = 0) := by omega
  go_wp2_with fail
  refine (unhide HB1).mono ?_
  rintro e w2 ⟨rfl, hW⟩
  have HW := hide hW
  clear hW
  go_wp2_with fail
  go_ret
  exact ⟨rfl, unhide HW⟩
set_option maxHeartbeats 1000000 in
set_option maxRecDepth 100000 in
/-- Open of a log that is there. -/
theorem wopen_at (w : World) (d m : Nat) (s : DM) (q : DW) (O : Nat → Prop) (Z V : Nat) (I : List (List (List Nat))) (ps : List (List Nat)) (t : List Nat) (W : World) (h : DS w W d m s q O) (hT : LT s Z I ps t V) (hZ : 16 ≤ Z) :
    Calls Tryz.prog 10 #[.pointer (some ⟨d, 0, none⟩), .string sLog, .int .i64 (Z : Nat)] W fun e W' => ∃ l, e = .returned (.tuple #[.pointer (some ⟨l, 0, none⟩), .int .i64 0]) ∧ ∃ s' q' O' sv' pv', WL w W' l d m (LM.of sLog Z (I ++ [ps])) s' q' O' sv' pv' ∧ LS s' Z I ps ps.length V ∧ (∀ k, Ours l O' sv' pv' k → O k ∨ W.heap.size ≤ k) ∧ Fr O W W' := by
  have HO := hide (off_any d m s q O W h.D)
  rw [hT.good.off] at HO
  have HF : Hid (∀ W1 W2 l, Fr (fun _ => False) W W1 → W2 = W1.alloc (.cells #[.pointer (some ⟨d, 0, none⟩), .string sLog, .int .i64 (Z : Nat), .slice none 0 0, .slice none 0 0] 82) → l = W1.heap.size → Calls Tryz.prog 38 #[.pointer (some ⟨l, 0, none⟩)] W2 fun e W' => e = .returned (.int .i64 0) ∧ ∃ s' q' O' sv' pv', WL w W' l d m (LM.of sLog Z (I ++ [ps])) s' q' O' sv' pv' ∧ LS s' Z I ps ps.length V ∧ (∀ k, Ours l O' sv' pv' k → O k ∨ W.heap.size ≤ k) ∧ Fr O W W') := fun W1 W2 l hf e2 el => by
    subst el
    subst e2
    have h1 := h.quiet hf
    have hbx := box1 W1 (.cells #[.pointer (some ⟨d, 0, none⟩), .string sLog, .int .i64 (Z : Nat), .slice none 0 0, .slice none 0 0] 82)
    have h2 := h1.quiet hbx
    have hw : WL w (W1.alloc (.cells #[.pointer (some ⟨d, 0, none⟩), .string sLog, .int .i64 (Z : Nat), .slice none 0 0, .slice none 0 0] 82)) W1.heap.size d m ⟨sLog, Z, [], []⟩ s q O (.slice none 0 0) (.slice none 0 0) :=
      ⟨h2.D, ⟨heap_alloc_new _ _, World.ownsRow_nil _ _ _ _, World.ownsRow_nil _ _ _ _⟩, fun e => Nat.lt_irrefl _ (h1.D.lt _ e), fun g hg => (by cases hg), fun g hg => (by cases hg), h2.fr, h2.o, h1.fr.size, fun g hg => (by cases hg), fun g hg => (by cases hg)⟩
    refine (wfind_at w W1.heap.size d m s q O Z V I ps t _ hw hT hZ).mono ?_
    rintro e W3 ⟨rfl, s', q', O', sv', pv', h3, hS, hO, hsv, hpv, hfr⟩
    have hs12 : W.heap.size ≤ (W1.alloc (.cells #[.pointer (some ⟨d, 0, none⟩), .string sLog, .int .i64 (Z : Nat), .slice none 0 0, .slice none 0 0] 82)).heap.size := Nat.le_trans hf.size hbx.size
    refine ⟨rfl, s', q', O', sv', pv', h3, hS, fun k hk => ?_, ((hf.trans hbx (fun _ _ h => h)).mono (fun _ _ h => h.elim)).trans hfr (fun k hk e => ?_)⟩
    · rcases hk with e | e | e | e
      · exact (hO k e).imp id (Nat.le_trans hs12)
      · exact .inr (by rw [e]; exact hf.size)
      · exact .inr (Nat.le_trans hs12 (hsv k e))
      · exact .inr (Nat.le_trans hs12 (hpv k e))
    · rcases e with e | e
      · exact e
      · have := hf.size
        omega
  have HC : Hid (∀ W', Calls Tryz.prog 37 #[.string sLog] W' fun e w' => e = .returned (.string sLog) ∧ Fr (fun _ => False) W' w') := fun W' => sclone_any sLog W' (by decide)
  have hz := hT.z
  have h1 : ¬ (sLog.size : Int) < 1 := by decide
  have h2 : ¬ (32 : Int) < (sLog.size : Int) := by decide
  have h3 : ¬ (Z : Int) < 16 := by omega
  have h4 : ¬ (1048576 : Int) < (Z : Int) := by omega
  clear h hz hZ
  generalize sLog = NM at *
  go_enter Tryz.func10, Tryz.ntmps10
  go_wp2_with (go_at_call 33; refine (unhide HO).mono ?_; rintro e w' ⟨rfl, rfl⟩; clear HO)
  refine ((unhide HC) _).mono ?_
  rintro e w1 ⟨rfl, hf1⟩
  have HF1 := hide ((unhide HF) w1 _ _ hf1 rfl rfl)
  clear hf1 HF HC
  go_wp2_with (go_at_call 38; refine (unhide HF1).mono ?_; rintro e w2 ⟨rfl, hW⟩; clear HF1; have HW := hide hW; clear hW)
  go_ret2
  exact ⟨_, rfl, unhide HW⟩
end Go.Proofs.YtmmaddlphclpnaaGreatDoor

namespace Go.Proofs.YtmmaddlphclpnaaGreatDoor
open Go.RowKit Go.ChangeShapes Go.WideShapes Go.Maps Go.Sort

/-- A log's disk of which the last frames may be cut at c. -/
structure LX (s : DM) (Z : Nat) (I : List (List (List Nat))) (qs : List (List Nat)) (c j V : Nat) : Prop where
  full : s.full = false
  lim : 80 * Z ≤ s.limit ∧ s.limit ≤ 1048576
  fl : ∃ pc, Fls s sLog (I.length + 1) (LB I ⟨(fby qs).take c, (fby (qs.take j)).length, pc⟩) ∧ (fby (qs.take j)).length + sumP pc = c ∧ pc.length ≤ 80
  cle : c ≤ (fby qs).length
  jle : j ≤ qs.length
  ne : ∀ ps ∈ I, ps ≠ []
  few : I.flatten.length + qs.length ≤ 70
  sg : ∀ ps ∈ I ++ [qs], (fby ps).length ≤ Z
  pay : ∀ ps ∈ I ++ [qs], ∀ p ∈ ps, p.length + 12 ≤ Z
  z : Z ≤ 600
  wr : s.writes ≤ V
  wr2 : V < 1000000000
theorem LS.lx {s : DM} {Z : Nat} {I : List (List (List Nat))} {ps : List (List Nat)} {j V : Nat} (h : LS s Z I ps j V) (hV : V < 1000000000) : LX s Z I ps (fby ps).length j V := by
  obtain ⟨pc, hf, hs, hl⟩ := h.fl
  have hn := h.n
  exact ⟨h.good.full, ⟨h.lim, h.good.lim⟩, ⟨pc, by rw [List.take_length]; exact hf, hs, by omega⟩, Nat.le_refl _, h.jle, h.ne, h.few, h.sg, h.pay, h.z, h.wr, hV⟩
theorem LS.lt {s : DM} {Z : Nat} {I : List (List (List Nat))} {ps : List (List Nat)} {j V : Nat} (h : LS s Z I ps j V) : LT s Z I ps [] V := by
  obtain ⟨pc, hf, hs, hl⟩ := h.fl
  have hn := h.n
  have hsg := h.sg ps (by simp)
  have hz := h.z
  refine ⟨h.good, h.lim, ⟨pc, _, by rw [List.append_nil]; exact hf, by omega, fun x hx => ?_⟩, .inl rfl, h.ne, h.few, h.sg, by rw [List.append_nil]; exact hsg, h.pay, h.z, h.wr⟩
  have := sumP_mem pc x hx
  omega
theorem LX.n {s : DM} {Z : Nat} {I : List (List (List Nat))} {qs : List (List Nat)} {c j V : Nat} (h : LX s Z I qs c j V) : I.length + qs.length ≤ 70 := by
  have := flat_ge I h.ne
  have := h.few
  omega
theorem LX.used {s : DM} {Z : Nat} {I : List (List (List Nat))} {qs : List (List Nat)} {c j V : Nat} (h : LX s Z I qs c j V) : s.used ≤ 42600 := by
  obtain ⟨pc, hf, _, _⟩ := h.fl
  have hn := h.n
  have hz := h.z
  have := tot_le (fun i => (LB I ⟨(fby qs).take c, (fby (qs.take j)).length, pc⟩ i).b) 600 (I.length + 1) (fun i hi => by
    by_cases e : i = I.length
    · subst e
      simp only [LB_last, List.length_take]
      have := h.sg qs (by simp)
      omega
    · have hi2 : i < I.length := by omega
      simp only [LB_old _ _ hi2]
      have := h.sg (I.getD i []) (by
        rw [List.getD_eq_getElem?_getD, List.getElem?_eq_getElem hi2]
        exact List.mem_append_left _ (List.getElem_mem hi2))
      omega)
  have e := hf.used
  have : (I.length + 1) * 600 ≤ 71 * 600 := Nat.mul_le_mul_right _ (by omega)
  omega
/-- What a crash leaves of it. -/
theorem LX.crash {s : DM} {Z : Nat} {I : List (List (List Nat))} {qs : List (List Nat)} {c j V : Nat} (h : LX s Z I qs c j V) (q : DW) (L : List Own3) (keep : Nat) (hL : L.Perm (s.allp q)) (hq : ∀ i, i < I.length → q.fb (nm (seg sLog i)) ≠ q.fb (nm (seg sLog I.length))) :
    ∃ t k, j ≤ k ∧ k ≤ qs.length ∧ LT { ((s.offd).plus q L keep).crashT with off := false } Z I (qs.take k) t V := by
  obtain ⟨pc, hf, hs, hl⟩ := h.fl
  have hn := h.n
  have hj := h.jle
  have hc := h.cle
  have hlen : ((fby qs).take c).length = c := by rw [List.length_take]; omega
  have hsg : Segs I.length (LB I ⟨(fby qs).take c, (fby (qs.take j)).length, pc⟩) := ⟨fun i hi => by rw [LB_old _ _ hi], fun i hi => by rw [LB_old _ _ hi], by rw [LB_last]; simp only [hlen]; exact hs, by rw [LB_last]; simp only; omega⟩
  have hcr := hf.crash (by omega) hsg q L keep hL hq
  have hpay : ∀ p ∈ qs, p.length ≤ Z - 12 ∧ p.length < 4294967296 := fun p hp => by
    have := h.pay qs (by simp) p hp
    have := h.z
    omega
  obtain ⟨t, ht, e⟩ := cut_frames (Z - 12) qs ((fby (qs.take j)).length + min keep (sumP pc)) hpay
  have ew : wholes qs ((fby (qs.take j)).length + min keep (sumP pc)) = j + wholes (qs.drop j) (min keep (sumP pc)) := by
    have := wholes_app (min keep (sumP pc)) (qs.take j) (qs.drop j)
    rw [List.take_append_drop] at this
    rw [this, List.length_take, Nat.min_eq_left hj]
  rw [ew] at e
  have hwl := wholes_le (qs.drop j) (min keep (sumP pc))
  rw [List.length_drop] at hwl
  have hlen2 : (fby (qs.take (j + wholes (qs.drop j) (min keep (sumP pc)))) ++ t).length ≤ (fby qs).length := by
    rw [← e, List.length_take]; omega
  have hZ := h.sg qs (by simp)
  refine ⟨t, j + wholes (qs.drop j) (min keep (sumP pc)), by omega, by omega, ⟨rfl, h.full, rfl, Int.le_refl 0, by show (0 : Int) < _; decide, by show s.limit ≤ _; exact h.lim.2, by show s.writes < _; have := h.wr; have := h.wr2; omega⟩, h.lim.1, ⟨[], (fby (qs.take j)).length + min keep (sumP pc), ?_, Nat.zero_le _, fun x hx => by cases hx⟩, ht, h.ne, ?_, fun ps hq => ?_, by omega, fun ps hq => ?_, h.z, h.wr⟩
  · have h2 : Fls ({ ((s.offd).plus q L keep).crashT with off := false } : DM) sLog (I.length + 1) _ := ⟨hcr.map, hcr.keys, hcr.F, hcr.used⟩
    refine h2.congr (fun i hi => ?_)
    simp only [LB_last, leftN]
    rw [LB_set, List.take_take, Nat.min_eq_left (by omega), e]
  · have := h.few
    rw [List.length_take]
    omega
  · rcases List.mem_append.1 hq with hq | hq
    · exact h.sg ps (List.mem_append_left _ hq)
    · rw [List.mem_singleton.1 hq]
      have := fby_take_le qs (j + wholes (qs.drop j) (min keep (sumP pc)))
      omega
  · rcases List.mem_append.1 hq with hq | hq
    · exact h.pay ps (List.mem_append_left _ hq)
    · rw [List.mem_singleton.1 hq]
      exact fun p hp => h.pay qs (by simp) p (List.mem_of_mem_take hp)
/-- Crash of such a disk. -/
theorem wcrashX (w : World) (d m : Nat) (keep : Int) (s : DM) (q : DW) (O : Nat → Prop) (Z c j V : Nat) (I : List (List (List Nat))) (qs : List (List Nat)) (W : World) (h : DS w W d m s q O) (hS : LX s Z I qs c j V) (hkp : keep ≤ 9223372036854775807) :
    Calls Tryz.prog 21 #[.pointer (some ⟨d, 0, none⟩), .int .i64 keep] W fun e W' => e = .returned (.tuple #[]) ∧ ∃ s' q', DkAt W' d m s' q' O ∧ Fr O W W' ∧ ∃ t k, j ≤ k ∧ k ≤ qs.length ∧ LT { s' with off := false } Z I (qs.take k) t V := by
  obtain ⟨pc, hf, hsm, hl⟩ := hS.fl
  have hn := hS.n
  have hz := hS.z
  have hus := hS.used
  have hc := hS.cle
  have hlen : ((fby qs).take c).length = c := by rw [List.length_take]; omega
  have hsg : Segs I.length (LB I ⟨(fby qs).take c, (fby (qs.take j)).length, pc⟩) := ⟨fun i hi => by rw [LB_old _ _ hi], fun i hi => by rw [LB_old _ _ hi], by rw [LB_last]; simp only [hlen]; exact hsm, by rw [LB_last]; simp only; omega⟩
  have hal := (hf.allp_sz hsg q).2
  rw [LB_last] at hal
  have hk : ∀ k, Maps.has s.D (.string k) = true → (s.F k).ps.length ≤ 80 ∧ (s.F k).safe + sumP (s.F k).ps = (s.F k).b.length ∧ (s.F k).b.length ≤ 600 := fun k hk => by
    obtain ⟨i, hi, rfl⟩ := hf.key hk
    rw [hf.F i hi]
    by_cases e : i = I.length
    · subst e
      rw [LB_last]
      have := hS.sg qs (by simp)
      exact ⟨by simp only; omega, by simp only [hlen]; exact hsm, by simp only [hlen]; omega⟩
    · have hi2 : i < I.length := by omega
      rw [LB_old _ _ hi2]
      have := hS.sg (I.getD i []) (by
        rw [List.getD_eq_getElem?_getD, List.getElem?_eq_getElem hi2]
        exact List.mem_append_left _ (List.getElem_mem hi2))
      exact ⟨Nat.zero_le _, rfl, by show (fby (I.getD i [])).length ≤ 600; omega⟩
  refine (crash_any d m keep s q O W h.D (by rw [hal]; simp only; omega) (fun k h => by have := hk k h; omega) hkp (fun k h => by
    have h2 := hk k h
    refine ⟨by omega, fun p hp => ?_⟩
    have := sumP_mem _ p hp
    omega) (fun k h => by have := hk k h; omega) hf.ln (by omega)).mono ?_
  rintro e W' ⟨rfl, L, q', hL, _, hD, _, hfr⟩
  have hq : ∀ i, i < I.length → q.fb (nm (seg sLog i)) ≠ q.fb (nm (seg sLog I.length)) := fun i hi => (h.D.ap _ _ (hf.has (by omega)) (hf.has (by omega)) (fun e => by have := seg_inj (by omega) (by omega) e; omega)).1
  exact ⟨rfl, _, q', hD, hfr, hS.crash q L keep.toNat hL hq⟩
end Go.Proofs.YtmmaddlphclpnaaGreatDoor

namespace Go.Proofs.YtmmaddlphclpnaaGreatDoor
open Go.RowKit Go.ChangeShapes Go.WideShapes Go.Maps Go.Sort

/-- Four results. -/
theorem results4 {fn : Func} {t u v x : Tmp} (h : fn.results = #[.tmp t, .tmp u, .tmp v, .tmp x]) (tmps : Array Value) (P : Program) (w : World) :
    (results fn tmps).run P w = .ok (.tuple #[tmps.getD t undef, tmps.getD u undef, tmps.getD v undef, tmps.getD x undef]) w := by
  simp [results, h]
/-- How many bytes a segment takes. -/
def segZ (size : Int) : Nat := (Int.tmod size 500).natAbs + 16
theorem segZ_lt (size : Int) : 16 ≤ segZ size ∧ segZ size ≤ 515 := by
  have h1 := Int.tmod_lt_of_pos size (b := 500) (by decide)
  have h2 := Int.lt_tmod_of_pos size (b := 500) (by decide)
  unfold segZ
  omega
/-- What is kept of the first k payloads. -/
def kps (Z : Nat) (pays : List (List Nat)) (k : Nat) : List (List Nat) := (pays.take k).map (fun p => p.take (Z - 12))
theorem kps_len (Z : Nat) (pays : List (List Nat)) (k : Nat) (h : k ≤ pays.length) : (kps Z pays k).length = k := by simp [kps]; omega
theorem kps_succ (Z : Nat) (pays : List (List Nat)) (k : Nat) (h : k < pays.length) : kps Z pays (k + 1) = kps Z pays k ++ [(pays[k]).take (Z - 12)] := by
  rw [kps, List.take_succ_eq_append_getElem h, List.map_append]; rfl
/-- A log with what was appended to it, and the list of that. -/
structure BI (w wr : World) (l d m Z : Nat) (kv : Value) (ks : List (List Nat)) (V : Nat) (z : Bool) : Prop where
  ex : ∃ s q O sv pv I ps j us, WL w wr l d m (LM.of sLog Z (I ++ [ps])) s q O sv pv ∧ LS s Z I ps j V ∧ I.flatten ++ ps = ks ∧ KV w wr kv ks us ∧ (∀ g, kv.ownBlock = some g → ¬ Ours l O sv pv g) ∧ (z = true → j = 0)
theorem BI.fr {w wr : World} {l d m Z : Nat} {kv : Value} {ks : List (List Nat)} {V : Nat} {z : Bool} (h : BI w wr l d m Z kv ks V z) : Fr (fun _ => False) w wr := by
  obtain ⟨s, q, O, sv, pv, I, ps, j, us, h1, _⟩ := h.ex
  exact h1.fr
theorem BI.quiet {w wr wr' : World} {l d m Z : Nat} {kv : Value} {ks : List (List Nat)} {V : Nat} {z : Bool} (h : BI w wr l d m Z kv ks V z) (hf : Fr (fun _ => False) wr wr') : BI w wr' l d m Z kv ks V z := by
  obtain ⟨s, q, O, sv, pv, I, ps, j, us, h1, h2, h3, h4, h5, h6⟩ := h.ex
  exact ⟨s, q, O, sv, pv, I, ps, j, us, h1.quiet hf, h2, h3, h4.fr hf (fun _ _ h => h), h5, h6⟩
/-- A log just opened. -/
theorem BI.start {w wr : World} {l d m Z fb : Nat} {q : DW} {O : Nat → Prop} {sv : Value} (h : WL w wr l d m ⟨sLog, Z, [0], []⟩ ((DM.new 1048576).made (nm (seg sLog 0)) fb) q O sv (.slice none 0 0)) (hZ : Z ≤ 600) (z : Bool) : BI w wr l d m Z (.slice none 0 0) [] 0 z := by
  have hF : Fls (DM.new 1048576) sLog 0 (fun _ => ⟨[], 0, []⟩) := ⟨⟨[], rfl⟩, List.Perm.refl _, fun i hi => by omega, rfl⟩
  have hF1 := hF.made (by decide) fb
  refine ⟨_, q, O, sv, _, [], [], 0, [], h, ⟨new_good 1048576 fb (by decide) _, by show 80 * Z ≤ 1048576; omega, ⟨[], hF1.congr (fun i hi => ?_), rfl, Nat.le_refl _⟩, Nat.le_refl _, fun qs hq => (by cases hq), by simp, fun qs hq => ?_, fun qs hq p hp => ?_, hZ, Nat.le_refl _⟩, rfl, ⟨rfl, World.ownsRow_nil _ _ _ _, fun j u p hu => by simp at hu⟩, fun g hg => (by cases hg), fun _ => rfl⟩
  · obtain rfl : i = 0 := by simp at hi; omega
    rfl
  · simp at hq; subst hq; exact Nat.zero_le _
  · simp at hq; subst hq; cases hp
/-- Append of one more. -/
theorem BI.append {w wr : World} {l d m Z : Nat} {kv : Value} {ks : List (List Nat)} {V : Nat} {z : Bool} (h : BI w wr l d m Z kv ks V z) (y : Value) (p : List Nat) (hy : Src w y p) (hp : p.length + 12 ≤ Z) (hk : ks.length < 70) (hV : V < 1000) :
    Calls Tryz.prog 13 #[.pointer (some ⟨l, 0, none⟩), y] wr fun e W' => e = .returned (.tuple #[.int .i64 (ks.length : Nat), .int .i64 0]) ∧ ∃ s q O sv pv I ps j us, WL w W' l d m (LM.of sLog Z (I ++ [ps])) s q O sv pv ∧ LS s Z I ps j (V + 1) ∧ I.flatten ++ ps = ks ++ [p] ∧ KV w W' kv ks us ∧ (∀ g, kv.ownBlock = some g → ¬ Ours l O sv pv g) ∧ (z = true → j = 0) := by
  obtain ⟨s, q, O, sv, pv, I, ps, j, us, h1, h2, h3, h4, h5, h6⟩ := h.ex
  have hl : I.flatten.length + ps.length = ks.length := by rw [← h3, List.length_append]
  refine (wap_any w l d m s q O sv pv y Z j V I ps p wr h1 h2 hy hp (by omega) hV).mono ?_
  rintro e W' ⟨rfl, s', q', O', sv', pv', I', ps', j', g1, g2, g3, g4, g5, g6⟩
  refine ⟨by rw [hl], s', q', O', sv', pv', I', ps', j', us, g1, g2, by rw [g3, h3], h4.fr g6 h5, fun g hg ho => ?_, fun e => g4 (h6 e)⟩
  rcases g5 g ho with e | e
  · exact h5 g hg e
  · have := (h4.row.lt g hg).2
    omega
/-- append(kept, p) behind it. -/
theorem kept_more {w W' : World} {l d m Z : Nat} {ks : List (List Nat)} {kv : Value} {V : Nat} {z : Bool} {p : List Nat} {uo : Option Addr} {uc : Nat} (h : ∃ s q O sv pv I ps j us, WL w W' l d m (LM.of sLog Z (I ++ [ps])) s q O sv pv ∧ LS s Z I ps j V ∧ I.flatten ++ ps = ks ++ [p] ∧ KV w W' kv ks us ∧ (∀ g, kv.ownBlock = some g → ¬ Ours l O sv pv g) ∧ (z = true → j = 0)) (hu : Src w (.slice uo p.length uc) p) (huc : p.length ≤ uc) (hk : ks.length ≤ 1000) :
    ∃ ao cap w', (Builtin.append_ #[67, 67] 67 #[kv, .slice (some ⟨W'.heap.size, 0, none⟩) 1 1]).run Tryz.prog (W'.alloc (.cells #[.slice uo p.length uc] 35)) = .ok (.slice ao (ks.length + 1) cap) w' ∧ BI w w' l d m Z (.slice ao (ks.length + 1) cap) (ks ++ [p]) V z := by
  obtain ⟨s, q, O, sv, pv, I, ps, j, us, h1, h2, h3, h4, h5, h6⟩ := h
  have hrow := h4.row
  have hul := h4.len
  rw [← hul] at hrow
  obtain ⟨ao, cap, w', hr, hown, hf, hb⟩ := app_sl W' w.heap.size kv us uo p.length uc hrow h1.fr.size (by omega)
  rw [hul] at hr hown hb
  have hnot : ∀ g, (Value.slice ao (ks.length + 1) cap).ownBlock = some g → ¬ Ours l O sv pv g := fun g hg ho => by
    rcases hb g hg with e | e
    · exact h5 g e ho
    · have := h1.lt ho
      omega
  refine ⟨ao, cap, w', hr, s, q, O, sv, pv, I, ps, j, us ++ [.slice uo p.length uc], h1.go2 hf (fun k hk => ⟨h5 k hk, (h4.row.lt k hk).1⟩), h2, h3, ⟨by simp [hul], by rw [List.length_append, List.length_singleton]; exact hown, fun j u p' hu' hp' => ?_⟩, hnot, h6⟩
  rcases Nat.lt_or_ge j ks.length with hj | hj
  · rw [List.getElem?_append_left (by omega)] at hu' hp'
    exact h4.el j u p' hu' hp'
  · rw [List.getElem?_append_right (by omega)] at hu' hp'
    have hj0 : j - ks.length = 0 := by
      have := (List.getElem?_eq_some_iff.1 hp').1
      simp at this
      omega
    rw [hul, hj0] at hu'
    rw [hj0] at hp'
    simp at hu' hp'
    subst hu' hp'
    exact ⟨⟨uo, uc, rfl, huc⟩, hu⟩
/-- Sync. -/
theorem BI.sync {w wr : World} {l d m Z : Nat} {kv : Value} {ks : List (List Nat)} {V : Nat} {z : Bool} (h : BI w wr l d m Z kv ks V z) :
    Calls Tryz.prog 19 #[.pointer (some ⟨l, 0, none⟩)] wr fun e W' => e = .returned (.int .i64 0) ∧ BI w W' l d m Z kv ks V false := by
  obtain ⟨s, q, O, sv, pv, I, ps, j, us, h1, h2, h3, h4, h5, h6⟩ := h.ex
  have ilen : (I.map (fun ps => (fby ps).length)).length = I.length := List.length_map _
  have hn := h2.n
  have := wlsync_any w l d m (LM.of sLog Z (I ++ [ps])) s q O sv pv _ _ wr h1 (of_segs ..) (by rw [ilen]; omega) (by show (3 : Nat) ≤ 32; decide) h2.good.off (by rw [ilen]; exact h2.has (Nat.le_refl _))
  rw [ilen] at this
  refine this.mono ?_
  rintro e W' ⟨rfl, q', O', g1, g2, g3⟩
  refine ⟨rfl, _, q', O', sv, pv, I, ps, ps.length, us, g1, h2.sync, h3, h4.fr g3 (fun g hg ho => h5 g hg (.inl ho)), fun g hg ho => ?_, fun e => by cases e⟩
  rcases ho with e | e
  · rcases g2 g e with e | e
    · exact h5 g hg (.inl e)
    · have := (h4.row.lt g hg).2
      omega
  · exact h5 g hg (.inr e)
theorem BI.weak {w wr : World} {l d m Z : Nat} {kv : Value} {ks : List (List Nat)} {V : Nat} {z : Bool} (h : BI w wr l d m Z kv ks V z) (z' : Bool) (hz : z' = true → z = true) : BI w wr l d m Z kv ks V z' := by
  obtain ⟨s, q, O, sv, pv, I, ps, j, us, h1, h2, h3, h4, h5, h6⟩ := h.ex
  exact ⟨s, q, O, sv, pv, I, ps, j, us, h1, h2, h3, h4, h5, fun e => h6 (hz e)⟩
theorem BI.kv {w wr : World} {l d m Z : Nat} {kv : Value} {ks : List (List Nat)} {V : Nat} {z : Bool} (h : BI w wr l d m Z kv ks V z) : ∃ ao cap, kv = .slice ao ks.length cap := by
  obtain ⟨s, q, O, sv, pv, I, ps, j, us, h1, h2, h3, h4, h5, h6⟩ := h.ex
  exact own_formX h4.row
theorem BI.upV {w wr : World} {l d m Z : Nat} {kv : Value} {ks : List (List Nat)} {V V' : Nat} {z : Bool} (h : BI w wr l d m Z kv ks V z) (hV : V ≤ V') : BI w wr l d m Z kv ks V' z := by
  obtain ⟨s, q, O, sv, pv, I, ps, j, us, h1, h2, h3, h4, h5, h6⟩ := h.ex
  exact ⟨s, q, O, sv, pv, I, ps, j, us, h1, ⟨h2.good, h2.lim, h2.fl, h2.jle, h2.ne, h2.few, h2.sg, h2.pay, h2.z, Nat.le_trans h2.wr hV⟩, h3, h4, h5, h6⟩
/-- What comes in, k-th. -/
theorem KJ.at {w W : World} {xo : Option Addr} {hs : List (List Nat)} (h : KJ w xo hs) (hf : Fr (fun _ => False) w W) {k : Nat} (hk : k < hs.length) : ∃ g o ho hc, xo = some ⟨g, o, none⟩ ∧ W.cell? ⟨g, o + k, none⟩ = some (.slice ho (hs[k]).length hc) ∧ Src w (.slice ho (hs[k]).length hc) hs[k] ∧ (hs[k]).length ≤ hc ∧ (hs[k]).length < 9223372036854775808 := by
  obtain ⟨g, o, ho, hc, h1, h2, h3⟩ := h.el k _ (List.getElem?_eq_getElem hk)
  exact ⟨g, o, ho, hc, h1, cell_fr0 h2 hf, h3⟩
end Go.Proofs.YtmmaddlphclpnaaGreatDoor

namespace Go.Proofs.YtmmaddlphclpnaaGreatDoor
open Go.RowKit Go.ChangeShapes Go.WideShapes Go.Maps Go.Sort

set_option maxHeartbeats 4000000 in
set_option maxRecDepth 100000 in
/-- begun. -/
theorem begun_pos (w : World) (size synced : Int) (xo : Option Addr) (xc : Nat) (pays : List (List Nat)) (W : World) (hw : Fr (fun _ => False) w W) (hP : KJ w xo pays) (hl : pays.length < 9223372036854775808) (hneg : ¬ size.tmod 500 < 0) :
    Calls Tryz.prog 31 #[.int .i64 size, .slice xo pays.length xc, .int .i64 synced] W fun e W' => ∃ l d m kv, e = .returned (.tuple #[.pointer (some ⟨d, 0, none⟩), .pointer (some ⟨l, 0, none⟩), .int .i64 (segZ size : Nat), kv]) ∧ BI w W' l d m (segZ size) kv (kps (segZ size) pays (min pays.length 60)) 60 (decide (synced < 0)) := by
  have hz := segZ_lt size
  obtain ⟨Z, hZ⟩ : ∃ Z, Z = segZ size := ⟨_, rfl⟩
  rw [← hZ] at hz ⊢
  have hA1 : IntKind.i64.wrap (size.tmod 500 + 16) = (Z : Int) := by rw [IntKind.wrap_i64]; unfold segZ at hZ; omega
  have HP := hide (And.intro hw hP)
  clear hZ hw hP
  go_enter Tryz.func31, Tryz.ntmps31
  go_wp2_with fail
  refine (new_any 1048576 W (by decide) (by decide)).mono ?_
  rintro e w2 ⟨d, m, q, O, rfl, hD2, hf2, hO2⟩
  have H2 := hide (DS.mk (w := w) hD2 ((unhide HP).1.trans hf2 (fun _ _ h => h)) (fun k hk => Nat.le_trans (unhide HP).1.size (hO2 k hk)))
  clear hD2 hf2 hO2
  go_wp2_with fail
  refine (open_new w d m Z _ q O sLog w2 (unhide H2) (by decide) (by decide) (by omega) (by omega) rfl rfl (by decide)).mono ?_
  rintro e w3 ⟨l, rfl, fb, q3, O3, sv3, hW3⟩
  have H3 := hide (BI.start hW3 (by omega) (decide (synced < 0)))
  clear hW3 H2
  go_wp2_with fail
  go_loopw [14, 15] (fun kv iv wr => ∃ k : Nat, iv = .int .i64 (k : Nat) ∧ k ≤ pays.length ∧ k ≤ 60 ∧ BI w wr l d m Z kv (kps Z pays k) k (decide (synced < 0))) (fun _ iv _ => 60 - (intOf iv).toNat)
  case atStart => exact ⟨0, rfl, Nat.zero_le _, Nat.zero_le _, unhide H3⟩
  case round =>
    obtain ⟨k, rfl, hk1, hk2, hB⟩ := hrel
    obtain ⟨ao, cap, rfl⟩ := hB.kv
    have hkn := kps_len Z pays k hk1
    rw [hkn] at hB ⊢
    by_cases hkl : k < pays.length ∧ k < 60
    · obtain ⟨hk3, hk4⟩ := hkl
      obtain ⟨g, o, ho, hc, hxo, hcell, hsrc, hcap, hplen⟩ := (unhide HP).2.at hB.fr hk3
      have hks := kps_succ Z pays k hk3
      generalize hPP : pays[k] = P at hcell hsrc hcap hplen hks
      clear hPP
      obtain ⟨N, hN⟩ : ∃ N, N = (P.take (Z - 12)).length := ⟨_, rfl⟩
      have hNm : N = min (Z - 12) P.length := by rw [hN, List.length_take]
      have hsrcN : Src w (.slice ho N hc) (P.take (Z - 12)) := by
        have := hsrc.takeN (min (Z - 12) P.length) (by omega)
        rw [take_min, ← hNm] at this
        exact this
      have hAp := hB.append (.slice ho N hc) (P.take (Z - 12)) hsrcN (by omega) (by omega) (by omega)
      rw [hkn] at hAp
      have HA := hide hAp
      have HQ : Hid (∀ W' kv', kv' = Value.slice ao k cap → (∃ s q O sv pv I ps j us, WL w W' l d m (LM.of sLog Z (I ++ [ps])) s q O sv pv ∧ LS s Z I ps j (k + 1) ∧ I.flatten ++ ps = kps Z pays k ++ [P.take (Z - 12)] ∧ KV w W' kv' (kps Z pays k) us ∧ (∀ g, kv'.ownBlock = some g → ¬ Ours l O sv pv g) ∧ (decide (synced < 0) = true → j = 0)) → ∃ ao' cap' w', (Builtin.append_ #[67, 67] 67 #[.slice ao k cap, .slice (some ⟨W'.heap.size, 0, none⟩) 1 1]).run Tryz.prog (W'.alloc (.cells #[.slice ho N hc] 35)) = .ok (.slice ao' (k + 1) cap') w' ∧ BI w w' l d m Z (.slice ao' (k + 1) cap') (kps Z pays (k + 1)) (k + 1) (decide (synced < 0))) := fun W' kv' ek hex => by
        subst ek
        have := kept_more hex (by rw [← hN]; exact hsrcN) (by rw [← hN]; omega) (by omega)
        rw [hkn, ← hks, ← hN] at this
        exact this
      have hi1 : (k : Int) < (pays.length : Int) := by omega
      have hi2 : (k : Int) < 60 := by omega
      have hw12 : IntKind.i64.wrap ((Z : Int) - 12) = (Z : Int) - 12 := by rw [IntKind.wrap_i64]; omega
      have HKS := hide (And.intro hkn hks)
      clear hAp hsrc hB hks hkn hsrcN hN
      subst hxo
      by_cases hbig : (Z : Int) - 12 < (P.length : Int)
      · have s0 : (0 : Int) ≤ (Z : Int) - 12 := by omega
        have s1 : (Z : Int) - 12 ≤ (hc : Int) := by omega
        have s3 : ((Z : Int) - 12).toNat = N := by omega
        clear hplen hcap hNm
        go_wp2_with fail
        refine (unhide HA).mono ?_
        rintro e w4 ⟨rfl, hex⟩
        obtain ⟨ao2, cap2, w5, hr5, hB5⟩ := (unhide HQ) w4 _ rfl hex
        have HR5 := hide hr5
        have H5 := hide hB5
        clear hex hr5 hB5 HA HQ
        by_cases hsy : (k : Int) = synced
        · subst hsy
          go_wp2_with (at_builtin; refine wpList_app rfl _ _ 67 67 rfl _ _ _ rfl rfl (unhide HR5) ?_; clear HR5)
          refine (unhide H5).sync.mono ?_
          rintro e w6 ⟨rfl, hB6⟩
          have H6 := hide (hB6.weak (decide ((k : Int) < 0)) (fun e => absurd (of_decide_eq_true e) (by omega)))
          clear hB6 H5
          go_wp2_with fail
          exact ⟨⟨k + 1, by simp, by omega, by omega, unhide H6⟩, by simp only [intOf]; omega⟩
        · go_wp2_with (at_builtin; refine wpList_app rfl _ _ 67 67 rfl _ _ _ rfl rfl (unhide HR5) ?_; clear HR5)
          exact ⟨⟨k + 1, by simp, by omega, by omega, unhide H5⟩, by simp only [intOf]; omega⟩
      · have hNP : N = P.length := by omega
        subst hNP
        clear hplen hcap hNm
        go_wp2_with fail
        refine (unhide HA).mono ?_
        rintro e w4 ⟨rfl, hex⟩
        obtain ⟨ao2, cap2, w5, hr5, hB5⟩ := (unhide HQ) w4 _ rfl hex
        have HR5 := hide hr5
        have H5 := hide hB5
        clear hex hr5 hB5 HA HQ
        by_cases hsy : (k : Int) = synced
        · subst hsy
          go_wp2_with (at_builtin; refine wpList_app rfl _ _ 67 67 rfl _ _ _ rfl rfl (unhide HR5) ?_; clear HR5)
          refine (unhide H5).sync.mono ?_
          rintro e w6 ⟨rfl, hB6⟩
          have H6 := hide (hB6.weak (decide ((k : Int) < 0)) (fun e => absurd (of_decide_eq_true e) (by omega)))
          clear hB6 H5
          go_wp2_with fail
          exact ⟨⟨k + 1, by simp, by omega, by omega, unhide H6⟩, by simp only [intOf]; omega⟩
        · go_wp2_with (at_builtin; refine wpList_app rfl _ _ 67 67 rfl _ _ _ rfl rfl (unhide HR5) ?_; clear HR5)
          exact ⟨⟨k + 1, by simp, by omega, by omega, unhide H5⟩, by simp only [intOf]; omega⟩
    · have hmin : min pays.length 60 = k := by omega
      have hB2 := hide (And.intro hB hmin)
      have hnot : ¬ ((k : Int) < (pays.length : Int) ∧ (k : Int) < 60) := by omega
      clear hB hkn hmin
      by_cases hi1 : (k : Int) < (pays.length : Int)
      · have hi2 : ¬ (k : Int) < 60 := by omega
        go_wp2_with fail
        refine bodyPost_ret (results4 rfl _ _ _) rfl ?_
        exact ⟨l, d, m, _, rfl, by rw [(unhide hB2).2]; exact (unhide hB2).1.upV hk2⟩
      · go_wp2_with fail
        refine bodyPost_ret (results4 rfl _ _ _) rfl ?_
        exact ⟨l, d, m, _, rfl, by rw [(unhide hB2).2]; exact (unhide hB2).1.upV hk2⟩
end Go.Proofs.YtmmaddlphclpnaaGreatDoor

namespace Go.Proofs.YtmmaddlphclpnaaGreatDoor
open Go.RowKit Go.ChangeShapes Go.WideShapes Go.Maps Go.Sort

set_option maxHeartbeats 4000000 in
set_option maxRecDepth 100000 in
/-- begun. -/
theorem begun_neg (w : World) (size synced : Int) (xo : Option Addr) (xc : Nat) (pays : List (List Nat)) (W : World) (hw : Fr (fun _ => False) w W) (hP : KJ w xo pays) (hl : pays.length < 9223372036854775808) (hneg : size.tmod 500 < 0) :
    Calls Tryz.prog 31 #[.int .i64 size, .slice xo pays.length xc, .int .i64 synced] W fun e W' => ∃ l d m kv, e = .returned (.tuple #[.pointer (some ⟨d, 0, none⟩), .pointer (some ⟨l, 0, none⟩), .int .i64 (segZ size : Nat), kv]) ∧ BI w W' l d m (segZ size) kv (kps (segZ size) pays (min pays.length 60)) 60 (decide (synced < 0)) := by
  have hz := segZ_lt size
  obtain ⟨Z, hZ⟩ : ∃ Z, Z = segZ size := ⟨_, rfl⟩
  rw [← hZ] at hz ⊢
  have hB1 : IntKind.i64.wrap (-size.tmod 500) = -size.tmod 500 := by rw [IntKind.wrap_i64]; unfold segZ at hZ; omega
  have hB2 : IntKind.i64.wrap (-size.tmod 500 + 16) = (Z : Int) := by rw [IntKind.wrap_i64]; unfold segZ at hZ; omega
  have HP := hide (And.intro hw hP)
  clear hZ hw hP
  go_enter Tryz.func31, Tryz.ntmps31
  go_wp2_with fail
  refine (new_any 1048576 W (by decide) (by decide)).mono ?_
  rintro e w2 ⟨d, m, q, O, rfl, hD2, hf2, hO2⟩
  have H2 := hide (DS.mk (w := w) hD2 ((unhide HP).1.trans hf2 (fun _ _ h => h)) (fun k hk => Nat.le_trans (unhide HP).1.size (hO2 k hk)))
  clear hD2 hf2 hO2
  go_wp2_with fail
  refine (open_new w d m Z _ q O sLog w2 (unhide H2) (by decide) (by decide) (by omega) (by omega) rfl rfl (by decide)).mono ?_
  rintro e w3 ⟨l, rfl, fb, q3, O3, sv3, hW3⟩
  have H3 := hide (BI.start hW3 (by omega) (decide (synced < 0)))
  clear hW3 H2
  go_wp2_with fail
  go_loopw [14, 15] (fun kv iv wr => ∃ k : Nat, iv = .int .i64 (k : Nat) ∧ k ≤ pays.length ∧ k ≤ 60 ∧ BI w wr l d m Z kv (kps Z pays k) k (decide (synced < 0))) (fun _ iv _ => 60 - (intOf iv).toNat)
  case atStart => exact ⟨0, rfl, Nat.zero_le _, Nat.zero_le _, unhide H3⟩
  case round =>
    obtain ⟨k, rfl, hk1, hk2, hB⟩ := hrel
    obtain ⟨ao, cap, rfl⟩ := hB.kv
    have hkn := kps_len Z pays k hk1
    rw [hkn] at hB ⊢
    by_cases hkl : k < pays.length ∧ k < 60
    · obtain ⟨hk3, hk4⟩ := hkl
      obtain ⟨g, o, ho, hc, hxo, hcell, hsrc, hcap, hplen⟩ := (unhide HP).2.at hB.fr hk3
      have hks := kps_succ Z pays k hk3
      generalize hPP : pays[k] = P at hcell hsrc hcap hplen hks
      clear hPP
      obtain ⟨N, hN⟩ : ∃ N, N = (P.take (Z - 12)).length := ⟨_, rfl⟩
      have hNm : N = min (Z - 12) P.length := by rw [hN, List.length_take]
      have hsrcN : Src w (.slice ho N hc) (P.take (Z - 12)) := by
        have := hsrc.takeN (min (Z - 12) P.length) (by omega)
        rw [take_min, ← hNm] at this
        exact this
      have hAp := hB.append (.slice ho N hc) (P.take (Z - 12)) hsrcN (by omega) (by omega) (by omega)
      rw [hkn] at hAp
      have HA := hide hAp
      have HQ : Hid (∀ W' kv', kv' = Value.slice ao k cap → (∃ s q O sv pv I ps j us, WL w W' l d m (LM.of sLog Z (I ++ [ps])) s q O sv pv ∧ LS s Z I ps j (k + 1) ∧ I.flatten ++ ps = kps Z pays k ++ [P.take (Z - 12)] ∧ KV w W' kv' (kps Z pays k) us ∧ (∀ g, kv'.ownBlock = some g → ¬ Ours l O sv pv g) ∧ (decide (synced < 0) = true → j = 0)) → ∃ ao' cap' w', (Builtin.append_ #[67, 67] 67 #[.slice ao k cap, .slice (some ⟨W'.heap.size, 0, none⟩) 1 1]).run Tryz.prog (W'.alloc (.cells #[.slice ho N hc] 35)) = .ok (.slice ao' (k + 1) cap') w' ∧ BI w w' l d m Z (.slice ao' (k + 1) cap') (kps Z pays (k + 1)) (k + 1) (decide (synced < 0))) := fun W' kv' ek hex => by
        subst ek
        have := kept_more hex (by rw [← hN]; exact hsrcN) (by rw [← hN]; omega) (by omega)
        rw [hkn, ← hks, ← hN] at this
        exact this
      have hi1 : (k : Int) < (pays.length : Int) := by omega
      have hi2 : (k : Int) < 60 := by omega
      have hw12 : IntKind.i64.wrap ((Z : Int) - 12) = (Z : Int) - 12 := by rw [IntKind.wrap_i64]; omega
      have HKS := hide (And.intro hkn hks)
      clear hAp hsrc hB hks hkn hsrcN hN
      subst hxo
      by_cases hbig : (Z : Int) - 12 < (P.length : Int)
      · have s0 : (0 : Int) ≤ (Z : Int) - 12 := by omega
        have s1 : (Z : Int) - 12 ≤ (hc : Int) := by omega
        have s3 : ((Z : Int) - 12).toNat = N := by omega
        clear hplen hcap hNm
        go_wp2_with fail
        refine (unhide HA).mono ?_
        rintro e w4 ⟨rfl, hex⟩
        obtain ⟨ao2, cap2, w5, hr5, hB5⟩ := (unhide HQ) w4 _ rfl hex
        have HR5 := hide hr5
        have H5 := hide hB5
        clear hex hr5 hB5 HA HQ
        by_cases hsy : (k : Int) = synced
        · subst hsy
          go_wp2_with (at_builtin; refine wpList_app rfl _ _ 67 67 rfl _ _ _ rfl rfl (unhide HR5) ?_; clear HR5)
          refine (unhide H5).sync.mono ?_
          rintro e w6 ⟨rfl, hB6⟩
          have H6 := hide (hB6.weak (decide ((k : Int) < 0)) (fun e => absurd (of_decide_eq_true e) (by omega)))
          clear hB6 H5
          go_wp2_with fail
          exact ⟨⟨k + 1, by simp, by omega, by omega, unhide H6⟩, by simp only [intOf]; omega⟩
        · go_wp2_with (at_builtin; refine wpList_app rfl _ _ 67 67 rfl _ _ _ rfl rfl (unhide HR5) ?_; clear HR5)
          exact ⟨⟨k + 1, by simp, by omega, by omega, unhide H5⟩, by simp only [intOf]; omega⟩
      · have hNP : N = P.length := by omega
        subst hNP
        clear hplen hcap hNm
        go_wp2_with fail
        refine (unhide HA).mono ?_
        rintro e w4 ⟨rfl, hex⟩
        obtain ⟨ao2, cap2, w5, hr5, hB5⟩ := (unhide HQ) w4 _ rfl hex
        have HR5 := hide hr5
        have H5 := hide hB5
        clear hex hr5 hB5 HA HQ
        by_cases hsy : (k : Int) = synced
        · subst hsy
          go_wp2_with (at_builtin; refine wpList_app rfl _ _ 67 67 rfl _ _ _ rfl rfl (unhide HR5) ?_; clear HR5)
          refine (unhide H5).sync.mono ?_
          rintro e w6 ⟨rfl, hB6⟩
          have H6 := hide (hB6.weak (decide ((k : Int) < 0)) (fun e => absurd (of_decide_eq_true e) (by omega)))
          clear hB6 H5
          go_wp2_with fail
          exact ⟨⟨k + 1, by simp, by omega, by omega, unhide H6⟩, by simp only [intOf]; omega⟩
        · go_wp2_with (at_builtin; refine wpList_app rfl _ _ 67 67 rfl _ _ _ rfl rfl (unhide HR5) ?_; clear HR5)
          exact ⟨⟨k + 1, by simp, by omega, by omega, unhide H5⟩, by simp only [intOf]; omega⟩
    · have hmin : min pays.length 60 = k := by omega
      have hB2 := hide (And.intro hB hmin)
      have hnot : ¬ ((k : Int) < (pays.length : Int) ∧ (k : Int) < 60) := by omega
      clear hB hkn hmin
      by_cases hi1 : (k : Int) < (pays.length : Int)
      · have hi2 : ¬ (k : Int) < 60 := by omega
        go_wp2_with fail
        refine bodyPost_ret (results4 rfl _ _ _) rfl ?_
        exact ⟨l, d, m, _, rfl, by rw [(unhide hB2).2]; exact (unhide hB2).1.upV hk2⟩
      · go_wp2_with fail
        refine bodyPost_ret (results4 rfl _ _ _) rfl ?_
        exact ⟨l, d, m, _, rfl, by rw [(unhide hB2).2]; exact (unhide hB2).1.upV hk2⟩
end Go.Proofs.YtmmaddlphclpnaaGreatDoor

namespace Go.Proofs.YtmmaddlphclpnaaGreatDoor
open Go.RowKit Go.ChangeShapes Go.WideShapes Go.Maps Go.Sort

theorem begun_any (w : World) (size synced : Int) (xo : Option Addr) (xc : Nat) (pays : List (List Nat)) (W : World) (hw : Fr (fun _ => False) w W) (hP : KJ w xo pays) (hl : pays.length < 9223372036854775808) :
    Calls Tryz.prog 31 #[.int .i64 size, .slice xo pays.length xc, .int .i64 synced] W fun e W' => ∃ l d m kv, e = .returned (.tuple #[.pointer (some ⟨d, 0, none⟩), .pointer (some ⟨l, 0, none⟩), .int .i64 (segZ size : Nat), kv]) ∧ BI w W' l d m (segZ size) kv (kps (segZ size) pays (min pays.length 60)) 60 (decide (synced < 0)) := by
  by_cases h : size.tmod 500 < 0
  · exact begun_neg w size synced xo xc pays W hw hP hl h
  · exact begun_pos w size synced xo xc pays W hw hP hl h
end Go.Proofs.YtmmaddlphclpnaaGreatDoor

namespace Go.Proofs.YtmmaddlphclpnaaGreatDoor
open Go.RowKit Go.ChangeShapes Go.WideShapes Go.Maps Go.Sort

/-- At of a payload. -/
theorem wat_of (w : World) (l d m : Nat) (s : DM) (q : DW) (O : Nat → Prop) (sv pv : Value) (Z j V : Nat) (I : List (List (List Nat))) (ps : List (List Nat)) (k : Nat) (p : List Nat) (W : World) (h : WL w W l d m (LM.of sLog Z (I ++ [ps])) s q O sv pv) (hS : LS s Z I ps j V) (hk : (I.flatten ++ ps)[k]? = some p) :
    Calls Tryz.prog 20 #[.pointer (some ⟨l, 0, none⟩), .int .i64 (k : Nat)] W fun e W' => ∃ v, e = .returned (.tuple #[v, .int .i64 0]) ∧ W'.ownsRow W.heap.size 5 1 v p.length (cellsOf p) ∧ Fr (fun _ => False) W W' := by
  have hfl : (I ++ [ps]).flatten = I.flatten ++ ps := by simp
  obtain ⟨a, b, qs, h1, h2, h3, h4⟩ := plc_at (I ++ [ps]) 0 k p (by rw [hfl]; exact hk)
  rw [Nat.zero_add] at h2
  have hn := hS.n
  have hz := hS.z
  have ha : a < I.length + 1 := by
    have := (List.getElem?_eq_some_iff.1 h1).1
    simpa using this
  have hF : (s.F (nm (seg sLog a))).b = fby qs := by
    by_cases e : a = I.length
    · subst e
      rw [List.getElem?_append_right (Nat.le_refl _), Nat.sub_self] at h1
      obtain ⟨pc, hl, _⟩ := hS.last
      rw [hl]
      simp at h1
      rw [h1]
    · rw [List.getElem?_append_left (by omega)] at h1
      rw [hS.old h1]
  have hsg := hS.sg qs (List.mem_of_getElem? h1)
  have := wat_ok w l d m (LM.of sLog Z (I ++ [ps])) s q O sv pv k a b p.length W h h2 (by show (3 : Nat) ≤ 32; decide) (by omega) hS.good.off (hS.has (by omega)) (by show (s.F (nm (seg sLog a))).b.length ≤ _; rw [hF]; omega) (by show _ ≤ (s.F (nm (seg sLog a))).b.length; rw [hF]; exact h4)
  rw [show (s.F (nm (seg (LM.of sLog Z (I ++ [ps])).name a))).b = fby qs from hF, h3] at this
  exact this
/-- Synced. -/
theorem wsyn_of (w : World) (l d m : Nat) (s : DM) (q : DW) (O : Nat → Prop) (sv pv : Value) (Z j V : Nat) (I : List (List (List Nat))) (ps : List (List Nat)) (W : World) (h : WL w W l d m (LM.of sLog Z (I ++ [ps])) s q O sv pv) (hS : LS s Z I ps j V) :
    Calls Tryz.prog 14 #[.pointer (some ⟨l, 0, none⟩)] W fun e W' => e = .returned (.int .i64 ((I.flatten.length + j : Nat) : Int)) ∧ Fr (fun _ => False) W W' := by
  have hn := hS.n
  have hz := hS.z
  have hj := hS.jle
  have ilen : (I.map (fun ps => (fby ps).length)).length = I.length := List.length_map _
  obtain ⟨pc, hF, _⟩ := hS.last
  have hpl : (LM.of sLog Z (I ++ [ps])).pls.length = I.flatten.length + ps.length := of_plen ..
  have hfl : (I ++ [ps]).flatten.length = I.flatten.length + ps.length := by simp
  have hun : ∀ i, i < I.flatten.length + ps.length → (LM.of sLog Z (I ++ [ps])).uns I.length (fby (ps.take j)).length i = decide (I.flatten.length + j ≤ i) := fun i hi => of_uns sLog Z I ps j i (by rw [hfl]; exact hi)
  have hpb : ∀ p ∈ (LM.of sLog Z (I ++ [ps])).pls, p.2.1 ≤ 10000000 ∧ p.2.2 ≤ 10000000 := fun p hp => by
    obtain ⟨k, hk⟩ := List.mem_iff_getElem?.1 hp
    have hkl : k < (I ++ [ps]).flatten.length := by
      have := (List.getElem?_eq_some_iff.1 hk).1
      rw [hpl] at this
      rw [hfl]
      exact this
    obtain ⟨a, b, qs, h1, h2, _, h4⟩ := plc_at (I ++ [ps]) 0 k _ (List.getElem?_eq_getElem hkl)
    have e : p = (0 + a, b, ((I ++ [ps]).flatten[k]).length) := Option.some.inj (hk.symm.trans h2)
    rw [e]
    have := hS.sg qs (List.mem_of_getElem? h1)
    simp only
    omega
  have hs := wsynced_any w l d m (LM.of sLog Z (I ++ [ps])) s q O sv pv _ _ W h (of_segs ..) (by rw [ilen]; omega) (by show (3 : Nat) ≤ 32; decide) (by rw [hpl]; have := hS.few; omega) hpb hS.good.off (by rw [ilen]; exact hS.has (Nat.le_refl _)) (fun a b hab hb => by
    rw [ilen]
    show (LM.of sLog Z (I ++ [ps])).uns I.length (s.F (nm (seg sLog I.length))).safe a = true → (LM.of sLog Z (I ++ [ps])).uns I.length (s.F (nm (seg sLog I.length))).safe b = true
    rw [hF]
    simp only
    rw [hpl] at hb
    rw [hun a (by omega), hun b hb]
    simp only [decide_eq_true_eq]
    omega)
  rw [ilen] at hs
  refine hs.mono ?_
  rintro e W' ⟨r, rfl, h1, h2, h3, hf⟩
  refine ⟨?_, hf⟩
  have h2' : ∀ i, i < r → (LM.of sLog Z (I ++ [ps])).uns I.length (s.F (nm (seg sLog I.length))).safe i = false := h2
  have h3' : ∀ i, r ≤ i → i < (LM.of sLog Z (I ++ [ps])).pls.length → (LM.of sLog Z (I ++ [ps])).uns I.length (s.F (nm (seg sLog I.length))).safe i = true := h3
  rw [hF] at h2' h3'
  simp only at h2' h3'
  rw [hpl] at h1 h3'
  have er : r = I.flatten.length + j := by
    rcases Nat.lt_trichotomy r (I.flatten.length + j) with h | h | h
    · have := h3' r (Nat.le_refl _) (by omega)
      rw [hun r (by omega)] at this
      have := of_decide_eq_true this
      omega
    · exact h
    · have := h2' (I.flatten.length + j) h
      rw [hun _ (by omega)] at this
      have := of_decide_eq_false this
      omega
  rw [er]
end Go.Proofs.YtmmaddlphclpnaaGreatDoor

namespace Go.Proofs.YtmmaddlphclpnaaGreatDoor
open Go.RowKit Go.ChangeShapes Go.WideShapes Go.Maps Go.Sort

/-- A list of slices that can be read. -/
def Rds (W : World) (ko : Option Addr) (ks : List (List Nat)) : Prop := ∀ (j : Nat) p, ks[j]? = some p → ∃ g, ko = some ⟨g, 0, none⟩ ∧ ∃ ho hc, W.cell? ⟨g, j, none⟩ = some (.slice ho p.length hc) ∧ Src W (.slice ho p.length hc) p
theorem Rds.fr0 {W W' : World} {ko : Option Addr} {ks : List (List Nat)} (h : Rds W ko ks) (hf : Fr (fun _ => False) W W') : Rds W' ko ks := fun j p hp => by
  obtain ⟨g, h1, ho, hc, h2, h3⟩ := h j p hp
  exact ⟨g, h1, ho, hc, cell_fr0 h2 hf, h3.fr0 hf⟩
set_option maxHeartbeats 2000000 in
set_option maxRecDepth 100000 in
/-- holds. -/
theorem holds_of (w : World) (l d m : Nat) (s : DM) (q : DW) (O : Nat → Prop) (sv pv : Value) (Z V : Nat) (I : List (List (List Nat))) (ps : List (List Nat)) (ks : List (List Nat)) (ko : Option Addr) (kc : Nat) (W : World) (h : WL w W l d m (LM.of sLog Z (I ++ [ps])) s q O sv pv) (hS : LS s Z I ps ps.length V) (hks : I.flatten ++ ps = ks) (hR : Rds W ko ks) :
    Calls Tryz.prog 34 #[.pointer (some ⟨l, 0, none⟩), .slice ko ks.length kc] W fun e W' => e = .returned (.bool true) ∧ Fr (fun _ => False) W W' := by
  have hlen : I.flatten.length + ps.length = ks.length := by rw [← hks, List.length_append]
  have hfew := hS.few
  have hz := hS.z
  have hkn : ks.length ≤ 70 := by omega
  have HL : Hid (∀ W', Fr (fun _ => False) W W' → Calls Tryz.prog 12 #[.pointer (some ⟨l, 0, none⟩)] W' fun e w' => e = .returned (.int .i64 (ks.length : Nat)) ∧ w' = W') := fun W' hf => by
    have := wlen_any l d (LM.of sLog Z (I ++ [ps])) sv pv W' (h.quiet hf).G
    rw [of_plen, hlen] at this
    exact this
  have HS : Hid (∀ W', Fr (fun _ => False) W W' → Calls Tryz.prog 14 #[.pointer (some ⟨l, 0, none⟩)] W' fun e w' => e = .returned (.int .i64 (ks.length : Nat)) ∧ Fr (fun _ => False) W w') := fun W' hf => by
    have := wsyn_of w l d m s q O sv pv Z ps.length V I ps W' (h.quiet hf) hS
    rw [hlen] at this
    exact this.mono (fun e w' h => ⟨h.1, hf.trans h.2 (fun _ _ h => h)⟩)
  have hpl : ∀ p ∈ ks, p.length ≤ 600 := fun p hp => by
    rw [← hks] at hp
    have : p.length + 12 ≤ Z := by
      rcases List.mem_append.1 hp with hp | hp
      · obtain ⟨qs, h1, h2⟩ := List.mem_flatten.1 hp
        exact hS.pay qs (List.mem_append_left _ h1) p h2
      · exact hS.pay ps (by simp) p hp
    omega
  have HA : Hid (∀ W' (k : Nat) (hk : k < ks.length), Fr (fun _ => False) W W' → Calls Tryz.prog 20 #[.pointer (some ⟨l, 0, none⟩), .int .i64 (k : Nat)] W' fun e W2 => ∃ v, e = .returned (.tuple #[v, .int .i64 0]) ∧ Src W2 v ks[k] ∧ Fr (fun _ => False) W W2) := fun W' k hk hf => by
    refine (wat_of w l d m s q O sv pv Z ps.length V I ps k ks[k] W' (h.quiet hf) hS (by rw [hks]; exact List.getElem?_eq_getElem hk)).mono ?_
    rintro e W2 ⟨v, rfl, h1, h2⟩
    exact ⟨v, rfl, own_src h1, hf.trans h2 (fun _ _ h => h)⟩
  have HR := hide hR
  clear h hS hks hlen hR hfew hz
  have hpl := hide hpl
  go_enter Tryz.func34, Tryz.ntmps34
  go_wp2_with fail
  refine ((unhide HL) _ (Fr.refl _ _)).mono ?_
  rintro e w1 ⟨rfl, rfl⟩
  go_wp2_with fail
  refine ((unhide HS) _ (Fr.refl _ _)).mono ?_
  rintro e w2 ⟨rfl, hf2⟩
  have H2 := hide hf2
  clear hf2 HL HS
  go_wp2_with fail
  go_loopw [5] (fun iv wr => ∃ k : Nat, iv = .int .i64 (k : Nat) ∧ k ≤ ks.length ∧ Fr (fun _ => False) w1 wr) (fun iv _ => ks.length - (intOf iv).toNat)
  case atStart => exact ⟨0, rfl, Nat.zero_le _, unhide H2⟩
  case round =>
    obtain ⟨k, rfl, hk, hf⟩ := hrel
    by_cases hkl : k < ks.length
    · have HA1 := hide ((unhide HA) wr k hkl hf)
      have hpk := (unhide hpl) _ (List.getElem_mem hkl)
      have hR1 := (unhide HR) k _ (List.getElem?_eq_getElem hkl)
      obtain ⟨g, hko, ho, hc, hcell, hsr⟩ := hR1
      have HC : Hid (∀ W', Fr (fun _ => False) w1 W' → W'.cell? ⟨g, k, none⟩ = some (.slice ho (ks[k]).length hc) ∧ Src W' (.slice ho (ks[k]).length hc) ks[k]) := fun W' hf => ⟨cell_fr0 hcell hf, hsr.fr0 hf⟩
      generalize ks[k] = P at HA1 hpk HC
      subst hko
      have hi : (k : Int) < (ks.length : Int) := by omega
      clear hcell hsr hf HA HR
      go_wp2_with fail
      refine (unhide HA1).mono ?_
      rintro e w3 ⟨v, rfl, hv, hf3⟩
      obtain ⟨vo, vc, rfl⟩ := hv.form
      obtain ⟨hc3, hs3⟩ := (unhide HC) _ hf3
      have HSm := hide (same_any (.slice vo P.length vc) (.slice ho P.length hc) P P w3 hv hs3 (by omega))
      rw [show sameB P P = true by simp [sameB]] at HSm
      have H3 := hide hf3
      clear hv hs3 hf3 HA1 HC
      go_wp2_with fail
      refine (unhide HSm).mono ?_
      rintro e w4 ⟨rfl, n4, rfl⟩
      go_wp2_with fail
      exact ⟨⟨k + 1, by simp, by omega, (unhide H3).drewN _⟩, by simp only [intOf]; omega⟩
    · have hi : ¬ (k : Int) < (ks.length : Int) := by omega
      have HF := hide hf
      clear hf
      go_wp2_with fail
      go_ret
      exact ⟨rfl, unhide HF⟩
end Go.Proofs.YtmmaddlphclpnaaGreatDoor

namespace Go.Proofs.YtmmaddlphclpnaaGreatDoor
open Go.RowKit Go.ChangeShapes Go.WideShapes Go.Maps Go.Sort

theorem KV.cell {w W : World} {ao : Option Addr} {cap : Nat} {ks : List (List Nat)} {us : List Value} (h : KV w W (.slice ao ks.length cap) ks us) (hf : Fr (fun _ => False) w W) (j : Nat) (p : List Nat) (hp : ks[j]? = some p) : ∃ g, ao = some ⟨g, 0, none⟩ ∧ ∃ ho hc, W.cell? ⟨g, j, none⟩ = some (.slice ho p.length hc) ∧ Src W (.slice ho p.length hc) p := by
  have hj : j < ks.length := (List.getElem?_eq_some_iff.1 hp).1
  have hju : j < us.length := by rw [h.len]; exact hj
  obtain ⟨gb, cb, eb, _, _⟩ := h.row.form (by omega)
  simp only [Value.slice.injEq, true_and] at eb
  obtain ⟨rfl, rfl⟩ := eb
  obtain ⟨⟨ho, hc, e, _⟩, hs⟩ := h.el j us[j] p (List.getElem?_eq_getElem hju) hp
  refine ⟨gb, rfl, ho, hc, ?_, by rw [← e]; exact hs.fr0 hf⟩
  rw [← e]
  have := h.row.cellAt j (by omega)
  rw [this]
  exact List.getElem?_eq_getElem hju
theorem KV.rds {w W : World} {ao : Option Addr} {cap : Nat} {ks : List (List Nat)} {us : List Value} (h : KV w W (.slice ao ks.length cap) ks us) (hf : Fr (fun _ => False) w W) (n : Nat) : Rds W ao (ks.take n) := fun j p hp => by
  refine h.cell hf j p ?_
  have hj : j < (ks.take n).length := (List.getElem?_eq_some_iff.1 hp).1
  rw [List.length_take] at hj
  rw [List.getElem?_take_of_lt (by omega)] at hp
  exact hp
theorem KV.cap {w W : World} {ao : Option Addr} {cap : Nat} {ks : List (List Nat)} {us : List Value} (h : KV w W (.slice ao ks.length cap) ks us) : ks.length ≤ cap := by
  rcases h.row.2 with ⟨e, e0⟩ | ⟨g, c, cur, e, _, _, hc, _⟩
  · omega
  · simp only [Value.slice.injEq] at e
    omega
theorem wholes_step (ps : List (List Nat)) (k n : Nat) (p : List Nat) (hp : ps[k]? = some p) (hn : p.length + 12 ≤ n) : wholes (ps.drop k) n = wholes (ps.drop (k + 1)) (n - (p.length + 12)) + 1 := by
  have hk : k < ps.length := (List.getElem?_eq_some_iff.1 hp).1
  have e : ps[k] = p := (List.getElem?_eq_some_iff.1 hp).2
  rw [List.drop_eq_getElem_cons hk, e, wholes, if_pos hn]
theorem wholes_stop (ps : List (List Nat)) (k n : Nat) (p : List Nat) (hp : ps[k]? = some p) (hn : ¬ p.length + 12 ≤ n) : wholes (ps.drop k) n = 0 := by
  have hk : k < ps.length := (List.getElem?_eq_some_iff.1 hp).1
  have e : ps[k] = p := (List.getElem?_eq_some_iff.1 hp).2
  rw [List.drop_eq_getElem_cons hk, e, wholes, if_neg hn]
set_option maxHeartbeats 40000000 in
set_option maxRecDepth 100000 in
/-- WalWhole. -/
theorem wwhole_any (size keep : Int) (xo : Option Addr) (xc : Nat) (pays : List (List Nat)) (w : World) (hP : KJ w xo pays) (hl : pays.length < 9223372036854775808) (hkp : keep ≤ 9223372036854775807) :
    Calls Tryz.prog 6 #[.int .i64 size, .slice xo pays.length xc, .int .i64 keep] w fun e w' => e = .returned (.bool true) ∧ Fr (fun _ => False) w w' := by
  have hzz := segZ_lt size
  have HP := hide hP
  clear hP
  go_enter Tryz.func6, Tryz.ntmps6
  go_wp2_with fail
  refine (awake9 w).mono ?_
  rintro e w1 ⟨rfl, hf1⟩
  have H1 := hide hf1
  clear hf1
  go_wp2_with fail
  refine (begun_any w size (-1) xo xc pays w1 (unhide H1) (unhide HP) hl).mono ?_
  rintro e w2 ⟨l, d, m, kv, rfl, hB⟩
  obtain ⟨ks, hks⟩ : ∃ ks, ks = kps (segZ size) pays (min pays.length 60) := ⟨_, rfl⟩
  rw [← hks] at hB
  clear hks
  obtain ⟨ao, cap, rfl⟩ := hB.kv
  obtain ⟨s, q, O, sv, pv, I, ps, j, us, g1, g2, g3, g4, g5, g6⟩ := hB.ex
  obtain rfl : j = 0 := g6 rfl
  generalize segZ size = Z at *
  have hlen : I.flatten.length + ps.length = ks.length := by rw [← g3, List.length_append]
  have hfew := g2.few
  have hcap := g4.cap
  have hsyn := wsyn_of w l d m s q O sv pv Z 0 60 I ps w2 g1 g2
  rw [Nat.add_zero] at hsyn
  have HS := hide hsyn
  have hpn := g2.sg ps (by simp)
  have hZ := g2.z
  have G := hide (And.intro g1 (And.intro g2 (And.intro g3 (And.intro g4 g5))))
  clear hB g1 g2 g3 g4 g5 g6 hsyn H1 HP
  go_wp2_with fail
  refine (unhide HS).mono ?_
  rintro e w3 ⟨rfl, hf3⟩
  have hpd := wpend_any w d m s q O Z 0 60 I ps w3 ((unhide G).1.quiet hf3).ds (unhide G).2.1
  rw [List.take_zero, fby_nil, List.length_nil, Nat.sub_zero] at hpd
  have HPD := hide hpd
  have H3 := hide hf3
  clear hf3 hpd HS
  obtain ⟨F, hF⟩ : ∃ F, F = I.flatten.length := ⟨_, rfl⟩
  obtain ⟨pn, hpn0⟩ : ∃ pn, pn = (fby ps).length := ⟨_, rfl⟩
  rw [← hpn0] at HPD hpn
  rw [← hF] at hlen hfew ⊢
  have HF := hide (And.intro hF hpn0)
  have HLN := hide hlen
  clear hF hpn0
  go_wp2_with fail
  refine (unhide HPD).mono ?_
  rintro e w4 ⟨rfl, hf4⟩
  have H4 := hide ((unhide H3).trans hf4 (fun _ _ h => h))
  clear hf4 HPD H3
  go_wp2_with fail
  obtain ⟨n0, hn0⟩ : ∃ n0 : Nat, n0 = min keep.toNat pn := ⟨_, rfl⟩
  have hmx : max (0 : Int) (min keep (pn : Int)) = (n0 : Int) := by omega
  rw [hmx]
  have hn06 : n0 ≤ 600 := by omega
  have HN0 := hide hn0
  clear hmx hn0
  go_loopw [12, 13] (fun lv wv wr => ∃ k n T : Nat, lv = .int .i64 (n : Nat) ∧ wv = .int .i64 (T : Nat) ∧ T = F + k ∧ k ≤ ps.length ∧ n ≤ 600 ∧ wholes ps n0 = k + wholes (ps.drop k) n ∧ Fr (fun _ => False) w4 wr) (fun _ wv _ => F + ps.length - (intOf wv).toNat)
  case atStart => exact ⟨0, n0, F, rfl, rfl, rfl, Nat.zero_le _, hn06, by simp, Fr.refl _ _⟩
  case round =>
    obtain ⟨k, n, T, rfl, rfl, hTk, hk, hn, hwh, hf⟩ := hrel
    have HTk := hide hTk
    have hTle : T ≤ F + ps.length := by omega
    by_cases hkl : k < ps.length
    · have hpk : ks[T]? = some ps[k] := by
        rw [← (unhide G).2.2.1, hTk, (unhide HF).1, List.getElem?_append_right (by omega), Nat.add_sub_cancel_left, List.getElem?_eq_getElem hkl]
      have hfw := ((unhide G).1.fr.trans (unhide H4) (fun _ _ h => h)).trans hf (fun _ _ h => h)
      have hkvr := (unhide G).2.2.2.1.fr ((unhide H4).trans hf (fun _ _ h => h)) (fun _ _ h => h)
      obtain ⟨g, hao, ho, hc, hcell, _⟩ := hkvr.cell hfw T _ hpk
      have hP12 := (unhide G).2.1.pay ps (by simp) _ (List.getElem_mem hkl)
      have hpe : ps[k]? = some ps[k] := List.getElem?_eq_getElem hkl
      have hst := wholes_step ps k n ps[k] hpe
      have hso := wholes_stop ps k n ps[k] hpe
      generalize ps[k] = P at hcell hP12 hst hso
      have hi : (T : Int) < (ks.length : Int) := by omega
      have hw12 : IntKind.i64.wrap ((P.length : Int) + 12) = (P.length : Int) + 12 := by rw [IntKind.wrap_i64]; omega
      have hTl : T < ks.length := by omega
      clear hpk hfw hkvr hpe hTk hlen
      by_cases hfit : (P.length : Int) + 12 ≤ (n : Int)
      · have hwa : IntKind.i64.wrap ((n : Int) - (P.length : Int)) = (n : Int) - (P.length : Int) := by rw [IntKind.wrap_i64]; omega
        have hwb : IntKind.i64.wrap ((n : Int) - (P.length : Int) - 12) = (n : Int) - (P.length : Int) - 12 := by rw [IntKind.wrap_i64]; omega
        have hwT : IntKind.i64.wrap ((T : Int) + 1) = (T : Int) + 1 := by rw [IntKind.wrap_i64]; omega
        have hst1 := hst (by omega)
        subst hao
        have HX := hide (And.intro hst1 (And.intro hwh hf))
        clear hst hso hst1 hwh hf
        go_wp2_with fail
        refine ⟨⟨k + 1, n - (P.length + 12), T + 1, ?_, ?_, by have := unhide HTk; omega, by omega, by omega, ?_, (unhide HX).2.2⟩, by simp only [intOf]; have := unhide HTk; omega⟩
        · rw [show ((n - (P.length + 12) : Nat) : Int) = (n : Int) - (P.length : Int) - 12 by omega]
        · rw [show ((T + 1 : Nat) : Int) = (T : Int) + 1 by omega]
        · rw [(unhide HX).2.1, (unhide HX).1]; omega
      · have hK : wholes ps n0 = k := by rw [hwh, hso (by omega), Nat.add_zero]
        have hcell2 : wr.cell? ⟨g, T, none⟩ = some (.slice ho P.length hc) := hcell
        clear hst hso hcell
        subst hao
        have hfW := (unhide H4).trans hf (fun _ _ h => h)
        have gW := (unhide G).1.quiet hfW
        have hT2 := wcrash_any w d m keep s q O Z 0 60 I ps wr gW.ds (unhide G).2.1 hkp
        have ek : 0 + wholes (ps.drop 0) (min keep.toNat ((fby ps).length - (fby (ps.take 0)).length)) = k := by
          rw [List.drop_zero, List.take_zero, fby_nil, List.length_nil, Nat.sub_zero, ← (unhide HF).2, ← unhide HN0, Nat.zero_add]; exact hK
        rw [ek] at hT2
        have HT2 := hide hT2
        have HW := hide (And.intro hfW gW)
        have HK := hide (And.intro (unhide HTk) (And.intro hk hK))
        have hTc : (T : Int) ≤ (cap : Int) := by omega
        clear hT2 ek hfW gW hK hwh hf
        go_wp2_with fail
        refine (unhide HT2).mono ?_
        rintro e w5 ⟨rfl, s5, q5, hD5, hf5, t, hT5⟩
        have H5 := hide (And.intro hf5 hT5)
        have HS5 := hide (start_any d m s5 q5 O w5 hD5)
        clear hD5 hf5 hT5 HT2
        go_wp2_with fail
        refine (unhide HS5).mono ?_
        rintro e w6 ⟨rfl, hD6, hf6⟩
        have hDS : DS w w6 d m _ q5 O := ⟨hD6, ((unhide HW).2.fr.absorb (unhide H5).1 (unhide HW).2.o).absorb hf6 (fun k e => by rw [e]; exact (unhide HW).2.o _ (unhide HW).2.D.od), (unhide HW).2.o⟩
        have HO6 := hide (wopen_at w d m _ q5 O Z 60 I (ps.take k) t w6 hDS (unhide H5).2 hzz.1)
        have H6 := hide hf6
        clear hD6 hf6 hDS HS5
        go_wp2_with fail
        refine (unhide HO6).mono ?_
        rintro e w7 ⟨l7, rfl, s7, q7, O7, sv7, pv7, h7, hS7, _, hf7⟩
        have hkv7 : KV w w7 (.slice (some ⟨g, 0, none⟩) ks.length cap) ks us := by
          obtain ⟨g1, g2, g3, g4, g5⟩ := unhide G
          refine (((g4.fr (unhide HW).1 (fun _ _ h => h)).fr (unhide H5).1 (fun g hg ho => g5 g hg (.inl ho))).fr (unhide H6) (fun g hg e => g5 g hg (.inl ?_))).fr hf7 (fun g hg ho => g5 g hg (.inl ho))
          rw [e]
          exact (unhide HW).2.D.od
        have eks : I.flatten ++ ps.take k = ks.take T := by
          rw [← (unhide G).2.2.1, (unhide HK).1, (unhide HF).1, List.take_length_add_append]
        have hlT : (ks.take T).length = T := by
          rw [List.length_take]
          have := (unhide HK).1
          have := (unhide HK).2.1
          have := unhide HLN
          omega
        have hho := holds_of w l7 d m s7 q7 O7 sv7 pv7 Z 60 I (ps.take k) (ks.take T) (some ⟨g, 0, none⟩) cap w7 h7 hS7 eks (hkv7.rds h7.fr T)
        rw [hlT] at hho
        have HH := hide hho
        have H7 := hide h7.fr
        clear h7 hS7 hf7 hkv7 eks hlT hho HO6 H6 H5
        go_wp2_with fail
        refine (unhide HH).mono ?_
        rintro e w8 ⟨rfl, hf8⟩
        have H8 := hide ((unhide H7).trans hf8 (fun _ _ h => h))
        clear hf8 H7 HH
        go_wp2_with fail
        go_ret
        exact ⟨rfl, unhide H8⟩
    · have hK : wholes ps n0 = k := by
        rw [hwh, List.drop_eq_nil_of_le (by omega)]; rfl
      have hi : ¬ (T : Int) < (ks.length : Int) := by omega
      have hTl : T ≤ ks.length := by omega
      clear hTk hlen
      have hfW := (unhide H4).trans hf (fun _ _ h => h)
      have gW := (unhide G).1.quiet hfW
      have hT2 := wcrash_any w d m keep s q O Z 0 60 I ps wr gW.ds (unhide G).2.1 hkp
      have ek : 0 + wholes (ps.drop 0) (min keep.toNat ((fby ps).length - (fby (ps.take 0)).length)) = k := by
        rw [List.drop_zero, List.take_zero, fby_nil, List.length_nil, Nat.sub_zero, ← (unhide HF).2, ← unhide HN0, Nat.zero_add]; exact hK
      rw [ek] at hT2
      have HT2 := hide hT2
      have HW := hide (And.intro hfW gW)
      have HK := hide (And.intro (unhide HTk) (And.intro hk hK))
      have hTc : (T : Int) ≤ (cap : Int) := by omega
      clear hT2 ek hfW gW hK hwh hf
      go_wp2_with fail
      refine (unhide HT2).mono ?_
      rintro e w5 ⟨rfl, s5, q5, hD5, hf5, t, hT5⟩
      have H5 := hide (And.intro hf5 hT5)
      have HS5 := hide (start_any d m s5 q5 O w5 hD5)
      clear hD5 hf5 hT5 HT2
      go_wp2_with fail
      refine (unhide HS5).mono ?_
      rintro e w6 ⟨rfl, hD6, hf6⟩
      have hDS : DS w w6 d m _ q5 O := ⟨hD6, ((unhide HW).2.fr.absorb (unhide H5).1 (unhide HW).2.o).absorb hf6 (fun k e => by rw [e]; exact (unhide HW).2.o _ (unhide HW).2.D.od), (unhide HW).2.o⟩
      have HO6 := hide (wopen_at w d m _ q5 O Z 60 I (ps.take k) t w6 hDS (unhide H5).2 hzz.1)
      have H6 := hide hf6
      clear hD6 hf6 hDS HS5
      go_wp2_with fail
      refine (unhide HO6).mono ?_
      rintro e w7 ⟨l7, rfl, s7, q7, O7, sv7, pv7, h7, hS7, _, hf7⟩
      have hkv7 : KV w w7 (.slice ao ks.length cap) ks us := by
        obtain ⟨g1, g2, g3, g4, g5⟩ := unhide G
        refine (((g4.fr (unhide HW).1 (fun _ _ h => h)).fr (unhide H5).1 (fun g hg ho => g5 g hg (.inl ho))).fr (unhide H6) (fun g hg e => g5 g hg (.inl ?_))).fr hf7 (fun g hg ho => g5 g hg (.inl ho))
        rw [e]
        exact (unhide HW).2.D.od
      have eks : I.flatten ++ ps.take k = ks.take T := by
        rw [← (unhide G).2.2.1, (unhide HK).1, (unhide HF).1, List.take_length_add_append]
      have hlT : (ks.take T).length = T := by
        rw [List.length_take]
        have := (unhide HK).1
        have := (unhide HK).2.1
        have := unhide HLN
        omega
      have hho := holds_of w l7 d m s7 q7 O7 sv7 pv7 Z 60 I (ps.take k) (ks.take T) ao cap w7 h7 hS7 eks (hkv7.rds h7.fr T)
      rw [hlT] at hho
      have HH := hide hho
      have H7 := hide h7.fr
      clear h7 hS7 hf7 hkv7 eks hlT hho HO6 H6 H5
      go_wp2_with fail
      refine (unhide HH).mono ?_
      rintro e w8 ⟨rfl, hf8⟩
      have H8 := hide ((unhide H7).trans hf8 (fun _ _ h => h))
      clear hf8 H7 HH
      go_wp2_with fail
      go_ret
      exact ⟨rfl, unhide H8⟩
end Go.Proofs.YtmmaddlphclpnaaGreatDoor

namespace Go.Proofs.YtmmaddlphclpnaaGreatDoor
open Go.RowKit Go.ChangeShapes Go.WideShapes Go.Maps Go.Sort

/-- A disk armed for the next write. -/
def DM.armed (s : DM) (bt : Nat) : DM := { s with left := 1, tear := (bt : Nat) }
/-- A torn Append's disk. -/
theorem LS.torn {s : DM} {Z : Nat} {I : List (List (List Nat))} {ps : List (List Nat)} {j V : Nat} (h : LS s Z I ps j V) (p : List Nat) (bt : Nat) (hp : (fby ps).length + (p.length + 12) ≤ Z) (hc : I.flatten.length + ps.length < 70) (hV : V < 1000) : LX ((s.armed bt).app (nm (seg sLog I.length)) (frame p)) Z I (ps ++ [p]) ((fby ps).length + min (frame p).length bt) j (V + 1) ∧ ((s.armed bt).app (nm (seg sLog I.length)) (frame p)).off = true := by
  obtain ⟨pc, hf, hs, hl⟩ := h.fl
  have hn := h.n
  have hj := h.jle
  have hw := h.wr
  have hcnt : (s.armed bt).count (frame p).length = ({ s.armed bt with writes := s.writes + 1, left := 0, off := true }, min (frame p).length bt) := by
    rw [DM.count, if_neg (by show ¬ (1 : Int) = 0; decide), if_neg (by show ¬ (1 : Int) < 1; decide)]
    refine Prod.ext rfl ?_
    show (min ((frame p).length : Int) ((bt : Nat) : Int)).toNat = _
    omega
  have et : (ps ++ [p]).take j = ps.take j := List.take_append_of_le_length hj
  have el : (fby (ps ++ [p])).length = (fby ps).length + (p.length + 12) := by rw [fby_app_len, fby_cons_len]; simp [fby]
  have etk : (fby (ps ++ [p])).take ((fby ps).length + min (frame p).length bt) = fby ps ++ (frame p).take (min (frame p).length bt) := by
    rw [fby_app, fby_cons, fby_nil, List.append_nil, List.take_length_add_append]
  have hA : Fls (s.armed bt) sLog (I.length + 1) (LB I ⟨fby ps, (fby (ps.take j)).length, pc⟩) := ⟨hf.map, hf.keys, hf.F, hf.used⟩
  obtain ⟨n1, hn1⟩ : ∃ n1, n1 = min (frame p).length bt := ⟨_, rfl⟩
  rw [← hn1] at hcnt etk ⊢
  have hltk : ((frame p).take n1).length = n1 := by rw [List.length_take]; omega
  have hT := hA.turn (s' := (s.armed bt).app (nm (seg sLog I.length)) (frame p)) (by omega) (M := I.length) (by omega) ((LB I ⟨fby ps, (fby (ps.take j)).length, pc⟩ I.length).put (s.writes + 1) ((frame p).take n1)) (by simp only [DM.app, hcnt]) (fun k => by simp only [DM.app, hcnt]; rw [hA.F I.length (by omega)]; rfl) (by
    simp only [DM.app, hcnt, FM.put]
    split
    · omega
    · simp only [List.length_append, hltk]; omega)
  have esp : ∀ (a : List (Nat × Nat)) (x : Nat × Nat), sumP (a ++ [x]) = sumP a + x.2 := by
    intro a x
    induction a with
    | nil => simp [sumP]
    | cons y r ih => simp only [List.cons_append, sumP, ih]; omega
  refine ⟨⟨by simp only [DM.app, hcnt]; exact h.good.full, by simp only [DM.app, hcnt]; exact ⟨h.lim, h.good.lim⟩, ?_, by rw [el, frame_len] at *; omega, by simp only [List.length_append]; omega, h.ne, by simp only [List.length_append, List.length_singleton]; omega, fun qs hq => ?_, fun qs hq => ?_, h.z, by simp only [DM.app, hcnt]; omega, by omega⟩, by simp only [DM.app, hcnt]⟩
  · by_cases h0 : n1 = 0
    · refine ⟨pc, hT.congr (fun i hi => ?_), by rw [et]; omega, by omega⟩
      rw [LB_set, LB_last, FM.put, if_pos (by rw [hltk]; exact h0), etk, et, h0, List.take_zero, List.append_nil]
    · refine ⟨pc ++ [(s.writes + 1, n1)], hT.congr (fun i hi => ?_), by rw [et, esp]; simp only; omega, by simp only [List.length_append, List.length_singleton]; omega⟩
      rw [LB_set, LB_last, FM.put, if_neg (by rw [hltk]; exact h0), etk, et, hltk]
  · rcases List.mem_append.1 hq with hq | hq
    · exact h.sg qs (List.mem_append_left _ hq)
    · rw [List.mem_singleton.1 hq, el]; exact hp
  · rcases List.mem_append.1 hq with hq | hq
    · exact h.pay qs (List.mem_append_left _ hq)
    · rw [List.mem_singleton.1 hq]
      intro x hx
      rcases List.mem_append.1 hx with hx | hx
      · exact h.pay ps (by simp) x hx
      · rw [List.mem_singleton.1 hx]; omega
set_option maxHeartbeats 1000000 in
/-- Log.Append that is torn. -/
theorem warm_any (w : World) (l d m : Nat) (s : DM) (q : DW) (O : Nat → Prop) (sv pv y : Value) (Z j V bt : Nat) (I : List (List (List Nat))) (ps : List (List Nat)) (p : List Nat) (W : World) (h : WL w W l d m (LM.of sLog Z (I ++ [ps])) (s.armed bt) q O sv pv) (hS : LS s Z I ps j V) (hy : Src w y p) (hp : p.length + 12 ≤ Z) (hc : I.flatten.length + ps.length < 70) (hV : V < 1000) (hbt : bt < 9223372036854775808) :
    Calls Tryz.prog 13 #[.pointer (some ⟨l, 0, none⟩), y] W fun e W' => e = .returned (.tuple #[.int .i64 0, .int .i64 6]) ∧ ∃ s' q' O' I' qs c j', DS w W' d m s' q' O' ∧ LX s' Z I' qs c j' (V + 1) ∧ s'.off = true ∧ I'.flatten ++ qs = I.flatten ++ ps ++ [p] ∧ I.flatten.length + j ≤ I'.flatten.length + j' ∧ (∀ k, O' k → Ours l O sv pv k ∨ W.heap.size ≤ k) ∧ Fr (Ours l O sv pv) W W' := by
  have hn := hS.n
  have hz := hS.z
  have hj := hS.jle
  have hus := hS.used
  have hwr := hS.wr
  have hsl : (fby ps).length ≤ Z := hS.sg ps (by simp)
  have hyW : Src W y p := hy.fr0 h.fr
  have hlim := hS.lim
  have ilen : (I.map (fun ps => (fby ps).length)).length = I.length := List.length_map _
  obtain ⟨pc, hF, hpc⟩ := hS.last
  by_cases hr : (fby ps).length + (12 + p.length) ≤ Z
  · have HM : Calls Tryz.prog 41 #[.pointer (some ⟨l, 0, none⟩), .int .i64 ((12 + p.length : Nat) : Int)] W fun e W' => e = .returned (.int .i64 0) ∧ ∃ s1 q1 O1 sv1, s1 = s.armed bt ∧ WL w W' l d m (LM.of sLog Z (I ++ [ps])) s1 q1 O1 sv1 pv ∧ Src W' y p ∧ (∀ k, O1 k → O k ∨ W.heap.size ≤ k) ∧ (∀ g, sv1.ownBlock = some g → sv.ownBlock = some g ∨ W.heap.size ≤ g) ∧ Fr (fun k => O k ∨ k = l ∨ sv.ownBlock = some k ∨ pv.ownBlock = some k) W W' := by
      refine (makeRoom_fits l d (LM.of sLog Z (I ++ [ps])) sv pv _ _ (12 + p.length) W h.G (of_segs ..) (by rw [ilen]; omega) (by omega) (by omega) (by show Z ≤ _; omega) hr).mono ?_
      rintro e W' ⟨rfl, hf⟩
      exact ⟨rfl, _, q, O, sv, rfl, h.quiet hf, hyW.fr0 hf, fun _ h => .inl h, fun _ h => .inl h, hf.mono (fun _ _ h => h.elim)⟩
    have hw := wappend_armed w l d m (LM.of sLog Z (I ++ [ps])) (LM.of sLog Z (I ++ [ps])) (s.armed bt) (fun s1 => s1 = s.armed bt) q O sv pv y _ _ p bt W h hyW HM (by omega) hp (by show Z ≤ _; omega) (of_segs ..) rfl rfl (by show (3 : Nat) ≤ 32; decide) (by rw [ilen]; omega) (by rw [of_plen]; omega) (by omega) (fun s1 e => by
      subst e
      rw [ilen]
      show _ ∧ _ ∧ _ ∧ (s.F (nm (seg sLog I.length))).b.length ≤ _ ∧ (s.F (nm (seg sLog I.length))).ps.length ≤ _
      rw [hF]
      exact ⟨⟨hS.good.off, hS.good.full, rfl, rfl, hS.good.lim, hS.good.wr, hbt⟩, hS.has (Nat.le_refl _), by show s.used + _ ≤ s.limit; omega, by simp only; omega, by simp only; omega⟩)
    refine hw.mono ?_
    rintro e W' ⟨rfl, s1, q', O', sv', rfl, h1, h2, h3, h4⟩
    rw [ilen] at h1
    obtain ⟨hX, hoff⟩ := hS.torn p bt (by omega) hc hV
    exact ⟨rfl, _, q', O', I, ps ++ [p], _, j, h1.ds, hX, hoff, by rw [List.append_assoc], Nat.le_refl _, fun k hk => (h2 k hk).imp .inl id, h3⟩
  · have hne : ps ≠ [] := fun e => by
      subst e
      simp only [fby_nil, List.length_nil] at hr
      omega
    have HM : Calls Tryz.prog 41 #[.pointer (some ⟨l, 0, none⟩), .int .i64 ((12 + p.length : Nat) : Int)] W fun e W' => e = .returned (.int .i64 0) ∧ ∃ s1 q1 O1 sv1, (∃ fb, s1 = ((s.syn (nm (seg sLog I.length))).made (nm (seg sLog (I.length + 1))) fb).armed bt) ∧ WL w W' l d m (LM.of sLog Z ((I ++ [ps]) ++ [[]])) s1 q1 O1 sv1 pv ∧ Src W' y p ∧ (∀ k, O1 k → O k ∨ W.heap.size ≤ k) ∧ (∀ g, sv1.ownBlock = some g → sv.ownBlock = some g ∨ W.heap.size ≤ g) ∧ Fr (fun k => O k ∨ k = l ∨ sv.ownBlock = some k ∨ pv.ownBlock = some k) W W' := by
      obtain ⟨pc2, hfl, _, _⟩ := hS.fl
      have hm := makeRoom_new w l d m (LM.of sLog Z (I ++ [ps])) (s.armed bt) q O sv pv _ _ (12 + p.length) W h (of_segs ..) (by rw [ilen]; omega) (by show (3 : Nat) ≤ 32; decide) hS.good.off (by rw [ilen]; exact hS.has (Nat.le_refl _)) (by rw [ilen]; exact hfl.no (Nat.le_refl _) (by omega)) (by show Maps.size s.D < 256; rw [hfl.size]; omega) hsl (by omega) (by show Z ≤ _; omega) (by show Z < _; omega)
      rw [ilen] at hm
      refine hm.mono ?_
      rintro e W' ⟨rfl, fb, q1, O1, sv1, h1, h2, h3, h4⟩
      refine ⟨rfl, _, q1, O1, sv1, ⟨fb, rfl⟩, ?_, hy.fr0 h1.fr, h2, h3, h4⟩
      have e : LM.of sLog Z ((I ++ [ps]) ++ [[]]) = { LM.of sLog Z (I ++ [ps]) with segs := (LM.of sLog Z (I ++ [ps])).segs ++ [0] } := by simp [LM.of, plc_app, plc, plo, fby]
      rw [e]
      exact h1
    have ilen2 : ((I ++ [ps]).map (fun ps => (fby ps).length)).length = I.length + 1 := by simp
    have hw := wappend_armed w l d m (LM.of sLog Z (I ++ [ps])) (LM.of sLog Z ((I ++ [ps]) ++ [[]])) (s.armed bt) _ q O sv pv y _ _ p bt W h hyW HM (by omega) hp (by show Z ≤ _; omega) (of_segs ..) (by simp [LM.of, plc_app, plc, plo]) rfl (by show (3 : Nat) ≤ 32; decide) (by rw [ilen2]; omega) (by rw [of_plen]; omega) (by simp [fby]) (fun s1 ⟨fb, e⟩ => by
      have hS1 := hS.nseg hne fb
      have hl1 := hS1.lim
      have hu1 := hS1.used
      obtain ⟨pc1, hF1, hpc1⟩ := hS1.last
      have hh1 := hS1.has (i := I.length + 1) (by simp)
      rw [show (I ++ [ps]).length = I.length + 1 by simp] at hF1
      generalize (s.syn (nm (seg sLog I.length))).made (nm (seg sLog (I.length + 1))) fb = s0 at *
      subst e
      rw [ilen2]
      show _ ∧ _ ∧ _ ∧ (s0.F (nm (seg sLog (I.length + 1)))).b.length ≤ _ ∧ (s0.F (nm (seg sLog (I.length + 1)))).ps.length ≤ _
      rw [hF1]
      exact ⟨⟨hS1.good.off, hS1.good.full, rfl, rfl, hS1.good.lim, hS1.good.wr, hbt⟩, hh1, by show s0.used + _ ≤ s0.limit; omega, by simp [fby], by simp only; omega⟩)
    refine hw.mono ?_
    rintro e W' ⟨rfl, s1, q', O', sv', ⟨fb, rfl⟩, h1, h2, h3, h4⟩
    rw [ilen2] at h1
    obtain ⟨hX, hoff⟩ := (hS.nseg hne fb).torn p bt (by simp only [fby_nil, List.length_nil]; omega) (by simp only [List.flatten_append, List.length_append, List.flatten_cons, List.flatten_nil, List.append_nil, List.length_nil]; omega) hV
    rw [show (I ++ [ps]).length = I.length + 1 by simp] at hX hoff
    exact ⟨rfl, _, q', O', I ++ [ps], [p], _, 0, h1.ds, hX, hoff, by simp, by simp only [List.flatten_append, List.length_append, List.flatten_cons, List.flatten_nil, List.append_nil]; omega, fun k hk => (h2 k hk).imp .inl id, h3⟩
end Go.Proofs.YtmmaddlphclpnaaGreatDoor

namespace Go.Proofs.YtmmaddlphclpnaaGreatDoor
open Go.RowKit Go.ChangeShapes Go.WideShapes Go.Maps Go.Sort

/-- A log's disk ahead of a crash, and the list of what was appended. -/
structure CR (w W : World) (d m Z : Nat) (kv : Value) (ks : List (List Nat)) (SF : Nat) : Prop where
  ex : ∃ s q O I qs c j us, DS w W d m s q O ∧ LX s Z I qs c j 61 ∧ I.flatten ++ qs = ks ∧ KV w W kv ks us ∧ (∀ g, kv.ownBlock = some g → ¬ O g) ∧ SF ≤ I.flatten.length + j
/-- Behind it. -/
structure CS (w W : World) (d m Z : Nat) (kv : Value) (ks : List (List Nat)) (T : Nat) (on : Bool) : Prop where
  ex : ∃ s q O I qs t us, DS w W d m s q O ∧ LT (if on then s else { s with off := false }) Z I qs t 61 ∧ I.flatten ++ qs = ks.take T ∧ KV w W kv ks us ∧ (∀ g, kv.ownBlock = some g → ¬ O g)
/-- Opened. -/
structure CO (w W : World) (l d m Z : Nat) (kv : Value) (ks : List (List Nat)) (T : Nat) : Prop where
  ex : ∃ s q O sv pv I qs us, WL w W l d m (LM.of sLog Z (I ++ [qs])) s q O sv pv ∧ LS s Z I qs qs.length 61 ∧ I.flatten ++ qs = ks.take T ∧ KV w W kv ks us ∧ (∀ g, kv.ownBlock = some g → ¬ Ours l O sv pv g)
/-- An older log beside a log. -/
def Old1 (W : World) (l1 d T : Nat) (A : Nat → Prop) : Prop := ∃ L1 sv1 pv1, LgAt W l1 d L1 sv1 pv1 ∧ L1.pls.length = T ∧ ∀ k, (k = l1 ∨ sv1.ownBlock = some k ∨ pv1.ownBlock = some k) → ¬ A k
theorem Old1.go {W W' : World} {l1 d T : Nat} {A A' S : Nat → Prop} (h : Old1 W l1 d T A) (hf : Fr S W W') (hS : ∀ k, S k → A k) (hA : ∀ k, A' k → A k ∨ W.heap.size ≤ k) : Old1 W' l1 d T A' := by
  obtain ⟨L1, sv1, pv1, h1, h2, h3⟩ := h
  refine ⟨L1, sv1, pv1, h1.fr hf (fun e => h3 l1 (.inl rfl) (hS _ e)) (fun g hg e => h3 g (.inr (.inl hg)) (hS _ e)) (fun g hg e => h3 g (.inr (.inr hg)) (hS _ e)), h2, fun k hk e => ?_⟩
  rcases hA k e with e | e
  · exact h3 k hk e
  · have hl := h1.lt
    rcases hk with rfl | hk | hk
    · omega
    · have := hl.2.1 k hk; omega
    · have := hl.2.2 k hk; omega
theorem Old1.len {W : World} {l1 d T : Nat} {A : Nat → Prop} (h : Old1 W l1 d T A) : Calls Tryz.prog 12 #[.pointer (some ⟨l1, 0, none⟩)] W fun e w' => e = .returned (.int .i64 (T : Nat)) ∧ w' = W := by
  obtain ⟨L1, sv1, pv1, h1, h2, _⟩ := h
  have := wlen_any l1 d L1 sv1 pv1 W h1
  rw [h2] at this
  exact this
structure CP (w W : World) (l1 l d m Z : Nat) (kv : Value) (ks : List (List Nat)) (T : Nat) : Prop where
  ex : ∃ s q O sv pv I qs us, WL w W l d m (LM.of sLog Z (I ++ [qs])) s q O sv pv ∧ LS s Z I qs qs.length 61 ∧ I.flatten ++ qs = ks.take T ∧ KV w W kv ks us ∧ (∀ g, kv.ownBlock = some g → ¬ Ours l O sv pv g) ∧ Old1 W l1 d T (Ours l O sv pv)
structure CQ (w W : World) (l1 l d m Z T : Nat) (full : Bool) : Prop where
  ex : ∃ s q O sv pv I qs j, WL w W l d m (LM.of sLog Z (I ++ [qs])) s q O sv pv ∧ LS s Z I qs j 62 ∧ (I.flatten ++ qs)[T]? = some [9] ∧ I.flatten.length + qs.length = T + 1 ∧ Old1 W l1 d T (Ours l O sv pv) ∧ (full = true → j = qs.length)
theorem CR.crash {w W : World} {d m Z : Nat} {kv : Value} {ks : List (List Nat)} {SF : Nat} (h : CR w W d m Z kv ks SF) (keep : Int) (hkp : keep ≤ 9223372036854775807) :
    Calls Tryz.prog 21 #[.pointer (some ⟨d, 0, none⟩), .int .i64 keep] W fun e W' => e = .returned (.tuple #[]) ∧ ∃ T, SF ≤ T ∧ T ≤ ks.length ∧ CS w W' d m Z kv ks T false := by
  obtain ⟨s, q, O, I, qs, c, j, us, h1, h2, h3, h4, h5, h6⟩ := h.ex
  refine (wcrashX w d m keep s q O Z c j 61 I qs W h1 h2 hkp).mono ?_
  rintro e W' ⟨rfl, s', q', hD, hf, t, k, hk1, hk2, hT⟩
  refine ⟨rfl, I.flatten.length + k, by omega, by rw [← h3, List.length_append]; omega, s', q', O, I, qs.take k, t, us, ⟨hD, h1.fr.absorb hf h1.o, h1.o⟩, hT, ?_, h4.fr hf h5, h5⟩
  rw [← h3, List.take_length_add_append]
theorem CS.start {w W : World} {d m Z : Nat} {kv : Value} {ks : List (List Nat)} {T : Nat} (h : CS w W d m Z kv ks T false) :
    Calls Tryz.prog 22 #[.pointer (some ⟨d, 0, none⟩)] W fun e W' => e = .returned (.tuple #[]) ∧ CS w W' d m Z kv ks T true := by
  obtain ⟨s, q, O, I, qs, t, us, h1, h2, h3, h4, h5⟩ := h.ex
  refine (start_any d m s q O W h1.D).mono ?_
  rintro e W' ⟨rfl, hD, hf⟩
  exact ⟨rfl, _, q, O, I, qs, t, us, h1.upd hD hf, h2, h3, h4.fr hf (fun g hg e => h5 g hg (by rw [e]; exact h1.D.od)), h5⟩
theorem CS.open {w W : World} {d m Z : Nat} {kv : Value} {ks : List (List Nat)} {T : Nat} (h : CS w W d m Z kv ks T true) (hZ : 16 ≤ Z) :
    Calls Tryz.prog 10 #[.pointer (some ⟨d, 0, none⟩), .string sLog, .int .i64 (Z : Nat)] W fun e W' => ∃ l, e = .returned (.tuple #[.pointer (some ⟨l, 0, none⟩), .int .i64 0]) ∧ CO w W' l d m Z kv ks T := by
  obtain ⟨s, q, O, I, qs, t, us, h1, h2, h3, h4, h5⟩ := h.ex
  refine (wopen_at w d m s q O Z 61 I qs t W h1 h2 hZ).mono ?_
  rintro e W' ⟨l, rfl, s', q', O', sv', pv', g1, g2, g3, g4⟩
  refine ⟨l, rfl, s', q', O', sv', pv', I, qs, us, g1, g2, h3, h4.fr g4 h5, fun g hg ho => ?_⟩
  rcases g3 g ho with e | e
  · exact h5 g hg e
  · have := (h4.row.lt g hg).2
    omega
theorem CO.open {w W : World} {l1 d m Z : Nat} {kv : Value} {ks : List (List Nat)} {T : Nat} (h : CO w W l1 d m Z kv ks T) (hZ : 16 ≤ Z) (hT : T ≤ ks.length) :
    Calls Tryz.prog 10 #[.pointer (some ⟨d, 0, none⟩), .string sLog, .int .i64 (Z : Nat)] W fun e W' => ∃ l, e = .returned (.tuple #[.pointer (some ⟨l, 0, none⟩), .int .i64 0]) ∧ CP w W' l1 l d m Z kv ks T := by
  obtain ⟨s, q, O, sv, pv, I, qs, us, h1, h2, h3, h4, h5⟩ := h.ex
  refine (wopen_at w d m s q O Z 61 I qs [] W h1.ds h2.lt hZ).mono ?_
  rintro e W' ⟨l, rfl, s', q', O', sv', pv', g1, g2, g3, g4⟩
  have hlen : (LM.of sLog Z (I ++ [qs])).pls.length = T := by
    have := congrArg List.length h3
    rw [List.length_append, List.length_take] at this
    rw [of_plen]
    omega
  have ho : Old1 W l1 d T O := ⟨_, sv, pv, h1.G, hlen, fun k hk => by
    rcases hk with rfl | hk | hk
    · exact h1.al
    · exact h1.asv k hk
    · exact h1.ap k hk⟩
  refine ⟨l, rfl, s', q', O', sv', pv', I, qs, us, g1, g2, h3, h4.fr g4 (fun g hg e => h5 g hg (.inl e)), fun g hg hx => ?_, ho.go g4 (fun _ h => h) g3⟩
  rcases g3 g hx with e | e
  · exact h5 g hg (.inl e)
  · have := (h4.row.lt g hg).2
    omega
theorem CO.len {w W : World} {l d m Z : Nat} {kv : Value} {ks : List (List Nat)} {T : Nat} (h : CO w W l d m Z kv ks T) (hT : T ≤ ks.length) : Calls Tryz.prog 12 #[.pointer (some ⟨l, 0, none⟩)] W fun e w' => e = .returned (.int .i64 (T : Nat)) ∧ w' = W := by
  obtain ⟨s, q, O, sv, pv, I, qs, us, h1, h2, h3, h4, h5⟩ := h.ex
  have hlen : (LM.of sLog Z (I ++ [qs])).pls.length = T := by
    have := congrArg List.length h3
    rw [List.length_append, List.length_take] at this
    rw [of_plen]
    omega
  have := wlen_any l d (LM.of sLog Z (I ++ [qs])) sv pv W h1.G
  rw [hlen] at this
  exact this
theorem CO.holds {w W : World} {l d m Z : Nat} {ao : Option Addr} {cap : Nat} {ks : List (List Nat)} {T : Nat} (h : CO w W l d m Z (.slice ao ks.length cap) ks T) (hT : T ≤ ks.length) : Calls Tryz.prog 34 #[.pointer (some ⟨l, 0, none⟩), .slice ao T cap] W fun e W' => e = .returned (.bool true) ∧ CO w W' l d m Z (.slice ao ks.length cap) ks T := by
  obtain ⟨s, q, O, sv, pv, I, qs, us, h1, h2, h3, h4, h5⟩ := h.ex
  have := holds_of w l d m s q O sv pv Z 61 I qs (ks.take T) ao cap W h1 h2 h3 (h4.rds h1.fr T)
  rw [show (ks.take T).length = T by rw [List.length_take]; omega] at this
  refine this.mono ?_
  rintro e W' ⟨rfl, hf⟩
  exact ⟨rfl, s, q, O, sv, pv, I, qs, us, h1.quiet hf, h2, h3, h4.fr hf (fun _ _ h => h), h5⟩
theorem CP.quiet {w W W' : World} {l1 l d m Z : Nat} {kv : Value} {ks : List (List Nat)} {T : Nat} (h : CP w W l1 l d m Z kv ks T) (hf : Fr (fun _ => False) W W') : CP w W' l1 l d m Z kv ks T := by
  obtain ⟨s, q, O, sv, pv, I, qs, us, h1, h2, h3, h4, h5, h6⟩ := h.ex
  exact ⟨s, q, O, sv, pv, I, qs, us, h1.quiet hf, h2, h3, h4.fr hf (fun _ _ h => h), h5, h6.go hf (fun _ h => h.elim) (fun _ h => .inl h)⟩
theorem CP.holds {w W : World} {l1 l d m Z : Nat} {ao : Option Addr} {cap : Nat} {ks : List (List Nat)} {T : Nat} (h : CP w W l1 l d m Z (.slice ao ks.length cap) ks T) (hT : T ≤ ks.length) : Calls Tryz.prog 34 #[.pointer (some ⟨l, 0, none⟩), .slice ao T cap] W fun e W' => e = .returned (.bool true) ∧ CP w W' l1 l d m Z (.slice ao ks.length cap) ks T := by
  obtain ⟨s, q, O, sv, pv, I, qs, us, h1, h2, h3, h4, h5, h6⟩ := h.ex
  have := holds_of w l d m s q O sv pv Z 61 I qs (ks.take T) ao cap W h1 h2 h3 (h4.rds h1.fr T)
  rw [show (ks.take T).length = T by rw [List.length_take]; omega] at this
  refine this.mono ?_
  rintro e W' ⟨rfl, hf⟩
  exact ⟨rfl, h.quiet hf⟩
theorem CP.len1 {w W : World} {l1 l d m Z : Nat} {kv : Value} {ks : List (List Nat)} {T : Nat} (h : CP w W l1 l d m Z kv ks T) : Calls Tryz.prog 12 #[.pointer (some ⟨l1, 0, none⟩)] W fun e w' => e = .returned (.int .i64 (T : Nat)) ∧ w' = W := by
  obtain ⟨s, q, O, sv, pv, I, qs, us, h1, h2, h3, h4, h5, h6⟩ := h.ex
  exact h6.len
theorem src9 (W : World) : Src (W.alloc (.cells #[.int .u8 9] 5)) (.slice (some ⟨W.heap.size, 0, none⟩) 1 1) [9] := lit_srcW W [9] #[.int .u8 9] 1 (by simp [cellsOf, B])
theorem CP.append {w W : World} {l1 l d m Z : Nat} {kv : Value} {ks : List (List Nat)} {T : Nat} (h : CP w W l1 l d m Z kv ks T) (hZ : 16 ≤ Z) (hT : T ≤ ks.length) (hk : ks.length ≤ 61) :
    Calls Tryz.prog 13 #[.pointer (some ⟨l, 0, none⟩), .slice (some ⟨W.heap.size, 0, none⟩) 1 1] (W.alloc (.cells #[.int .u8 9] 5)) fun e W' => e = .returned (.tuple #[.int .i64 (T : Nat), .int .i64 0]) ∧ CQ w W' l1 l d m Z T false := by
  obtain ⟨s, q, O, sv, pv, I, qs, us, h1, h2, h3, h4, h5, h6⟩ := h.ex
  have hlen : I.flatten.length + qs.length = T := by
    have := congrArg List.length h3
    rw [List.length_append, List.length_take] at this
    omega
  have hbx := box1 W (.cells #[.int .u8 9] 5)
  refine (wap_any2 w l d m s q O sv pv _ Z qs.length 61 I qs [9] _ (h1.quiet hbx) h2 (src9 W) (fun g o n c e ho => by
    cases e
    have := h1.lt ho
    omega) (by show 1 + 12 ≤ Z; omega) (by omega) (by decide)).mono ?_
  rintro e W' ⟨rfl, s', q', O', sv', pv', I', qs', j', g1, g2, g3, _, g5, g6⟩
  refine ⟨by rw [hlen], s', q', O', sv', pv', I', qs', j', g1, g2, ?_, ?_, (h6.go hbx (fun _ h => h.elim) (fun _ h => .inl h)).go g6 (fun _ h => h) g5, fun e => by cases e⟩
  · rw [g3, List.getElem?_append_right (by rw [List.length_append]; omega), List.length_append, hlen, Nat.sub_self]
    rfl
  · have := congrArg List.length g3
    simp only [List.length_append, List.length_singleton] at this
    omega
theorem CQ.quiet {w W W' : World} {l1 l d m Z T : Nat} {full : Bool} (h : CQ w W l1 l d m Z T full) (hf : Fr (fun _ => False) W W') : CQ w W' l1 l d m Z T full := by
  obtain ⟨s, q, O, sv, pv, I, qs, j, h1, h2, h3, h4, h5, h6⟩ := h.ex
  exact ⟨s, q, O, sv, pv, I, qs, j, h1.quiet hf, h2, h3, h4, h5.go hf (fun _ h => h.elim) (fun _ h => .inl h), h6⟩
theorem CQ.fr {w W : World} {l1 l d m Z T : Nat} {full : Bool} (h : CQ w W l1 l d m Z T full) : Fr (fun _ => False) w W := by
  obtain ⟨s, q, O, sv, pv, I, qs, j, h1, _⟩ := h.ex
  exact h1.fr
theorem CQ.len1 {w W : World} {l1 l d m Z T : Nat} {full : Bool} (h : CQ w W l1 l d m Z T full) : Calls Tryz.prog 12 #[.pointer (some ⟨l1, 0, none⟩)] W fun e w' => e = .returned (.int .i64 (T : Nat)) ∧ w' = W := by
  obtain ⟨s, q, O, sv, pv, I, qs, j, h1, h2, h3, h4, h5, h6⟩ := h.ex
  exact h5.len
theorem CQ.at {w W : World} {l1 l d m Z T : Nat} {full : Bool} (h : CQ w W l1 l d m Z T full) : Calls Tryz.prog 20 #[.pointer (some ⟨l, 0, none⟩), .int .i64 (T : Nat)] W fun e W' => ∃ v, e = .returned (.tuple #[v, .int .i64 0]) ∧ Src W' v [9] ∧ CQ w W' l1 l d m Z T full := by
  obtain ⟨s, q, O, sv, pv, I, qs, j, h1, h2, h3, h4, h5, h6⟩ := h.ex
  refine (wat_of w l d m s q O sv pv Z j 62 I qs T [9] W h1 h2 h3).mono ?_
  rintro e W' ⟨v, rfl, g1, g2⟩
  exact ⟨v, rfl, own_src g1, h.quiet g2⟩
theorem CQ.sync {w W : World} {l1 l d m Z T : Nat} {full : Bool} (h : CQ w W l1 l d m Z T full) : Calls Tryz.prog 19 #[.pointer (some ⟨l, 0, none⟩)] W fun e W' => e = .returned (.int .i64 0) ∧ CQ w W' l1 l d m Z T true := by
  obtain ⟨s, q, O, sv, pv, I, qs, j, h1, h2, h3, h4, h5, h6⟩ := h.ex
  have ilen : (I.map (fun ps => (fby ps).length)).length = I.length := List.length_map _
  have hn := h2.n
  have := wlsync_any w l d m (LM.of sLog Z (I ++ [qs])) s q O sv pv _ _ W h1 (of_segs ..) (by rw [ilen]; omega) (by show (3 : Nat) ≤ 32; decide) h2.good.off (by rw [ilen]; exact h2.has (Nat.le_refl _))
  rw [ilen] at this
  refine this.mono ?_
  rintro e W' ⟨rfl, q', O', g1, g2, g3⟩
  refine ⟨rfl, _, q', O', sv, pv, I, qs, qs.length, g1, h2.sync, h3, h4, h5.go g3 (fun _ h => .inl h) (fun k hk => ?_), fun _ => rfl⟩
  rcases hk with e | e
  · exact (g2 k e).imp .inl id
  · exact .inl (.inr e)
theorem CQ.synced {w W : World} {l1 l d m Z T : Nat} (h : CQ w W l1 l d m Z T true) : Calls Tryz.prog 14 #[.pointer (some ⟨l, 0, none⟩)] W fun e W' => e = .returned (.int .i64 ((T + 1 : Nat) : Int)) ∧ Fr (fun _ => False) w W' := by
  obtain ⟨s, q, O, sv, pv, I, qs, j, h1, h2, h3, h4, h5, h6⟩ := h.ex
  have := wsyn_of w l d m s q O sv pv Z j 62 I qs W h1 h2
  rw [h6 rfl, h4] at this
  refine this.mono ?_
  rintro e W' ⟨rfl, hf⟩
  exact ⟨rfl, h1.fr.trans hf (fun _ _ h => h)⟩
end Go.Proofs.YtmmaddlphclpnaaGreatDoor

namespace Go.Proofs.YtmmaddlphclpnaaGreatDoor
open Go.RowKit Go.ChangeShapes Go.WideShapes Go.Maps Go.Sort

theorem CO.quiet {w W W' : World} {l d m Z : Nat} {kv : Value} {ks : List (List Nat)} {T : Nat} (h : CO w W l d m Z kv ks T) (hf : Fr (fun _ => False) W W') : CO w W' l d m Z kv ks T := by
  obtain ⟨s, q, O, sv, pv, I, qs, us, h1, h2, h3, h4, h5⟩ := h.ex
  exact ⟨s, q, O, sv, pv, I, qs, us, h1.quiet hf, h2, h3, h4.fr hf (fun _ _ h => h), h5⟩
theorem LX.upV {s : DM} {Z : Nat} {I : List (List (List Nat))} {qs : List (List Nat)} {c j V V' : Nat} (h : LX s Z I qs c j V) (hV : V ≤ V') (h2 : V' < 1000000000) : LX s Z I qs c j V' := ⟨h.full, h.lim, h.fl, h.cle, h.jle, h.ne, h.few, h.sg, h.pay, h.z, Nat.le_trans h.wr hV, h2⟩
/-- append(kept, p) behind a torn Append. -/
theorem torn_more {w W' : World} {d m Z SF : Nat} {ks : List (List Nat)} {kv : Value} {p : List Nat} {uo : Option Addr} {uc : Nat} (h : ∃ s q O I qs c j us, DS w W' d m s q O ∧ LX s Z I qs c j 61 ∧ I.flatten ++ qs = ks ++ [p] ∧ KV w W' kv ks us ∧ (∀ g, kv.ownBlock = some g → ¬ O g) ∧ SF ≤ I.flatten.length + j) (hu : Src w (.slice uo p.length uc) p) (huc : p.length ≤ uc) (hk : ks.length ≤ 1000) :
    ∃ ao cap w', (Builtin.append_ #[67, 67] 67 #[kv, .slice (some ⟨W'.heap.size, 0, none⟩) 1 1]).run Tryz.prog (W'.alloc (.cells #[.slice uo p.length uc] 35)) = .ok (.slice ao (ks.length + 1) cap) w' ∧ CR w w' d m Z (.slice ao (ks.length + 1) cap) (ks ++ [p]) SF := by
  obtain ⟨s, q, O, I, qs, c, j, us, h1, h2, h3, h4, h5, h6⟩ := h
  have hrow := h4.row
  have hul := h4.len
  rw [← hul] at hrow
  obtain ⟨ao, cap, w', hr, hown, hf, hb⟩ := app_sl W' w.heap.size kv us uo p.length uc hrow h1.fr.size (by omega)
  rw [hul] at hr hown hb
  refine ⟨ao, cap, w', hr, s, q, O, I, qs, c, j, us ++ [.slice uo p.length uc], ⟨h1.D.fr hf (fun k hk e => h5 k e hk), h1.fr.absorb hf (fun k hk => (h4.row.lt k hk).1), h1.o⟩, h2, h3, ⟨by simp [hul], by rw [List.length_append, List.length_singleton]; exact hown, fun j u p' hu' hp' => ?_⟩, fun g hg ho => ?_, h6⟩
  · rcases Nat.lt_or_ge j ks.length with hj | hj
    · rw [List.getElem?_append_left (by omega)] at hu' hp'
      exact h4.el j u p' hu' hp'
    · rw [List.getElem?_append_right (by omega)] at hu' hp'
      have hj0 : j - ks.length = 0 := by
        have := (List.getElem?_eq_some_iff.1 hp').1
        simp at this
        omega
      rw [hul, hj0] at hu'
      rw [hj0] at hp'
      simp at hu' hp'
      subst hu' hp'
      exact ⟨⟨uo, uc, rfl, huc⟩, hu⟩
  · rcases hb g hg with e | e
    · exact h5 g e ho
    · have := h1.D.lt g ho
      omega
theorem CR.cap {w W : World} {d m Z : Nat} {ao : Option Addr} {cap : Nat} {ks : List (List Nat)} {SF : Nat} (h : CR w W d m Z (.slice ao ks.length cap) ks SF) : ks.length ≤ cap := by
  obtain ⟨s, q, O, I, qs, c, j, us, h1, h2, h3, h4, h5, h6⟩ := h.ex
  exact h4.cap
end Go.Proofs.YtmmaddlphclpnaaGreatDoor

namespace Go.Proofs.YtmmaddlphclpnaaGreatDoor
open Go.RowKit Go.ChangeShapes Go.WideShapes Go.Maps Go.Sort

set_option maxHeartbeats 16000000 in
set_option maxRecDepth 100000 in
theorem wrecov_a (size synced keep torn b : Int) (xo : Option Addr) (xc : Nat) (pays : List (List Nat)) (w : World) (hP : KJ w xo pays) (hl : pays.length < 9223372036854775808) (hkp : keep ≤ 9223372036854775807) (hc1 : ¬ 0 < torn) :
    Calls Tryz.prog 5 #[.int .i64 size, .slice xo pays.length xc, .int .i64 synced, .int .i64 keep, .int .i64 torn, .int .i64 b] w fun e w' => e = .returned (.bool true) ∧ Fr (fun _ => False) w w' := by
  have hzz := segZ_lt size
  have HP := hide hP
  clear hP
  go_enter Tryz.func5, Tryz.ntmps5
  go_wp2_with fail
  refine (awake9 w).mono ?_
  rintro e w1 ⟨rfl, hf1⟩
  have H1 := hide hf1
  clear hf1
  go_wp2_with fail
  refine (begun_any w size synced xo xc pays w1 (unhide H1) (unhide HP) hl).mono ?_
  rintro e w2 ⟨l, d, m, kv, rfl, hB⟩
  have hks60 : (kps (segZ size) pays (min pays.length 60)).length ≤ 60 := by rw [kps_len _ _ _ (by omega)]; omega
  obtain ⟨ks, hks⟩ : ∃ ks, ks = kps (segZ size) pays (min pays.length 60) := ⟨_, rfl⟩
  rw [← hks] at hB hks60
  clear hks
  obtain ⟨ao, cap, rfl⟩ := hB.kv
  obtain ⟨s, q, O, sv, pv, I, ps, j, us, g1, g2, g3, g4, g5, g6⟩ := hB.ex
  generalize segZ size = Z at *
  have HS := hide (wsyn_of w l d m s q O sv pv Z j 60 I ps w2 g1 g2)
  have G := hide (And.intro g1 (And.intro g2 (And.intro g3 (And.intro g4 g5))))
  clear hB g1 g2 g3 g4 g5 g6 H1
  obtain ⟨SF, hSF⟩ : ∃ SF, SF = I.flatten.length + j := ⟨_, rfl⟩
  rw [← hSF] at HS
  have HSF := hide hSF
  clear hSF
  go_wp2_with fail
  refine (unhide HS).mono ?_
  rintro e w3 ⟨rfl, hf3⟩
  have H3 := hide hf3
  clear hf3 HS
  have HC := hide (show CR w w3 d m Z (.slice ao ks.length cap) ks SF from ⟨s, q, O, I, ps, _, j, us, ((unhide G).1.quiet (unhide H3)).ds, ((unhide G).2.1.lx (by decide)).upV (by decide) (by decide), (unhide G).2.2.1, (unhide G).2.2.2.1.fr (unhide H3) (fun _ _ h => h), fun g hg ho => (unhide G).2.2.2.2 g hg (.inl ho), by rw [unhide HSF]; exact Nat.le_refl _⟩)
  have hk61 : ks.length ≤ 61 := by omega
  obtain ⟨KS, hKS⟩ : ∃ KS, KS = ks := ⟨_, rfl⟩
  rw [← hKS] at HC hk61 ⊢
  clear hKS G H3 HSF HP
  have hcap := (unhide HC).cap
  go_wp2_with fail
  refine ((unhide HC).crash keep hkp).mono ?_
  rintro e c1 ⟨rfl, T, hT1, hT2, hS1⟩
  have H1 := hide hS1
  clear hS1 HC
  have t1 : ¬ (T : Int) < (SF : Int) := by omega
  have t2 : ¬ (KS.length : Int) < (T : Int) := by omega
  have t3 : (T : Int) ≤ (cap : Int) := by omega
  have t4 : IntKind.i64.wrap ((T : Int) + 1) = (T : Int) + 1 := by rw [IntKind.wrap_i64]; omega
  go_wp2_with fail
  refine (unhide H1).start.mono ?_
  rintro e c2 ⟨rfl, hS2⟩
  have H2 := hide hS2
  clear hS2 H1
  go_wp2_with fail
  refine ((unhide H2).open hzz.1).mono ?_
  rintro e c3 ⟨l1, rfl, hO3⟩
  have H3 := hide hO3
  clear hO3 H2
  go_wp2_with fail
  refine ((unhide H3).len hT2).mono ?_
  rintro e wx ⟨rfl, rfl⟩
  go_wp2_with fail
  refine ((unhide H3).len hT2).mono ?_
  rintro e wx ⟨rfl, rfl⟩
  go_wp2_with fail
  refine ((unhide H3).len hT2).mono ?_
  rintro e wx ⟨rfl, rfl⟩
  go_wp2_with fail
  refine ((unhide H3).holds hT2).mono ?_
  rintro e c4 ⟨rfl, hO4⟩
  have H4 := hide hO4
  clear hO4 H3
  go_wp2_with fail
  refine ((unhide H4).open hzz.1 hT2).mono ?_
  rintro e c5 ⟨l2, rfl, hP5⟩
  have H5 := hide hP5
  clear hP5 H4
  go_wp2_with fail
  refine ((unhide H5).len1).mono ?_
  rintro e wx ⟨rfl, rfl⟩
  go_wp2_with fail
  refine ((unhide H5).holds hT2).mono ?_
  rintro e c6 ⟨rfl, hP6⟩
  have H6 := hide hP6
  clear hP6 H5
  go_wp2_with fail
  refine ((unhide H6).append hzz.1 hT2 hk61).mono ?_
  rintro e c7 ⟨rfl, hQ7⟩
  have H7 := hide hQ7
  clear hQ7 H6
  go_wp2_with fail
  refine ((unhide H7).len1).mono ?_
  rintro e wx ⟨rfl, rfl⟩
  go_wp2_with fail
  refine (unhide H7).at.mono ?_
  rintro e c8 ⟨v8, rfl, hv8, hQ8⟩
  obtain ⟨vo8, vc8, rfl⟩ := hv8.form
  have HSM := hide (same_any (.slice vo8 [9].length vc8) (.slice (some ⟨c8.heap.size, 0, none⟩) 1 1) [9] [9] _ (hv8.fr0 (box1 c8 (.cells #[.int .u8 9] 5))) (src9 c8) (by decide))
  rw [show sameB [9] [9] = true by decide] at HSM
  have H8 := hide (hQ8.quiet (box1 c8 (.cells #[.int .u8 9] 5)))
  clear hv8 hQ8 H7
  go_wp2_with fail
  refine (unhide HSM).mono ?_
  rintro e c9 ⟨rfl, n9, rfl⟩
  have H9 := hide ((unhide H8).quiet ((Fr.refl (fun _ => False) _).drewN n9))
  clear H8 HSM
  go_wp2_with fail
  refine (unhide H9).sync.mono ?_
  rintro e c10 ⟨rfl, hQ10⟩
  have H10 := hide hQ10
  clear hQ10 H9
  go_wp2_with fail
  refine (unhide H10).synced.mono ?_
  rintro e c11 ⟨rfl, hf11⟩
  have H11 := hide hf11
  clear hf11 H10
  go_wp2_with fail
  go_ret
  exact ⟨rfl, unhide H11⟩
end Go.Proofs.YtmmaddlphclpnaaGreatDoor

namespace Go.Proofs.YtmmaddlphclpnaaGreatDoor
open Go.RowKit Go.ChangeShapes Go.WideShapes Go.Maps Go.Sort

set_option maxHeartbeats 16000000 in
set_option maxRecDepth 100000 in
theorem wrecov_b (size synced keep torn b : Int) (xo : Option Addr) (xc : Nat) (pays : List (List Nat)) (w : World) (hP : KJ w xo pays) (hl : pays.length < 9223372036854775808) (hkp : keep ≤ 9223372036854775807) (hc1 : 0 < torn) (hc2 : ¬ 0 ≤ b) :
    Calls Tryz.prog 5 #[.int .i64 size, .slice xo pays.length xc, .int .i64 synced, .int .i64 keep, .int .i64 torn, .int .i64 b] w fun e w' => e = .returned (.bool true) ∧ Fr (fun _ => False) w w' := by
  have hzz := segZ_lt size
  have HP := hide hP
  clear hP
  go_enter Tryz.func5, Tryz.ntmps5
  go_wp2_with fail
  refine (awake9 w).mono ?_
  rintro e w1 ⟨rfl, hf1⟩
  have H1 := hide hf1
  clear hf1
  go_wp2_with fail
  refine (begun_any w size synced xo xc pays w1 (unhide H1) (unhide HP) hl).mono ?_
  rintro e w2 ⟨l, d, m, kv, rfl, hB⟩
  have hks60 : (kps (segZ size) pays (min pays.length 60)).length ≤ 60 := by rw [kps_len _ _ _ (by omega)]; omega
  obtain ⟨ks, hks⟩ : ∃ ks, ks = kps (segZ size) pays (min pays.length 60) := ⟨_, rfl⟩
  rw [← hks] at hB hks60
  clear hks
  obtain ⟨ao, cap, rfl⟩ := hB.kv
  obtain ⟨s, q, O, sv, pv, I, ps, j, us, g1, g2, g3, g4, g5, g6⟩ := hB.ex
  generalize segZ size = Z at *
  have HS := hide (wsyn_of w l d m s q O sv pv Z j 60 I ps w2 g1 g2)
  have G := hide (And.intro g1 (And.intro g2 (And.intro g3 (And.intro g4 g5))))
  clear hB g1 g2 g3 g4 g5 g6 H1
  obtain ⟨SF, hSF⟩ : ∃ SF, SF = I.flatten.length + j := ⟨_, rfl⟩
  rw [← hSF] at HS
  have HSF := hide hSF
  clear hSF
  go_wp2_with fail
  refine (unhide HS).mono ?_
  rintro e w3 ⟨rfl, hf3⟩
  have H3 := hide hf3
  clear hf3 HS
  have HC := hide (show CR w w3 d m Z (.slice ao ks.length cap) ks SF from ⟨s, q, O, I, ps, _, j, us, ((unhide G).1.quiet (unhide H3)).ds, ((unhide G).2.1.lx (by decide)).upV (by decide) (by decide), (unhide G).2.2.1, (unhide G).2.2.2.1.fr (unhide H3) (fun _ _ h => h), fun g hg ho => (unhide G).2.2.2.2 g hg (.inl ho), by rw [unhide HSF]; exact Nat.le_refl _⟩)
  have hk61 : ks.length ≤ 61 := by omega
  obtain ⟨KS, hKS⟩ : ∃ KS, KS = ks := ⟨_, rfl⟩
  rw [← hKS] at HC hk61 ⊢
  clear hKS G H3 HSF HP
  have hcap := (unhide HC).cap
  go_wp2_with fail
  refine ((unhide HC).crash keep hkp).mono ?_
  rintro e c1 ⟨rfl, T, hT1, hT2, hS1⟩
  have H1 := hide hS1
  clear hS1 HC
  have t1 : ¬ (T : Int) < (SF : Int) := by omega
  have t2 : ¬ (KS.length : Int) < (T : Int) := by omega
  have t3 : (T : Int) ≤ (cap : Int) := by omega
  have t4 : IntKind.i64.wrap ((T : Int) + 1) = (T : Int) + 1 := by rw [IntKind.wrap_i64]; omega
  go_wp2_with fail
  refine (unhide H1).start.mono ?_
  rintro e c2 ⟨rfl, hS2⟩
  have H2 := hide hS2
  clear hS2 H1
  go_wp2_with fail
  refine ((unhide H2).open hzz.1).mono ?_
  rintro e c3 ⟨l1, rfl, hO3⟩
  have H3 := hide hO3
  clear hO3 H2
  go_wp2_with fail
  refine ((unhide H3).len hT2).mono ?_
  rintro e wx ⟨rfl, rfl⟩
  go_wp2_with fail
  refine ((unhide H3).len hT2).mono ?_
  rintro e wx ⟨rfl, rfl⟩
  go_wp2_with fail
  refine ((unhide H3).len hT2).mono ?_
  rintro e wx ⟨rfl, rfl⟩
  go_wp2_with fail
  refine ((unhide H3).holds hT2).mono ?_
  rintro e c4 ⟨rfl, hO4⟩
  have H4 := hide hO4
  clear hO4 H3
  go_wp2_with fail
  refine ((unhide H4).open hzz.1 hT2).mono ?_
  rintro e c5 ⟨l2, rfl, hP5⟩
  have H5 := hide hP5
  clear hP5 H4
  go_wp2_with fail
  refine ((unhide H5).len1).mono ?_
  rintro e wx ⟨rfl, rfl⟩
  go_wp2_with fail
  refine ((unhide H5).holds hT2).mono ?_
  rintro e c6 ⟨rfl, hP6⟩
  have H6 := hide hP6
  clear hP6 H5
  go_wp2_with fail
  refine ((unhide H6).append hzz.1 hT2 hk61).mono ?_
  rintro e c7 ⟨rfl, hQ7⟩
  have H7 := hide hQ7
  clear hQ7 H6
  go_wp2_with fail
  refine ((unhide H7).len1).mono ?_
  rintro e wx ⟨rfl, rfl⟩
  go_wp2_with fail
  refine (unhide H7).at.mono ?_
  rintro e c8 ⟨v8, rfl, hv8, hQ8⟩
  obtain ⟨vo8, vc8, rfl⟩ := hv8.form
  have HSM := hide (same_any (.slice vo8 [9].length vc8) (.slice (some ⟨c8.heap.size, 0, none⟩) 1 1) [9] [9] _ (hv8.fr0 (box1 c8 (.cells #[.int .u8 9] 5))) (src9 c8) (by decide))
  rw [show sameB [9] [9] = true by decide] at HSM
  have H8 := hide (hQ8.quiet (box1 c8 (.cells #[.int .u8 9] 5)))
  clear hv8 hQ8 H7
  go_wp2_with fail
  refine (unhide HSM).mono ?_
  rintro e c9 ⟨rfl, n9, rfl⟩
  have H9 := hide ((unhide H8).quiet ((Fr.refl (fun _ => False) _).drewN n9))
  clear H8 HSM
  go_wp2_with fail
  refine (unhide H9).sync.mono ?_
  rintro e c10 ⟨rfl, hQ10⟩
  have H10 := hide hQ10
  clear hQ10 H9
  go_wp2_with fail
  refine (unhide H10).synced.mono ?_
  rintro e c11 ⟨rfl, hf11⟩
  have H11 := hide hf11
  clear hf11 H10
  go_wp2_with fail
  go_ret
  exact ⟨rfl, unhide H11⟩
end Go.Proofs.YtmmaddlphclpnaaGreatDoor

namespace Go.Proofs.YtmmaddlphclpnaaGreatDoor
open Go.RowKit Go.ChangeShapes Go.WideShapes Go.Maps Go.Sort

set_option maxHeartbeats 16000000 in
set_option maxRecDepth 100000 in
theorem wrecov_c (size synced keep torn b : Int) (xo : Option Addr) (xc : Nat) (pays : List (List Nat)) (w : World) (hP : KJ w xo pays) (hl : pays.length < 9223372036854775808) (hkp : keep ≤ 9223372036854775807) (hc1 : 0 < torn) (hc2 : 0 ≤ b) (hc3 : ¬ 0 < pays.length) :
    Calls Tryz.prog 5 #[.int .i64 size, .slice xo pays.length xc, .int .i64 synced, .int .i64 keep, .int .i64 torn, .int .i64 b] w fun e w' => e = .returned (.bool true) ∧ Fr (fun _ => False) w w' := by
  have hzz := segZ_lt size
  have HP := hide hP
  clear hP
  go_enter Tryz.func5, Tryz.ntmps5
  go_wp2_with fail
  refine (awake9 w).mono ?_
  rintro e w1 ⟨rfl, hf1⟩
  have H1 := hide hf1
  clear hf1
  go_wp2_with fail
  refine (begun_any w size synced xo xc pays w1 (unhide H1) (unhide HP) hl).mono ?_
  rintro e w2 ⟨l, d, m, kv, rfl, hB⟩
  have hks60 : (kps (segZ size) pays (min pays.length 60)).length ≤ 60 := by rw [kps_len _ _ _ (by omega)]; omega
  obtain ⟨ks, hks⟩ : ∃ ks, ks = kps (segZ size) pays (min pays.length 60) := ⟨_, rfl⟩
  rw [← hks] at hB hks60
  clear hks
  obtain ⟨ao, cap, rfl⟩ := hB.kv
  obtain ⟨s, q, O, sv, pv, I, ps, j, us, g1, g2, g3, g4, g5, g6⟩ := hB.ex
  generalize segZ size = Z at *
  have HS := hide (wsyn_of w l d m s q O sv pv Z j 60 I ps w2 g1 g2)
  have G := hide (And.intro g1 (And.intro g2 (And.intro g3 (And.intro g4 g5))))
  clear hB g1 g2 g3 g4 g5 g6 H1
  obtain ⟨SF, hSF⟩ : ∃ SF, SF = I.flatten.length + j := ⟨_, rfl⟩
  rw [← hSF] at HS
  have HSF := hide hSF
  clear hSF
  go_wp2_with fail
  refine (unhide HS).mono ?_
  rintro e w3 ⟨rfl, hf3⟩
  have H3 := hide hf3
  clear hf3 HS
  have hc3i : ¬ (0 : Int) < (pays.length : Int) := by omega
  have HC := hide (show CR w w3 d m Z (.slice ao ks.length cap) ks SF from ⟨s, q, O, I, ps, _, j, us, ((unhide G).1.quiet (unhide H3)).ds, ((unhide G).2.1.lx (by decide)).upV (by decide) (by decide), (unhide G).2.2.1, (unhide G).2.2.2.1.fr (unhide H3) (fun _ _ h => h), fun g hg ho => (unhide G).2.2.2.2 g hg (.inl ho), by rw [unhide HSF]; exact Nat.le_refl _⟩)
  have hk61 : ks.length ≤ 61 := by omega
  obtain ⟨KS, hKS⟩ : ∃ KS, KS = ks := ⟨_, rfl⟩
  rw [← hKS] at HC hk61 ⊢
  clear hKS G H3 HSF HP
  have hcap := (unhide HC).cap
  go_wp2_with fail
  refine ((unhide HC).crash keep hkp).mono ?_
  rintro e c1 ⟨rfl, T, hT1, hT2, hS1⟩
  have H1 := hide hS1
  clear hS1 HC
  have t1 : ¬ (T : Int) < (SF : Int) := by omega
  have t2 : ¬ (KS.length : Int) < (T : Int) := by omega
  have t3 : (T : Int) ≤ (cap : Int) := by omega
  have t4 : IntKind.i64.wrap ((T : Int) + 1) = (T : Int) + 1 := by rw [IntKind.wrap_i64]; omega
  go_wp2_with fail
  refine (unhide H1).start.mono ?_
  rintro e c2 ⟨rfl, hS2⟩
  have H2 := hide hS2
  clear hS2 H1
  go_wp2_with fail
  refine ((unhide H2).open hzz.1).mono ?_
  rintro e c3 ⟨l1, rfl, hO3⟩
  have H3 := hide hO3
  clear hO3 H2
  go_wp2_with fail
  refine ((unhide H3).len hT2).mono ?_
  rintro e wx ⟨rfl, rfl⟩
  go_wp2_with fail
  refine ((unhide H3).len hT2).mono ?_
  rintro e wx ⟨rfl, rfl⟩
  go_wp2_with fail
  refine ((unhide H3).len hT2).mono ?_
  rintro e wx ⟨rfl, rfl⟩
  go_wp2_with fail
  refine ((unhide H3).holds hT2).mono ?_
  rintro e c4 ⟨rfl, hO4⟩
  have H4 := hide hO4
  clear hO4 H3
  go_wp2_with fail
  refine ((unhide H4).open hzz.1 hT2).mono ?_
  rintro e c5 ⟨l2, rfl, hP5⟩
  have H5 := hide hP5
  clear hP5 H4
  go_wp2_with fail
  refine ((unhide H5).len1).mono ?_
  rintro e wx ⟨rfl, rfl⟩
  go_wp2_with fail
  refine ((unhide H5).holds hT2).mono ?_
  rintro e c6 ⟨rfl, hP6⟩
  have H6 := hide hP6
  clear hP6 H5
  go_wp2_with fail
  refine ((unhide H6).append hzz.1 hT2 hk61).mono ?_
  rintro e c7 ⟨rfl, hQ7⟩
  have H7 := hide hQ7
  clear hQ7 H6
  go_wp2_with fail
  refine ((unhide H7).len1).mono ?_
  rintro e wx ⟨rfl, rfl⟩
  go_wp2_with fail
  refine (unhide H7).at.mono ?_
  rintro e c8 ⟨v8, rfl, hv8, hQ8⟩
  obtain ⟨vo8, vc8, rfl⟩ := hv8.form
  have HSM := hide (same_any (.slice vo8 [9].length vc8) (.slice (some ⟨c8.heap.size, 0, none⟩) 1 1) [9] [9] _ (hv8.fr0 (box1 c8 (.cells #[.int .u8 9] 5))) (src9 c8) (by decide))
  rw [show sameB [9] [9] = true by decide] at HSM
  have H8 := hide (hQ8.quiet (box1 c8 (.cells #[.int .u8 9] 5)))
  clear hv8 hQ8 H7
  go_wp2_with fail
  refine (unhide HSM).mono ?_
  rintro e c9 ⟨rfl, n9, rfl⟩
  have H9 := hide ((unhide H8).quiet ((Fr.refl (fun _ => False) _).drewN n9))
  clear H8 HSM
  go_wp2_with fail
  refine (unhide H9).sync.mono ?_
  rintro e c10 ⟨rfl, hQ10⟩
  have H10 := hide hQ10
  clear hQ10 H9
  go_wp2_with fail
  refine (unhide H10).synced.mono ?_
  rintro e c11 ⟨rfl, hf11⟩
  have H11 := hide hf11
  clear hf11 H10
  go_wp2_with fail
  go_ret
  exact ⟨rfl, unhide H11⟩
end Go.Proofs.YtmmaddlphclpnaaGreatDoor

namespace Go.Proofs.YtmmaddlphclpnaaGreatDoor
open Go.RowKit Go.ChangeShapes Go.WideShapes Go.Maps Go.Sort

set_option maxHeartbeats 16000000 in
set_option maxRecDepth 100000 in
theorem wrecov_d (size synced keep torn b : Int) (xo : Option Addr) (xc : Nat) (pays : List (List Nat)) (w : World) (hP : KJ w xo pays) (hl : pays.length < 9223372036854775808) (hkp : keep ≤ 9223372036854775807) (hc1 : 0 < torn) (hc2 : 0 ≤ b) (hbp : b ≤ 9223372036854775807) (hc3 : 0 < pays.length) (hbig : (segZ size : Int) - 12 < ((pays[0]).length : Int)) :
    Calls Tryz.prog 5 #[.int .i64 size, .slice xo pays.length xc, .int .i64 synced, .int .i64 keep, .int .i64 torn, .int .i64 b] w fun e w' => e = .returned (.bool true) ∧ Fr (fun _ => False) w w' := by
  have hzz := segZ_lt size
  have HP := hide hP
  clear hP
  go_enter Tryz.func5, Tryz.ntmps5
  go_wp2_with fail
  refine (awake9 w).mono ?_
  rintro e w1 ⟨rfl, hf1⟩
  have H1 := hide hf1
  clear hf1
  go_wp2_with fail
  refine (begun_any w size synced xo xc pays w1 (unhide H1) (unhide HP) hl).mono ?_
  rintro e w2 ⟨l, d, m, kv, rfl, hB⟩
  have hks60 : (kps (segZ size) pays (min pays.length 60)).length ≤ 60 := by rw [kps_len _ _ _ (by omega)]; omega
  obtain ⟨ks, hks⟩ : ∃ ks, ks = kps (segZ size) pays (min pays.length 60) := ⟨_, rfl⟩
  rw [← hks] at hB hks60
  clear hks
  obtain ⟨ao, cap, rfl⟩ := hB.kv
  obtain ⟨s, q, O, sv, pv, I, ps, j, us, g1, g2, g3, g4, g5, g6⟩ := hB.ex
  generalize segZ size = Z at *
  have HS := hide (wsyn_of w l d m s q O sv pv Z j 60 I ps w2 g1 g2)
  have G := hide (And.intro g1 (And.intro g2 (And.intro g3 (And.intro g4 g5))))
  clear hB g1 g2 g3 g4 g5 g6 H1
  obtain ⟨SF, hSF⟩ : ∃ SF, SF = I.flatten.length + j := ⟨_, rfl⟩
  rw [← hSF] at HS
  have HSF := hide hSF
  clear hSF
  go_wp2_with fail
  refine (unhide HS).mono ?_
  rintro e w3 ⟨rfl, hf3⟩
  have H3 := hide hf3
  clear hf3 HS
  have hc3i : (0 : Int) < (pays.length : Int) := by omega
  obtain ⟨bt, rfl⟩ : ∃ bt : Nat, b = (bt : Int) := ⟨b.toNat, by omega⟩
  obtain ⟨g, o, ho, hc, hxo, hcell, hsrc, hcap0, hplen⟩ := (unhide HP).at ((unhide G).1.fr.trans (unhide H3) (fun _ _ h => h)) hc3
  rw [Nat.add_zero] at hcell
  generalize hPP : pays[0] = P at hcell hsrc hcap0 hplen hbig
  clear hPP
  obtain ⟨N, hN⟩ : ∃ N, N = (P.take (Z - 12)).length := ⟨_, rfl⟩
  have hNm : N = min (Z - 12) P.length := by rw [hN, List.length_take]
  have hsrcN : Src w (.slice ho N hc) (P.take (Z - 12)) := by
    have := hsrc.takeN (min (Z - 12) P.length) (by omega)
    rw [take_min, ← hNm] at this
    exact this
  have HY := hide (And.intro hsrcN (And.intro hN (show N ≤ hc by omega)))
  have hw12 : IntKind.i64.wrap ((Z : Int) - 12) = (Z : Int) - 12 := by rw [IntKind.wrap_i64]; omega
  have hNZ : N + 12 ≤ Z := by omega
  subst hxo
  clear hsrc hsrcN hN HP
  have s0 : (0 : Int) ≤ (Z : Int) - 12 := by omega
  have s1 : (Z : Int) - 12 ≤ (hc : Int) := by omega
  have s3 : ((Z : Int) - 12).toNat = N := by omega
  clear hplen hcap0 hNm
  go_wp2_with fail
  refine (arm_ok d m s q O 1 (bt : Nat) w3 ((unhide G).1.quiet (unhide H3)).D (unhide G).2.1.good.off (by decide) (by omega)).mono ?_
  rintro e w4 ⟨rfl, hD4, hf4⟩
  have hfO : Fr O w3 w4 := hf4.mono (fun k _ e => by rw [e]; exact (unhide G).1.D.od)
  have hW4 : WL w w4 l d m (LM.of sLog Z (I ++ [ps])) (s.armed bt) q O sv pv := ((unhide G).1.quiet (unhide H3)).disk hD4 hfO (fun _ h => .inl h)
  have hlen : I.flatten.length + ps.length = ks.length := by rw [← (unhide G).2.2.1, List.length_append]
  have HAP := hide (warm_any w l d m s q O sv pv (.slice ho N hc) Z j 60 bt I ps (P.take (Z - 12)) w4 hW4 (unhide G).2.1 (unhide HY).1 (by have := (unhide HY).2.1; omega) (by omega) (by decide) (by omega))
  have hkv4 : KV w w4 (.slice ao ks.length cap) ks us := ((unhide G).2.2.2.1.fr (unhide H3) (fun _ _ h => h)).fr hfO (fun g hg ho => (unhide G).2.2.2.2 g hg (.inl ho))
  have H4 := hide (And.intro hkv4 hlen)
  clear hD4 hf4 hfO hW4 hlen hkv4 H3
  go_wp2_with fail
  refine (unhide HAP).mono ?_
  rintro e w5 ⟨rfl, s5, q5, O5, I5, qs5, c5, j5, hD5, hX5, ho5, he5, hj5, hO5, hf5⟩
  have HOF := hide (off_any d m s5 q5 O5 w5 hD5.D)
  rw [ho5] at HOF
  have hex : ∃ s q O I qs c j us, DS w w5 d m s q O ∧ LX s Z I qs c j 61 ∧ I.flatten ++ qs = ks ++ [P.take (Z - 12)] ∧ KV w w5 (.slice ao ks.length cap) ks us ∧ (∀ g, (Value.slice ao ks.length cap).ownBlock = some g → ¬ O g) ∧ SF ≤ I.flatten.length + j := by
    refine ⟨s5, q5, O5, I5, qs5, c5, j5, us, hD5, hX5, by rw [he5, (unhide G).2.2.1], (unhide H4).1.fr hf5 (unhide G).2.2.2.2, fun g hg ho => ?_, by rw [unhide HSF]; exact hj5⟩
    rcases hO5 g ho with e | e
    · exact (unhide G).2.2.2.2 g hg e
    · have := ((unhide H4).1.row.lt g hg).2
      omega
  obtain ⟨ao6, cap6, w6, hr6, hC6⟩ := torn_more hex (by rw [← (unhide HY).2.1]; exact (unhide HY).1) (by rw [← (unhide HY).2.1]; exact (unhide HY).2.2) (by omega)
  have hkl : (ks ++ [P.take (Z - 12)]).length = ks.length + 1 := by simp
  rw [← (unhide HY).2.1] at hr6
  have HR6 := hide hr6
  have hk61 : (ks ++ [P.take (Z - 12)]).length ≤ 61 := by omega
  obtain ⟨KS, hKS⟩ : ∃ KS, KS = ks ++ [P.take (Z - 12)] := ⟨_, rfl⟩
  rw [← hKS] at hC6 hk61 hkl
  rw [← hkl] at hC6 HR6
  have HC := hide hC6
  obtain ⟨cap0, hcap0⟩ : ∃ c, c = cap := ⟨_, rfl⟩
  clear hD5 hX5 ho5 he5 hj5 hO5 hf5 hex hr6 hC6 hKS G H4 HSF HY HAP hcap0 cap0
  go_wp2_with fail
  refine (unhide HOF).mono ?_
  rintro e wx ⟨rfl, rfl⟩
  clear HOF
  go_wp2_with (at_builtin; refine wpList_app rfl _ _ 67 67 rfl _ _ _ rfl rfl (unhide HR6) ?_; clear HR6)
  have hcap := (unhide HC).cap
  refine ((unhide HC).crash keep hkp).mono ?_
  rintro e c1 ⟨rfl, T, hT1, hT2, hS1⟩
  have H1 := hide hS1
  clear hS1 HC
  have t1 : ¬ (T : Int) < (SF : Int) := by omega
  have t2 : ¬ (KS.length : Int) < (T : Int) := by omega
  have t3 : (T : Int) ≤ (cap6 : Int) := by omega
  have t4 : IntKind.i64.wrap ((T : Int) + 1) = (T : Int) + 1 := by rw [IntKind.wrap_i64]; omega
  go_wp2_with fail
  refine (unhide H1).start.mono ?_
  rintro e c2 ⟨rfl, hS2⟩
  have H2 := hide hS2
  clear hS2 H1
  go_wp2_with fail
  refine ((unhide H2).open hzz.1).mono ?_
  rintro e c3 ⟨l1, rfl, hO3⟩
  have H3 := hide hO3
  clear hO3 H2
  go_wp2_with fail
  refine ((unhide H3).len hT2).mono ?_
  rintro e wx ⟨rfl, rfl⟩
  go_wp2_with fail
  refine ((unhide H3).len hT2).mono ?_
  rintro e wx ⟨rfl, rfl⟩
  go_wp2_with fail
  refine ((unhide H3).len hT2).mono ?_
  rintro e wx ⟨rfl, rfl⟩
  go_wp2_with fail
  refine ((unhide H3).holds hT2).mono ?_
  rintro e c4 ⟨rfl, hO4⟩
  have H4 := hide hO4
  clear hO4 H3
  go_wp2_with fail
  refine ((unhide H4).open hzz.1 hT2).mono ?_
  rintro e c5 ⟨l2, rfl, hP5⟩
  have H5 := hide hP5
  clear hP5 H4
  go_wp2_with fail
  refine ((unhide H5).len1).mono ?_
  rintro e wx ⟨rfl, rfl⟩
  go_wp2_with fail
  refine ((unhide H5).holds hT2).mono ?_
  rintro e c6 ⟨rfl, hP6⟩
  have H6 := hide hP6
  clear hP6 H5
  go_wp2_with fail
  refine ((unhide H6).append hzz.1 hT2 hk61).mono ?_
  rintro e c7 ⟨rfl, hQ7⟩
  have H7 := hide hQ7
  clear hQ7 H6
  go_wp2_with fail
  refine ((unhide H7).len1).mono ?_
  rintro e wx ⟨rfl, rfl⟩
  go_wp2_with fail
  refine (unhide H7).at.mono ?_
  rintro e c8 ⟨v8, rfl, hv8, hQ8⟩
  obtain ⟨vo8, vc8, rfl⟩ := hv8.form
  have HSM := hide (same_any (.slice vo8 [9].length vc8) (.slice (some ⟨c8.heap.size, 0, none⟩) 1 1) [9] [9] _ (hv8.fr0 (box1 c8 (.cells #[.int .u8 9] 5))) (src9 c8) (by decide))
  rw [show sameB [9] [9] = true by decide] at HSM
  have H8 := hide (hQ8.quiet (box1 c8 (.cells #[.int .u8 9] 5)))
  clear hv8 hQ8 H7
  go_wp2_with fail
  refine (unhide HSM).mono ?_
  rintro e c9 ⟨rfl, n9, rfl⟩
  have H9 := hide ((unhide H8).quiet ((Fr.refl (fun _ => False) _).drewN n9))
  clear H8 HSM
  go_wp2_with fail
  refine (unhide H9).sync.mono ?_
  rintro e c10 ⟨rfl, hQ10⟩
  have H10 := hide hQ10
  clear hQ10 H9
  go_wp2_with fail
  refine (unhide H10).synced.mono ?_
  rintro e c11 ⟨rfl, hf11⟩
  have H11 := hide hf11
  clear hf11 H10
  go_wp2_with fail
  go_ret
  exact ⟨rfl, unhide H11⟩
end Go.Proofs.YtmmaddlphclpnaaGreatDoor

namespace Go.Proofs.YtmmaddlphclpnaaGreatDoor
open Go.RowKit Go.ChangeShapes Go.WideShapes Go.Maps Go.Sort

set_option maxHeartbeats 16000000 in
set_option maxRecDepth 100000 in
theorem wrecov_e (size synced keep torn b : Int) (xo : Option Addr) (xc : Nat) (pays : List (List Nat)) (w : World) (hP : KJ w xo pays) (hl : pays.length < 9223372036854775808) (hkp : keep ≤ 9223372036854775807) (hc1 : 0 < torn) (hc2 : 0 ≤ b) (hbp : b ≤ 9223372036854775807) (hc3 : 0 < pays.length) (hbig : ¬ (segZ size : Int) - 12 < ((pays[0]).length : Int)) :
    Calls Tryz.prog 5 #[.int .i64 size, .slice xo pays.length xc, .int .i64 synced, .int .i64 keep, .int .i64 torn, .int .i64 b] w fun e w' => e = .returned (.bool true) ∧ Fr (fun _ => False) w w' := by
  have hzz := segZ_lt size
  have HP := hide hP
  clear hP
  go_enter Tryz.func5, Tryz.ntmps5
  go_wp2_with fail
  refine (awake9 w).mono ?_
  rintro e w1 ⟨rfl, hf1⟩
  have H1 := hide hf1
  clear hf1
  go_wp2_with fail
  refine (begun_any w size synced xo xc pays w1 (unhide H1) (unhide HP) hl).mono ?_
  rintro e w2 ⟨l, d, m, kv, rfl, hB⟩
  have hks60 : (kps (segZ size) pays (min pays.length 60)).length ≤ 60 := by rw [kps_len _ _ _ (by omega)]; omega
  obtain ⟨ks, hks⟩ : ∃ ks, ks = kps (segZ size) pays (min pays.length 60) := ⟨_, rfl⟩
  rw [← hks] at hB hks60
  clear hks
  obtain ⟨ao, cap, rfl⟩ := hB.kv
  obtain ⟨s, q, O, sv, pv, I, ps, j, us, g1, g2, g3, g4, g5, g6⟩ := hB.ex
  generalize segZ size = Z at *
  have HS := hide (wsyn_of w l d m s q O sv pv Z j 60 I ps w2 g1 g2)
  have G := hide (And.intro g1 (And.intro g2 (And.intro g3 (And.intro g4 g5))))
  clear hB g1 g2 g3 g4 g5 g6 H1
  obtain ⟨SF, hSF⟩ : ∃ SF, SF = I.flatten.length + j := ⟨_, rfl⟩
  rw [← hSF] at HS
  have HSF := hide hSF
  clear hSF
  go_wp2_with fail
  refine (unhide HS).mono ?_
  rintro e w3 ⟨rfl, hf3⟩
  have H3 := hide hf3
  clear hf3 HS
  have hc3i : (0 : Int) < (pays.length : Int) := by omega
  obtain ⟨bt, rfl⟩ : ∃ bt : Nat, b = (bt : Int) := ⟨b.toNat, by omega⟩
  obtain ⟨g, o, ho, hc, hxo, hcell, hsrc, hcap0, hplen⟩ := (unhide HP).at ((unhide G).1.fr.trans (unhide H3) (fun _ _ h => h)) hc3
  rw [Nat.add_zero] at hcell
  generalize hPP : pays[0] = P at hcell hsrc hcap0 hplen hbig
  clear hPP
  obtain ⟨N, hN⟩ : ∃ N, N = (P.take (Z - 12)).length := ⟨_, rfl⟩
  have hNm : N = min (Z - 12) P.length := by rw [hN, List.length_take]
  have hsrcN : Src w (.slice ho N hc) (P.take (Z - 12)) := by
    have := hsrc.takeN (min (Z - 12) P.length) (by omega)
    rw [take_min, ← hNm] at this
    exact this
  have HY := hide (And.intro hsrcN (And.intro hN (show N ≤ hc by omega)))
  have hw12 : IntKind.i64.wrap ((Z : Int) - 12) = (Z : Int) - 12 := by rw [IntKind.wrap_i64]; omega
  have hNZ : N + 12 ≤ Z := by omega
  subst hxo
  clear hsrc hsrcN hN HP
  have hNP : N = P.length := by omega
  have hbig2 : ¬ (Z : Int) - 12 < (N : Int) := by omega
  rw [← hNP] at hcell
  clear hplen hcap0 hNm hbig hNP
  go_wp2_with fail
  refine (arm_ok d m s q O 1 (bt : Nat) w3 ((unhide G).1.quiet (unhide H3)).D (unhide G).2.1.good.off (by decide) (by omega)).mono ?_
  rintro e w4 ⟨rfl, hD4, hf4⟩
  have hfO : Fr O w3 w4 := hf4.mono (fun k _ e => by rw [e]; exact (unhide G).1.D.od)
  have hW4 : WL w w4 l d m (LM.of sLog Z (I ++ [ps])) (s.armed bt) q O sv pv := ((unhide G).1.quiet (unhide H3)).disk hD4 hfO (fun _ h => .inl h)
  have hlen : I.flatten.length + ps.length = ks.length := by rw [← (unhide G).2.2.1, List.length_append]
  have HAP := hide (warm_any w l d m s q O sv pv (.slice ho N hc) Z j 60 bt I ps (P.take (Z - 12)) w4 hW4 (unhide G).2.1 (unhide HY).1 (by have := (unhide HY).2.1; omega) (by omega) (by decide) (by omega))
  have hkv4 : KV w w4 (.slice ao ks.length cap) ks us := ((unhide G).2.2.2.1.fr (unhide H3) (fun _ _ h => h)).fr hfO (fun g hg ho => (unhide G).2.2.2.2 g hg (.inl ho))
  have H4 := hide (And.intro hkv4 hlen)
  clear hD4 hf4 hfO hW4 hlen hkv4 H3
  go_wp2_with fail
  refine (unhide HAP).mono ?_
  rintro e w5 ⟨rfl, s5, q5, O5, I5, qs5, c5, j5, hD5, hX5, ho5, he5, hj5, hO5, hf5⟩
  have HOF := hide (off_any d m s5 q5 O5 w5 hD5.D)
  rw [ho5] at HOF
  have hex : ∃ s q O I qs c j us, DS w w5 d m s q O ∧ LX s Z I qs c j 61 ∧ I.flatten ++ qs = ks ++ [P.take (Z - 12)] ∧ KV w w5 (.slice ao ks.length cap) ks us ∧ (∀ g, (Value.slice ao ks.length cap).ownBlock = some g → ¬ O g) ∧ SF ≤ I.flatten.length + j := by
    refine ⟨s5, q5, O5, I5, qs5, c5, j5, us, hD5, hX5, by rw [he5, (unhide G).2.2.1], (unhide H4).1.fr hf5 (unhide G).2.2.2.2, fun g hg ho => ?_, by rw [unhide HSF]; exact hj5⟩
    rcases hO5 g ho with e | e
    · exact (unhide G).2.2.2.2 g hg e
    · have := ((unhide H4).1.row.lt g hg).2
      omega
  obtain ⟨ao6, cap6, w6, hr6, hC6⟩ := torn_more hex (by rw [← (unhide HY).2.1]; exact (unhide HY).1) (by rw [← (unhide HY).2.1]; exact (unhide HY).2.2) (by omega)
  have hkl : (ks ++ [P.take (Z - 12)]).length = ks.length + 1 := by simp
  rw [← (unhide HY).2.1] at hr6
  have HR6 := hide hr6
  have hk61 : (ks ++ [P.take (Z - 12)]).length ≤ 61 := by omega
  obtain ⟨KS, hKS⟩ : ∃ KS, KS = ks ++ [P.take (Z - 12)] := ⟨_, rfl⟩
  rw [← hKS] at hC6 hk61 hkl
  rw [← hkl] at hC6 HR6
  have HC := hide hC6
  obtain ⟨cap0, hcap0⟩ : ∃ c, c = cap := ⟨_, rfl⟩
  clear hD5 hX5 ho5 he5 hj5 hO5 hf5 hex hr6 hC6 hKS G H4 HSF HY HAP hcap0 cap0
  go_wp2_with fail
  refine (unhide HOF).mono ?_
  rintro e wx ⟨rfl, rfl⟩
  clear HOF
  go_wp2_with (at_builtin; refine wpList_app rfl _ _ 67 67 rfl _ _ _ rfl rfl (unhide HR6) ?_; clear HR6)
  have hcap := (unhide HC).cap
  refine ((unhide HC).crash keep hkp).mono ?_
  rintro e c1 ⟨rfl, T, hT1, hT2, hS1⟩
  have H1 := hide hS1
  clear hS1 HC
  have t1 : ¬ (T : Int) < (SF : Int) := by omega
  have t2 : ¬ (KS.length : Int) < (T : Int) := by omega
  have t3 : (T : Int) ≤ (cap6 : Int) := by omega
  have t4 : IntKind.i64.wrap ((T : Int) + 1) = (T : Int) + 1 := by rw [IntKind.wrap_i64]; omega
  go_wp2_with fail
  refine (unhide H1).start.mono ?_
  rintro e c2 ⟨rfl, hS2⟩
  have H2 := hide hS2
  clear hS2 H1
  go_wp2_with fail
  refine ((unhide H2).open hzz.1).mono ?_
  rintro e c3 ⟨l1, rfl, hO3⟩
  have H3 := hide hO3
  clear hO3 H2
  go_wp2_with fail
  refine ((unhide H3).len hT2).mono ?_
  rintro e wx ⟨rfl, rfl⟩
  go_wp2_with fail
  refine ((unhide H3).len hT2).mono ?_
  rintro e wx ⟨rfl, rfl⟩
  go_wp2_with fail
  refine ((unhide H3).len hT2).mono ?_
  rintro e wx ⟨rfl, rfl⟩
  go_wp2_with fail
  refine ((unhide H3).holds hT2).mono ?_
  rintro e c4 ⟨rfl, hO4⟩
  have H4 := hide hO4
  clear hO4 H3
  go_wp2_with fail
  refine ((unhide H4).open hzz.1 hT2).mono ?_
  rintro e c5 ⟨l2, rfl, hP5⟩
  have H5 := hide hP5
  clear hP5 H4
  go_wp2_with fail
  refine ((unhide H5).len1).mono ?_
  rintro e wx ⟨rfl, rfl⟩
  go_wp2_with fail
  refine ((unhide H5).holds hT2).mono ?_
  rintro e c6 ⟨rfl, hP6⟩
  have H6 := hide hP6
  clear hP6 H5
  go_wp2_with fail
  refine ((unhide H6).append hzz.1 hT2 hk61).mono ?_
  rintro e c7 ⟨rfl, hQ7⟩
  have H7 := hide hQ7
  clear hQ7 H6
  go_wp2_with fail
  refine ((unhide H7).len1).mono ?_
  rintro e wx ⟨rfl, rfl⟩
  go_wp2_with fail
  refine (unhide H7).at.mono ?_
  rintro e c8 ⟨v8, rfl, hv8, hQ8⟩
  obtain ⟨vo8, vc8, rfl⟩ := hv8.form
  have HSM := hide (same_any (.slice vo8 [9].length vc8) (.slice (some ⟨c8.heap.size, 0, none⟩) 1 1) [9] [9] _ (hv8.fr0 (box1 c8 (.cells #[.int .u8 9] 5))) (src9 c8) (by decide))
  rw [show sameB [9] [9] = true by decide] at HSM
  have H8 := hide (hQ8.quiet (box1 c8 (.cells #[.int .u8 9] 5)))
  clear hv8 hQ8 H7
  go_wp2_with fail
  refine (unhide HSM).mono ?_
  rintro e c9 ⟨rfl, n9, rfl⟩
  have H9 := hide ((unhide H8).quiet ((Fr.refl (fun _ => False) _).drewN n9))
  clear H8 HSM
  go_wp2_with fail
  refine (unhide H9).sync.mono ?_
  rintro e c10 ⟨rfl, hQ10⟩
  have H10 := hide hQ10
  clear hQ10 H9
  go_wp2_with fail
  refine (unhide H10).synced.mono ?_
  rintro e c11 ⟨rfl, hf11⟩
  have H11 := hide hf11
  clear hf11 H10
  go_wp2_with fail
  go_ret
  exact ⟨rfl, unhide H11⟩
end Go.Proofs.YtmmaddlphclpnaaGreatDoor

namespace Go.Proofs.YtmmaddlphclpnaaGreatDoor
open Go.RowKit Go.ChangeShapes Go.WideShapes Go.Maps Go.Sort

/-- WalRecovers. -/
theorem wrecov_any (size synced keep torn b : Int) (xo : Option Addr) (xc : Nat) (pays : List (List Nat)) (w : World) (hP : KJ w xo pays) (hl : pays.length < 9223372036854775808) (hkp : keep ≤ 9223372036854775807) (hbp : b ≤ 9223372036854775807) :
    Calls Tryz.prog 5 #[.int .i64 size, .slice xo pays.length xc, .int .i64 synced, .int .i64 keep, .int .i64 torn, .int .i64 b] w fun e w' => e = .returned (.bool true) ∧ Fr (fun _ => False) w w' := by
  by_cases h1 : 0 < torn
  · by_cases h2 : 0 ≤ b
    · by_cases h3 : 0 < pays.length
      · by_cases h4 : (segZ size : Int) - 12 < ((pays[0]).length : Int)
        · exact wrecov_d size synced keep torn b xo xc pays w hP hl hkp h1 h2 hbp h3 h4
        · exact wrecov_e size synced keep torn b xo xc pays w hP hl hkp h1 h2 hbp h3 h4
      · exact wrecov_c size synced keep torn b xo xc pays w hP hl hkp h1 h2 h3
    · exact wrecov_b size synced keep torn b xo xc pays w hP hl hkp h1 h2
  · exact wrecov_a size synced keep torn b xo xc pays w hP hl hkp h1
end Go.Proofs.YtmmaddlphclpnaaGreatDoor

namespace Go.Proofs.YtmmaddlphclpnaaGreatDoor
open Go.ChangeShapes Go.WideShapes Go.ChangeAt Go.RowKit
set_option maxRecDepth 100000

noncomputable def yWorld (os : Os) : World :=
  let w0 := World.holding Tryz.prog os ⟨#[], #[], []⟩
  { w0 with heap := (((w0.heap.modify 2 fun
      | .cells _ t frozen => .cells (Lib.deBruijn64tab.map fun n : Nat => Value.int .u8 (n : Int)).toArray t frozen
      | o => o).modify 1 fun
      | .cells _ t frozen => .cells (Lib.deBruijn32tab.map fun n : Nat => Value.int .u8 (n : Int)).toArray t frozen
      | o => o).modify 0 fun
      | .cells _ t frozen => .cells (Lib.pow10Tab.map fun n : Int => Value.int .u64 n).toArray t frozen
      | o => o) }
theorem yrecov_contract (H : Type) (enc : TypeId × Value → H) (W : World) (base : Nat) (args : Array Value) (ds gs : List (DataW H)) (before : List MemPlace)
    (hval : ∀ (j : Nat) t v, Tryz.f5.params[j]? = some t → args[j]? = some v → Value.okWide Tryz.prog W .any base t v)
    (hW : DataW.Whole enc Tryz.prog Tryz.f5.params.toList Rows.walRecoversSpec.vars false W args.toList ds gs before) (hk : Rows.uptoSmall H (ds ++ gs) = true) :
    Calls Tryz.prog 5 args W fun e W' => ∃ v, e = .returned v ∧ Rows.walRecoversSpec.post enc Tryz.prog Tryz.f5 false true false false W args v W' := by
  have hW' := hW
  obtain ⟨p, q, hA0, hV, rfl, hfz, hnd⟩ := hW
  have hA : DataW.TrodAll enc Tryz.prog W 0 (fun _ => true) true Tryz.f5.params.toList args.toList ds p := hA0
  rw [Tryz.params5] at hA hval
  obtain ⟨v0, vs0, d0, ds0, p0, q0, hargs, rfl, rfl, h0, r0⟩ := trodAll_cons hA
  obtain ⟨v1, vs1, d1, ds1, p1, q1, rfl, rfl, rfl, h1, r1⟩ := trodAll_cons r0
  obtain ⟨v2, vs2, d2, ds2, p2, q2, rfl, rfl, rfl, h2, r2⟩ := trodAll_cons r1
  obtain ⟨v3, vs3, d3, ds3, p3, q3, rfl, rfl, rfl, h3, r3⟩ := trodAll_cons r2
  obtain ⟨v4, vs4, d4, ds4, p4, q4, rfl, rfl, rfl, h4, r4⟩ := trodAll_cons r3
  obtain ⟨v5, vs5, d5, ds5, p5, q5, rfl, rfl, rfl, h5, r5⟩ := trodAll_cons r4
  obtain ⟨rfl, rfl, rfl⟩ := trodAll_nil r5
  obtain rfl : args = #[v0, v1, v2, v3, v4, v5] := by cases args; simp_all
  obtain ⟨rfl, rfl⟩ := trodVars_none hV
  have hbulk : Rows.uptoBulk d0 + (Rows.uptoBulk d1 + (Rows.uptoBulk d2 + (Rows.uptoBulk d3 + (Rows.uptoBulk d4 + (Rows.uptoBulk d5 + 0))))) ≤ 1048576 := by
    have h := of_decide_eq_true hk
    simpa only [List.append_nil, Rows.uptoBulkAll] using h
  obtain ⟨a0, rfl, rfl, rfl, w0⟩ := open_int Tryz.underlying3 (hval 0 3 v0 rfl rfl) h0
  have bd0 := bounds_i64 w0
  obtain ⟨xo1, xc1, hs1, rfl, hL1, hP1⟩ := pcj_of_reading (hval 1 67 v1 rfl rfl) h1 (by omega)
  obtain ⟨a2, rfl, rfl, rfl, w2⟩ := open_int Tryz.underlying3 (hval 2 3 v2 rfl rfl) h2
  have bd2 := bounds_i64 w2
  obtain ⟨a3, rfl, rfl, rfl, w3⟩ := open_int Tryz.underlying3 (hval 3 3 v3 rfl rfl) h3
  have bd3 := bounds_i64 w3
  obtain ⟨a4, rfl, rfl, rfl, w4⟩ := open_int Tryz.underlying3 (hval 4 3 v4 rfl rfl) h4
  have bd4 := bounds_i64 w4
  obtain ⟨a5, rfl, rfl, rfl, w5⟩ := open_int Tryz.underlying3 (hval 5 3 v5 rfl rfl) h5
  have bd5 := bounds_i64 w5
  refine (wrecov_any a0 a2 a3 a4 a5 xo1 xc1 hs1 W hP1 hL1 (by omega) (by omega)).mono fun e W' ⟨he, hf⟩ => ?_
  subst he
  have hlt : ∀ x ∈ [] ++ (p1 ++ ([] ++ ([] ++ ([] ++ ([] ++ []))))), x.block < W.heap.size := fun x hx => hW'.lt x (by simpa using hx)
  have hb := hf.below
  refine ⟨_, rfl, _, _, _, [], [] ++ (p1 ++ ([] ++ ([] ++ ([] ++ ([] ++ []))))), [], hW', ?_, ?_, ?_, hb.frame _, fun h => by cases h⟩
  · exact trodAll_cons_mk (shut_bool Tryz.underlying4 true) trodAll_mk0
  · exact trodAll_cons_mk (shut_int Tryz.underlying3 w0) (trodAll_cons_mk (Below.trod (by kernel_rfl) (by kernel_rfl) (by decide +kernel) h1 hb (fun x hx => hlt x (by simp [hx]))) (trodAll_cons_mk (shut_int Tryz.underlying3 w2) (trodAll_cons_mk (shut_int Tryz.underlying3 w3) (trodAll_cons_mk (shut_int Tryz.underlying3 w4) (trodAll_cons_mk (shut_int Tryz.underlying3 w5) trodAll_mk0)))))
  · rfl
theorem yrecov_laid_met (os : Os) : laidMetH Tryz.prog Rows.walRecoversUptoRow.laid ((yWorld os).forCall (fun _ _ => 0) ⟨#[], #[.int .i64 0, .slice none 0 0, .int .i64 0, .int .i64 0, .int .i64 0, .int .i64 0], []⟩).memory :=
  laidMetH_of_parts (laidMet_of_run' 8 (by kernel_rfl) (by kernel_rfl)) (by kernel_rfl)
theorem yrecov_reads (os : Os) {H : Type} (enc : TypeId × Value → H) : ∃ places, DataW.whole enc Tryz.prog ((yWorld os).forCall (fun _ _ => 0) ⟨#[], #[.int .i64 0, .slice none 0 0, .int .i64 0, .int .i64 0, .int .i64 0, .int .i64 0], []⟩).memory Tryz.f5.params.toList Rows.walRecoversSpec.vars false #[Value.int .i64 0, .slice none 0 0, .int .i64 0, .int .i64 0, .int .i64 0, .int .i64 0].toList 8 = some ([.lit (.int .i64 0), .nil, .lit (.int .i64 0), .lit (.int .i64 0), .lit (.int .i64 0), .lit (.int .i64 0)], [], places) :=
  ⟨[], by kernel_rfl⟩
theorem yrecov_lifted (os : Os) (started : os.Started) (H : Type) (enc : TypeId × Value → H) (F : Stop.Interp) :
    ReturnsInHanded {} Tryz.checked os 5 .any ((Rows.OpenSpec.upto Rows.walRecoversSpec).preRow enc Tryz.prog Tryz.f5 Rows.walRecoversUptoRow.domain false Rows.walRecoversUptoRow.laid) (((Rows.OpenSpec.upto Rows.walRecoversSpec).at F).post enc Tryz.prog Tryz.f5 false true false false) := by
  obtain ⟨places, hx⟩ := yrecov_reads os enc
  refine returnsInHanded_of_row (C := Tryz.checked) (s := Rows.OpenSpec.upto Rows.walRecoversSpec) Tryz.ownKnob started (by kernel_rfl) Tryz.func5
    (witness_row_atRef (enc := enc) (C := Tryz.checked) false (yWorld os) #[.int .i64 0, .slice none 0 0, .int .i64 0, .int .i64 0, .int .i64 0, .int .i64 0] rfl (by kernel_rfl) (by kernel_rfl) (by kernel_rfl)
      (OpenSpec.preRow_of_cond 8 hx (by kernel_rfl) (fun k hk => by cases hk; kernel_rfl) (by kernel_rfl) (yrecov_laid_met os))) ?_
  intro W base args ds gs before hval hW _ hcond _ _ _ _
  exact yrecov_contract H enc W base args ds gs before hval hW (hcond _ rfl)
theorem yrecov_said : Rows.WalRecoversUptoSaid :=
  OpenClaim.holds_of_cond 5 Tryz.f5 rfl rfl rfl rfl rfl rfl rfl ⟨rfl, rfl, rfl, rfl, rfl⟩ rfl rfl rfl rfl rfl (by kernel_rfl) Tryz.func5 (by kernel_rfl)
    (of_decide_eq_true (by kernel_rfl)) (by unfold Func.isWrapper; first | (rw [if_pos (by decide +kernel)]; kernel_rfl) | (rw [if_neg (by decide +kernel)]; exact ⟨rfl, rfl⟩))
    (fun os started H enc _ F => by rw [OpenClaim.pre_eq_preRow]; exact yrecov_lifted os started H enc F)
theorem yrecov_plain (f : FuncId) (fn : Func) (hf : Tryz.pinned.checked.prog.funcNamed Rows.walRecoversUptoRow.func = some f) (hfn : Tryz.pinned.checked.prog.funcs[f]? = some fn) :
    false = Tryz.pinned.checked.prog.looks [] ∧ ∀ (j : Nat) t, fn.params[j]? = some t → Tryz.pinned.checked.prog.wantsStandIn t = false := by
  obtain rfl : f = 5 := Option.some.inj ((show Tryz.prog.funcNamed Rows.walRecoversUptoRow.func = some 5 by kernel_rfl).symm.trans hf) |>.symm
  obtain rfl : fn = Tryz.f5 := (Option.some.inj (Tryz.func5.symm.trans hfn)).symm
  refine ⟨by kernel_rfl, fun j t ht => ?_⟩
  rw [Tryz.params5] at ht
  have ht' : t = 3 ∨ t = 67 := by
    have h := Array.mem_of_getElem? ht
    simp at h
    first
      | (rcases h with rfl | rfl | rfl | rfl | rfl | rfl <;> simp)
      | (rcases h with rfl | rfl | rfl | rfl | rfl <;> simp)
      | (rcases h with rfl | rfl | rfl | rfl <;> simp)
      | (rcases h with rfl | rfl | rfl <;> simp)
      | (rcases h with rfl | rfl <;> simp)
  rcases ht' with rfl | rfl
  · exact (show Tryz.prog.wantsStandIn 3 = false by kernel_rfl)
  · exact (show Tryz.prog.wantsStandIn 67 = false by kernel_rfl)
/-- THE SECOND FORM's CARD. -/
theorem yrecov_card : Rows.WalRecoversUptoCardSaid :=
  Claim7.holds_tied_plain_at .later [] _ _ _ _ yrecov_said (fun _ h => by cases h) (by kernel_rfl) (fun _ h => by cases h) walRecoversUpto_row_tie rfl ⟨rfl, rfl⟩ (by kernel_rfl) rfl yrecov_plain (by kernel_rfl)
#print axioms yrecov_card
end Go.Proofs.YtmmaddlphclpnaaGreatDoor

