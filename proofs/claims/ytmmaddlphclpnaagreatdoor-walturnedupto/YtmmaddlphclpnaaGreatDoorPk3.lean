import Derived.Test.YtmmaddlphclpnaaGreatDoorPk2
import Derived.Test.YtmmaddlphclpnaaGreatDoorPk1
import Derived.Test.YtmmaddlphclpnaaGreatDoorDlp
import Derived.Test.YtmmaddlphclpnaaGreatDoorDkr
import Derived.Test.YtmmaddlphclpnaaGreatDoorCards
import Derived.Test.YtmmaddlphclpnaaGreatDoorTie
import Derived.Deep.DeepWitnessRowRef
import Derived.Lib.TrailingZeros
import Derived.Lib.ItoaNum
namespace Go.Proofs.YtmmaddlphclpnaaGreatDoor
open Go.RowKit Go.ChangeShapes Go.WideShapes Go.Maps Go.Sort

theorem LT.n {s : DM} {Z : Nat} {I : List (List (List Nat))} {ps : List (List Nat)} {t : List Nat} {V : Nat} (h : LT s Z I ps t V) : I.length + ps.length ≤ 70 := by
  have := flat_ge I h.ne
  have := h.few
  omega
theorem LT.used {s : DM} {Z : Nat} {I : List (List (List Nat))} {ps : List (List Nat)} {t : List Nat} {V : Nat} (h : LT s Z I ps t V) : s.used ≤ 42600 := by
  obtain ⟨pc, sf, hf, _⟩ := h.fl
  have hn := h.n
  have hz := h.z
  have := tot_le (fun i => (LB I ⟨fby ps ++ t, sf, pc⟩ i).b) 600 (I.length + 1) (fun i hi => by
    by_cases e : i = I.length
    · subst e
      simp only [LB_last]
      have := h.lg
      omega
    · have hi2 : i < I.length := by omega
      simp only [LB_old _ _ hi2]
      have := h.sg (I.getD i []) (by
        rw [List.getD_eq_getElem?_getD, List.getElem?_eq_getElem hi2]
        exact List.mem_append_left _ (List.getElem_mem hi2))
      omega)
  have e := hf.used
  have : (I.length + 1) * 600 ≤ 71 * 600 := Nat.mul_le_mul_right _ (by omega)
  omega
set_option maxHeartbeats 1000000 in
set_option maxRecDepth 100000 in
/-- Log.find of a log that is there. -/
theorem wfind_at (w : World) (l d m : Nat) (s : DM) (q : DW) (O : Nat → Prop) (Z V : Nat) (I : List (List (List Nat))) (ps : List (List Nat)) (t : List Nat) (W : World) (h : WL w W l d m ⟨sLog, Z, [], []⟩ s q O (.slice none 0 0) (.slice none 0 0)) (hT : LT s Z I ps t V) (hZ : 16 ≤ Z) :
    Calls Tryz.prog 38 #[.pointer (some ⟨l, 0, none⟩)] W fun e W' => e = .returned (.int .i64 0) ∧ ∃ s' q' O' sv' pv', WL w W' l d m (LM.of sLog Z (I ++ [ps])) s' q' O' sv' pv' ∧ LS s' Z I ps ps.length V ∧ (∀ k, O' k → O k ∨ W.heap.size ≤ k) ∧ (∀ g, sv'.ownBlock = some g → W.heap.size ≤ g) ∧ (∀ g, pv'.ownBlock = some g → W.heap.size ≤ g) ∧ Fr (fun k => O k ∨ k = l) W W' := by
  obtain ⟨pc, sf, hf, hpc, hsz⟩ := hT.fl
  have hn := hT.n
  have hz := hT.z
  have hus := hT.used
  have htot : tot (fun i => (s.F (nm (seg sLog i))).b) (I.length + 1) ≤ 1048576 := by
    have e : tot (fun i => (s.F (nm (seg sLog i))).b) (I.length + 1) = s.used := by
      rw [hf.used]
      exact tot_eq (fun i hi => by rw [hf.F i hi])
    omega
  have hsc := scan_ext w l d m ⟨sLog, Z, [], []⟩ s q O _ _ (I.length + 1) (Z - 12) W (fun i => (s.F (nm (seg sLog i))).b) (fun _ => rfl) h rfl rfl rfl rfl (by show (3 : Nat) ≤ 32; decide) hT.good.off (by omega) (fun i hi => hf.has hi) (hf.no (Nat.le_refl _) (by omega)) htot (by show Z = _; omega) (by omega)
  rw [hT.scan] at hsc
  have ilen : (I.map (fun ps => (fby ps).length)).length = I.length := List.length_map _
  have HSC := hide hsc
  have HB : Hid (∀ W1 sv pv, WL w W1 l d m (LM.of sLog Z (I ++ [ps])) s q O sv pv → Ext W W1 l sv pv → Calls Tryz.prog 75 #[.pointer (some ⟨l, 0, none⟩)] W1 fun e W' => e = .returned (.int .i64 0) ∧ ∃ s' q' O' sv' pv', WL w W' l d m (LM.of sLog Z (I ++ [ps])) s' q' O' sv' pv' ∧ LS s' Z I ps ps.length V ∧ (∀ k, O' k → O k ∨ W.heap.size ≤ k) ∧ (∀ g, sv'.ownBlock = some g → W.heap.size ≤ g) ∧ (∀ g, pv'.ownBlock = some g → W.heap.size ≤ g) ∧ Fr (fun k => O k ∨ k = l) W W') := fun W1 sv pv h1 hx => by
    have hst := settle_any w l d m (LM.of sLog Z (I ++ [ps])) s q O sv pv _ _ (LB I ⟨fby ps ++ t, sf, pc⟩) W1 h1 (of_segs ..) (by rw [ilen]; omega) (by show (3 : Nat) ≤ 32; decide) hT.good.off (by rw [ilen]; exact hf) (by rw [ilen, LB_last]; simp) (by omega) (by rw [ilen, LB_last]; simp only; omega) (by rw [ilen, LB_last]; intro p hp; have := hsz p hp; omega)
    rw [ilen] at hst
    refine hst.mono ?_
    rintro e W2 ⟨rfl, hS⟩
    obtain ⟨sk, qk, Ok, h2, hl, hfl, hO, hfr⟩ := hS.ex
    refine ⟨rfl, sk, qk, Ok, sv, pv, h2, hT.settled hl (LB I ⟨fby ps ++ t, sf, pc⟩) hf.F (hfl.congr (fun i hi => by rw [if_pos hi])), fun k hk => (hO k hk).imp id (Nat.le_trans hx.1.size), hx.2.1, hx.2.2, (hx.1.mono (fun _ _ h => .inr h)).trans hfr (fun _ _ h => .inl h)⟩
  have HK : Hid (∀ W1 sv pv, WL w W1 l d m (LM.of sLog Z (I ++ [ps])) s q O sv pv → ∃ so sc, W1.cell? ⟨l, 3, none⟩ = some (.slice so (I.length + 1) sc)) := fun W1 sv pv h1 => by
    obtain ⟨so, sc, e⟩ := own_formX h1.G.so
    have := h1.G.cells.2.2.2.1
    rw [e, of_segs] at this
    simp only [List.length_append, List.length_map, List.length_singleton] at this
    exact ⟨so, sc, this⟩
  clear h hsc hf hus htot
  go_enter Tryz.func38, Tryz.ntmps38
  go_wp2_with fail
  refine (unhide HSC).mono ?_
  rintro e w1 ⟨rfl, sv, pv, hW1, hx1⟩
  obtain ⟨so, sc, c3⟩ := (unhide HK) _ _ _ hW1
  have HB1 := hide ((unhide HB) _ _ _ hW1 hx1)
  clear hW1 hx1
  have hne : ¬ ((I.length : Int) + 1 = 0) := by omega
  go_wp2_with fail
  refine (unhide HB1).mono ?_
  rintro e w2 ⟨rfl, hW⟩
  have HW := hide hW
  clear hW
  go_wp2_with fail
  go_ret
  exact ⟨rfl, unhide HW⟩
set_option maxHeartbeats 1000000 in
set_option maxRecDepth 100000 in
/-- Open of a log that is there. -/
theorem wopen_at (w : World) (d m : Nat) (s : DM) (q : DW) (O : Nat → Prop) (Z V : Nat) (I : List (List (List Nat))) (ps : List (List Nat)) (t : List Nat) (W : World) (h : DS w W d m s q O) (hT : LT s Z I ps t V) (hZ : 16 ≤ Z) :
    Calls Tryz.prog 10 #[.pointer (some ⟨d, 0, none⟩), .string sLog, .int .i64 (Z : Nat)] W fun e W' => ∃ l, e = .returned (.tuple #[.pointer (some ⟨l, 0, none⟩), .int .i64 0]) ∧ ∃ s' q' O' sv' pv', WL w W' l d m (LM.of sLog Z (I ++ [ps])) s' q' O' sv' pv' ∧ LS s' Z I ps ps.length V ∧ (∀ k, Ours l O' sv' pv' k → O k ∨ W.heap.size ≤ k) ∧ Fr O W W' := by
  have HO := hide (off_any d m s q O W h.D)
  rw [hT.good.off] at HO
  have HF : Hid (∀ W1 W2 l, Fr (fun _ => False) W W1 → W2 = W1.alloc (.cells #[.pointer (some ⟨d, 0, none⟩), .string sLog, .int .i64 (Z : Nat), .slice none 0 0, .slice none 0 0] 82) → l = W1.heap.size → Calls Tryz.prog 38 #[.pointer (some ⟨l, 0, none⟩)] W2 fun e W' => e = .returned (.int .i64 0) ∧ ∃ s' q' O' sv' pv', WL w W' l d m (LM.of sLog Z (I ++ [ps])) s' q' O' sv' pv' ∧ LS s' Z I ps ps.length V ∧ (∀ k, Ours l O' sv' pv' k → O k ∨ W.heap.size ≤ k) ∧ Fr O W W') := fun W1 W2 l hf e2 el => by
    subst el
    subst e2
    have h1 := h.quiet hf
    have hbx := box1 W1 (.cells #[.pointer (some ⟨d, 0, none⟩), .string sLog, .int .i64 (Z : Nat), .slice none 0 0, .slice none 0 0] 82)
    have h2 := h1.quiet hbx
    have hw : WL w (W1.alloc (.cells #[.pointer (some ⟨d, 0, none⟩), .string sLog, .int .i64 (Z : Nat), .slice none 0 0, .slice none 0 0] 82)) W1.heap.size d m ⟨sLog, Z, [], []⟩ s q O (.slice none 0 0) (.slice none 0 0) :=
      ⟨h2.D, ⟨heap_alloc_new _ _, World.ownsRow_nil _ _ _ _, World.ownsRow_nil _ _ _ _⟩, fun e => Nat.lt_irrefl _ (h1.D.lt _ e), fun g hg => (by cases hg), fun g hg => (by cases hg), h2.fr, h2.o, h1.fr.size, fun g hg => (by cases hg), fun g hg => (by cases hg)⟩
    refine (wfind_at w W1.heap.size d m s q O Z V I ps t _ hw hT hZ).mono ?_
    rintro e W3 ⟨rfl, s', q', O', sv', pv', h3, hS, hO, hsv, hpv, hfr⟩
    have hs12 : W.heap.size ≤ (W1.alloc (.cells #[.pointer (some ⟨d, 0, none⟩), .string sLog, .int .i64 (Z : Nat), .slice none 0 0, .slice none 0 0] 82)).heap.size := Nat.le_trans hf.size hbx.size
    refine ⟨rfl, s', q', O', sv', pv', h3, hS, fun k hk => ?_, ((hf.trans hbx (fun _ _ h => h)).mono (fun _ _ h => h.elim)).trans hfr (fun k hk e => ?_)⟩
    · rcases hk with e | e | e | e
      · exact (hO k e).imp id (Nat.le_trans hs12)
      · exact .inr (by rw [e]; exact hf.size)
      · exact .inr (Nat.le_trans hs12 (hsv k e))
      · exact .inr (Nat.le_trans hs12 (hpv k e))
    · rcases e with e | e
      · exact e
      · have := hf.size
        omega
  have HC : Hid (∀ W', Calls Tryz.prog 37 #[.string sLog] W' fun e w' => e = .returned (.string sLog) ∧ Fr (fun _ => False) W' w') := fun W' => sclone_any sLog W' (by decide)
  have hz := hT.z
  have h1 : ¬ (sLog.size : Int) < 1 := by decide
  have h2 : ¬ (32 : Int) < (sLog.size : Int) := by decide
  have h3 : ¬ (Z : Int) < 16 := by omega
  have h4 : ¬ (1048576 : Int) < (Z : Int) := by omega
  clear h hz hZ
  generalize sLog = NM at *
  go_enter Tryz.func10, Tryz.ntmps10
  go_wp2_with (go_at_call 33; refine (unhide HO).mono ?_; rintro e w' ⟨rfl, rfl⟩; clear HO)
  refine ((unhide HC) _).mono ?_
  rintro e w1 ⟨rfl, hf1⟩
  have HF1 := hide ((unhide HF) w1 _ _ hf1 rfl rfl)
  clear hf1 HF HC
  go_wp2_with (go_at_call 38; refine (unhide HF1).mono ?_; rintro e w2 ⟨rfl, hW⟩; clear HF1; have HW := hide hW; clear hW)
  go_ret2
  exact ⟨_, rfl, unhide HW⟩
end Go.Proofs.YtmmaddlphclpnaaGreatDoor

namespace Go.Proofs.YtmmaddlphclpnaaGreatDoor
open Go.RowKit Go.ChangeShapes Go.WideShapes Go.Maps Go.Sort

theorem WL.ds {w W : World} {l d m : Nat} {L : LM} {s : DM} {q : DW} {O : Nat → Prop} {sv pv : Value} (h : WL w W l d m L s q O sv pv) : DS w W d m s q O := ⟨h.D, h.fr, h.o⟩
/-- Pending of a log's disk. -/
theorem wpend_any (w : World) (d m : Nat) (s : DM) (q : DW) (O : Nat → Prop) (Z j V : Nat) (I : List (List (List Nat))) (ps : List (List Nat)) (W : World) (h : DS w W d m s q O) (hS : LS s Z I ps j V) :
    Calls Tryz.prog 35 #[.pointer (some ⟨d, 0, none⟩)] W fun e W' => e = .returned (.int .i64 (((fby ps).length - (fby (ps.take j)).length : Nat) : Int)) ∧ Fr (fun _ => False) W W' := by
  obtain ⟨pc, hf, hsm, _⟩ := hS.fl
  have hn := hS.n
  have hz := hS.z
  let s' : DM := { s with F := fun k => if Maps.has s.D (.string k) = true then s.F k else ⟨[], 0, []⟩ }
  have hD : DkAt W d m s' q O := h.D.reF _ (fun k hk => by rw [if_pos hk])
  have hF' : ∀ i, i < I.length + 1 → s'.F (nm (seg sLog i)) = LB I ⟨fby ps, (fby (ps.take j)).length, pc⟩ i := fun i hi => by
    show (if Maps.has s.D (.string (nm (seg sLog i))) = true then _ else _) = _
    rw [if_pos (hf.has hi), hf.F i hi]
  have hb : ∀ x, (s'.F x).safe ≤ (s'.F x).b.length ∧ (s'.F x).b.length ≤ 600 := fun x => by
    by_cases hx : Maps.has s.D (.string x) = true
    · obtain ⟨i, hi, rfl⟩ := hf.key hx
      rw [hF' i hi]
      by_cases e : i = I.length
      · subst e
        rw [LB_last]
        have := fby_take_le ps j
        have := hS.sg ps (by simp)
        exact ⟨by simp only; omega, by simp only; omega⟩
      · rw [LB_old _ _ (show i < I.length by omega)]
        refine ⟨Nat.le_refl _, ?_⟩
        have hi2 : i < I.length := by omega
        have := hS.sg (I.getD i []) (by
          rw [List.getD_eq_getElem?_getD, List.getElem?_eq_getElem hi2]
          exact List.mem_append_left _ (List.getElem_mem hi2))
        show (fby (I.getD i [])).length ≤ 600
        omega
    · have e : s'.F x = ⟨[], 0, []⟩ := if_neg hx
      rw [e]
      exact ⟨Nat.le_refl _, Nat.zero_le _⟩
  have hp := pending_any d m s' q O W hD (fun x => by
    have := hb x
    simp only [DM.pd]
    omega) (by show Maps.size s.D ≤ 256; rw [hf.size]; omega) (fun x => by have := hb x; omega)
  have e : s'.pend = (((fby ps).length - (fby (ps.take j)).length : Nat) : Int) := by
    show sumA s'.pd (ents s.D) = _
    rw [hf.sum, totI, totI_zero (fun i hi => by
      simp only [DM.pd]
      rw [hF' i (by omega), LB_old _ _ hi]
      simp)]
    simp only [DM.pd]
    rw [hF' I.length (by omega), LB_last]
    have := fby_take_le ps j
    simp only
    omega
  rw [e] at hp
  exact hp
/-- Crash of a log's disk. -/
theorem wcrash_any (w : World) (d m : Nat) (keep : Int) (s : DM) (q : DW) (O : Nat → Prop) (Z j V : Nat) (I : List (List (List Nat))) (ps : List (List Nat)) (W : World) (h : DS w W d m s q O) (hS : LS s Z I ps j V) (hkp : keep ≤ 9223372036854775807) :
    Calls Tryz.prog 21 #[.pointer (some ⟨d, 0, none⟩), .int .i64 keep] W fun e W' => e = .returned (.tuple #[]) ∧ ∃ s' q', DkAt W' d m s' q' O ∧ Fr O W W' ∧ ∃ t, LT { s' with off := false } Z I (ps.take (j + wholes (ps.drop j) (min keep.toNat ((fby ps).length - (fby (ps.take j)).length)))) t V := by
  obtain ⟨pc, hf, hsm, hl⟩ := hS.fl
  have hn := hS.n
  have hz := hS.z
  have hus := hS.used
  have hsg : Segs I.length (LB I ⟨fby ps, (fby (ps.take j)).length, pc⟩) := ⟨fun i hi => by rw [LB_old _ _ hi], fun i hi => by rw [LB_old _ _ hi], by rw [LB_last]; exact hsm, by rw [LB_last]; simp only; omega⟩
  have hal := (hf.allp_sz hsg q).2
  rw [LB_last] at hal
  have hk : ∀ k, Maps.has s.D (.string k) = true → (s.F k).ps.length ≤ 70 ∧ (s.F k).safe + sumP (s.F k).ps = (s.F k).b.length ∧ (s.F k).b.length ≤ 600 := fun k hk => by
    obtain ⟨i, hi, rfl⟩ := hf.key hk
    rw [hf.F i hi]
    by_cases e : i = I.length
    · subst e
      rw [LB_last]
      have := hS.sg ps (by simp)
      exact ⟨by simp only; omega, hsm, by simp only; omega⟩
    · have hi2 : i < I.length := by omega
      rw [LB_old _ _ hi2]
      have := hS.sg (I.getD i []) (by
        rw [List.getD_eq_getElem?_getD, List.getElem?_eq_getElem hi2]
        exact List.mem_append_left _ (List.getElem_mem hi2))
      exact ⟨Nat.zero_le _, rfl, by show (fby (I.getD i [])).length ≤ 600; omega⟩
  refine (crash_any d m keep s q O W h.D (by rw [hal]; simp only; omega) (fun k h => by have := hk k h; omega) hkp (fun k h => by
    have h2 := hk k h
    refine ⟨by omega, fun p hp => ?_⟩
    have := sumP_mem _ p hp
    omega) (fun k h => by have := hk k h; omega) hf.ln (by omega)).mono ?_
  rintro e W' ⟨rfl, L, q', hL, _, hD, _, hfr⟩
  have hq : ∀ i, i < I.length → q.fb (nm (seg sLog i)) ≠ q.fb (nm (seg sLog I.length)) := fun i hi => (h.D.ap _ _ (hf.has (by omega)) (hf.has (by omega)) (fun e => by have := seg_inj (by omega) (by omega) e; omega)).1
  exact ⟨rfl, _, q', hD, hfr, hS.crash q L keep.toNat hL hq⟩
end Go.Proofs.YtmmaddlphclpnaaGreatDoor

namespace Go.Proofs.YtmmaddlphclpnaaGreatDoor
open Go.RowKit Go.ChangeShapes Go.WideShapes Go.Maps Go.Sort

/-- A log's disk of which the last frames may be cut at c. -/
structure LX (s : DM) (Z : Nat) (I : List (List (List Nat))) (qs : List (List Nat)) (c j V : Nat) : Prop where
  full : s.full = false
  lim : 80 * Z ≤ s.limit ∧ s.limit ≤ 1048576
  fl : ∃ pc, Fls s sLog (I.length + 1) (LB I ⟨(fby qs).take c, (fby (qs.take j)).length, pc⟩) ∧ (fby (qs.take j)).length + sumP pc = c ∧ pc.length ≤ 80
  cle : c ≤ (fby qs).length
  jle : j ≤ qs.length
  ne : ∀ ps ∈ I, ps ≠ []
  few : I.flatten.length + qs.length ≤ 70
  sg : ∀ ps ∈ I ++ [qs], (fby ps).length ≤ Z
  pay : ∀ ps ∈ I ++ [qs], ∀ p ∈ ps, p.length + 12 ≤ Z
  z : Z ≤ 600
  wr : s.writes ≤ V
  wr2 : V < 1000000000
theorem LS.lx {s : DM} {Z : Nat} {I : List (List (List Nat))} {ps : List (List Nat)} {j V : Nat} (h : LS s Z I ps j V) (hV : V < 1000000000) : LX s Z I ps (fby ps).length j V := by
  obtain ⟨pc, hf, hs, hl⟩ := h.fl
  have hn := h.n
  exact ⟨h.good.full, ⟨h.lim, h.good.lim⟩, ⟨pc, by rw [List.take_length]; exact hf, hs, by omega⟩, Nat.le_refl _, h.jle, h.ne, h.few, h.sg, h.pay, h.z, h.wr, hV⟩
theorem LS.lt {s : DM} {Z : Nat} {I : List (List (List Nat))} {ps : List (List Nat)} {j V : Nat} (h : LS s Z I ps j V) : LT s Z I ps [] V := by
  obtain ⟨pc, hf, hs, hl⟩ := h.fl
  have hn := h.n
  have hsg := h.sg ps (by simp)
  have hz := h.z
  refine ⟨h.good, h.lim, ⟨pc, _, by rw [List.append_nil]; exact hf, by omega, fun x hx => ?_⟩, .inl rfl, h.ne, h.few, h.sg, by rw [List.append_nil]; exact hsg, h.pay, h.z, h.wr⟩
  have := sumP_mem pc x hx
  omega
theorem LX.n {s : DM} {Z : Nat} {I : List (List (List Nat))} {qs : List (List Nat)} {c j V : Nat} (h : LX s Z I qs c j V) : I.length + qs.length ≤ 70 := by
  have := flat_ge I h.ne
  have := h.few
  omega
theorem LX.used {s : DM} {Z : Nat} {I : List (List (List Nat))} {qs : List (List Nat)} {c j V : Nat} (h : LX s Z I qs c j V) : s.used ≤ 42600 := by
  obtain ⟨pc, hf, _, _⟩ := h.fl
  have hn := h.n
  have hz := h.z
  have := tot_le (fun i => (LB I ⟨(fby qs).take c, (fby (qs.take j)).length, pc⟩ i).b) 600 (I.length + 1) (fun i hi => by
    by_cases e : i = I.length
    · subst e
      simp only [LB_last, List.length_take]
      have := h.sg qs (by simp)
      omega
    · have hi2 : i < I.length := by omega
      simp only [LB_old _ _ hi2]
      have := h.sg (I.getD i []) (by
        rw [List.getD_eq_getElem?_getD, List.getElem?_eq_getElem hi2]
        exact List.mem_append_left _ (List.getElem_mem hi2))
      omega)
  have e := hf.used
  have : (I.length + 1) * 600 ≤ 71 * 600 := Nat.mul_le_mul_right _ (by omega)
  omega
/-- What a crash leaves of it. -/
theorem LX.crash {s : DM} {Z : Nat} {I : List (List (List Nat))} {qs : List (List Nat)} {c j V : Nat} (h : LX s Z I qs c j V) (q : DW) (L : List Own3) (keep : Nat) (hL : L.Perm (s.allp q)) (hq : ∀ i, i < I.length → q.fb (nm (seg sLog i)) ≠ q.fb (nm (seg sLog I.length))) :
    ∃ t k, j ≤ k ∧ k ≤ qs.length ∧ LT { ((s.offd).plus q L keep).crashT with off := false } Z I (qs.take k) t V := by
  obtain ⟨pc, hf, hs, hl⟩ := h.fl
  have hn := h.n
  have hj := h.jle
  have hc := h.cle
  have hlen : ((fby qs).take c).length = c := by rw [List.length_take]; omega
  have hsg : Segs I.length (LB I ⟨(fby qs).take c, (fby (qs.take j)).length, pc⟩) := ⟨fun i hi => by rw [LB_old _ _ hi], fun i hi => by rw [LB_old _ _ hi], by rw [LB_last]; simp only [hlen]; exact hs, by rw [LB_last]; simp only; omega⟩
  have hcr := hf.crash (by omega) hsg q L keep hL hq
  have hpay : ∀ p ∈ qs, p.length ≤ Z - 12 ∧ p.length < 4294967296 := fun p hp => by
    have := h.pay qs (by simp) p hp
    have := h.z
    omega
  obtain ⟨t, ht, e⟩ := cut_frames (Z - 12) qs ((fby (qs.take j)).length + min keep (sumP pc)) hpay
  have ew : wholes qs ((fby (qs.take j)).length + min keep (sumP pc)) = j + wholes (qs.drop j) (min keep (sumP pc)) := by
    have := wholes_app (min keep (sumP pc)) (qs.take j) (qs.drop j)
    rw [List.take_append_drop] at this
    rw [this, List.length_take, Nat.min_eq_left hj]
  rw [ew] at e
  have hwl := wholes_le (qs.drop j) (min keep (sumP pc))
  rw [List.length_drop] at hwl
  have hlen2 : (fby (qs.take (j + wholes (qs.drop j) (min keep (sumP pc)))) ++ t).length ≤ (fby qs).length := by
    rw [← e, List.length_take]; omega
  have hZ := h.sg qs (by simp)
  refine ⟨t, j + wholes (qs.drop j) (min keep (sumP pc)), by omega, by omega, ⟨rfl, h.full, rfl, Int.le_refl 0, by show (0 : Int) < _; decide, by show s.limit ≤ _; exact h.lim.2, by show s.writes < _; have := h.wr; have := h.wr2; omega⟩, h.lim.1, ⟨[], (fby (qs.take j)).length + min keep (sumP pc), ?_, Nat.zero_le _, fun x hx => by cases hx⟩, ht, h.ne, ?_, fun ps hq => ?_, by omega, fun ps hq => ?_, h.z, h.wr⟩
  · have h2 : Fls ({ ((s.offd).plus q L keep).crashT with off := false } : DM) sLog (I.length + 1) _ := ⟨hcr.map, hcr.keys, hcr.F, hcr.used⟩
    refine h2.congr (fun i hi => ?_)
    simp only [LB_last, leftN]
    rw [LB_set, List.take_take, Nat.min_eq_left (by omega), e]
  · have := h.few
    rw [List.length_take]
    omega
  · rcases List.mem_append.1 hq with hq | hq
    · exact h.sg ps (List.mem_append_left _ hq)
    · rw [List.mem_singleton.1 hq]
      have := fby_take_le qs (j + wholes (qs.drop j) (min keep (sumP pc)))
      omega
  · rcases List.mem_append.1 hq with hq | hq
    · exact h.pay ps (List.mem_append_left _ hq)
    · rw [List.mem_singleton.1 hq]
      exact fun p hp => h.pay qs (by simp) p (List.mem_of_mem_take hp)
/-- Crash of such a disk. -/
theorem wcrashX (w : World) (d m : Nat) (keep : Int) (s : DM) (q : DW) (O : Nat → Prop) (Z c j V : Nat) (I : List (List (List Nat))) (qs : List (List Nat)) (W : World) (h : DS w W d m s q O) (hS : LX s Z I qs c j V) (hkp : keep ≤ 9223372036854775807) :
    Calls Tryz.prog 21 #[.pointer (some ⟨d, 0, none⟩), .int .i64 keep] W fun e W' => e = .returned (.tuple #[]) ∧ ∃ s' q', DkAt W' d m s' q' O ∧ Fr O W W' ∧ ∃ t k, j ≤ k ∧ k ≤ qs.length ∧ LT { s' with off := false } Z I (qs.take k) t V := by
  obtain ⟨pc, hf, hsm, hl⟩ := hS.fl
  have hn := hS.n
  have hz := hS.z
  have hus := hS.used
  have hc := hS.cle
  have hlen : ((fby qs).take c).length = c := by rw [List.length_take]; omega
  have hsg : Segs I.length (LB I ⟨(fby qs).take c, (fby (qs.take j)).length, pc⟩) := ⟨fun i hi => by rw [LB_old _ _ hi], fun i hi => by rw [LB_old _ _ hi], by rw [LB_last]; simp only [hlen]; exact hsm, by rw [LB_last]; simp only; omega⟩
  have hal := (hf.allp_sz hsg q).2
  rw [LB_last] at hal
  have hk : ∀ k, Maps.has s.D (.string k) = true → (s.F k).ps.length ≤ 80 ∧ (s.F k).safe + sumP (s.F k).ps = (s.F k).b.length ∧ (s.F k).b.length ≤ 600 := fun k hk => by
    obtain ⟨i, hi, rfl⟩ := hf.key hk
    rw [hf.F i hi]
    by_cases e : i = I.length
    · subst e
      rw [LB_last]
      have := hS.sg qs (by simp)
      exact ⟨by simp only; omega, by simp only [hlen]; exact hsm, by simp only [hlen]; omega⟩
    · have hi2 : i < I.length := by omega
      rw [LB_old _ _ hi2]
      have := hS.sg (I.getD i []) (by
        rw [List.getD_eq_getElem?_getD, List.getElem?_eq_getElem hi2]
        exact List.mem_append_left _ (List.getElem_mem hi2))
      exact ⟨Nat.zero_le _, rfl, by show (fby (I.getD i [])).length ≤ 600; omega⟩
  refine (crash_any d m keep s q O W h.D (by rw [hal]; simp only; omega) (fun k h => by have := hk k h; omega) hkp (fun k h => by
    have h2 := hk k h
    refine ⟨by omega, fun p hp => ?_⟩
    have := sumP_mem _ p hp
    omega) (fun k h => by have := hk k h; omega) hf.ln (by omega)).mono ?_
  rintro e W' ⟨rfl, L, q', hL, _, hD, _, hfr⟩
  have hq : ∀ i, i < I.length → q.fb (nm (seg sLog i)) ≠ q.fb (nm (seg sLog I.length)) := fun i hi => (h.D.ap _ _ (hf.has (by omega)) (hf.has (by omega)) (fun e => by have := seg_inj (by omega) (by omega) e; omega)).1
  exact ⟨rfl, _, q', hD, hfr, hS.crash q L keep.toNat hL hq⟩
end Go.Proofs.YtmmaddlphclpnaaGreatDoor

namespace Go.Proofs.YtmmaddlphclpnaaGreatDoor
open Go.RowKit Go.ChangeShapes Go.WideShapes Go.Maps Go.Sort

theorem getD_take {α : Type} (l : List α) (M i : Nat) (d : α) (h : i < M) : (l.take M).getD i d = l.getD i d := by
  rw [List.getD_eq_getElem?_getD, List.getD_eq_getElem?_getD, List.getElem?_take_of_lt h]
/-- A segment's bytes. -/
theorem LS.bytes {s : DM} {Z : Nat} {I : List (List (List Nat))} {ps : List (List Nat)} {j V : Nat} (h : LS s Z I ps j V) {i : Nat} (hi : i < I.length + 1) : (s.F (nm (seg sLog i))).b = fby ((I ++ [ps]).getD i []) := by
  obtain ⟨pc, hf, _, _⟩ := h.fl
  rw [hf.F i hi]
  by_cases e : i = I.length
  · subst e
    rw [LB_last]
    simp
  · rw [LB_old _ _ (by omega)]
    rw [List.getD_eq_getElem?_getD, List.getD_eq_getElem?_getD, List.getElem?_append_left (by omega)]
theorem LS.mem {s : DM} {Z : Nat} {I : List (List (List Nat))} {ps : List (List Nat)} {j V : Nat} (_ : LS s Z I ps j V) {i : Nat} (hi : i < I.length + 1) : (I ++ [ps]).getD i [] ∈ I ++ [ps] := by
  have hl : i < (I ++ [ps]).length := by simp; omega
  rw [List.getD_eq_getElem?_getD, List.getElem?_eq_getElem hl]
  exact List.getElem_mem hl
/-- A disk where Open finds something broken. -/
structure Brk (s : DM) (Z N : Nat) : Prop where
  off : s.off = false
  fl : ∃ b, Fls s sLog N b
  n : N ≤ 71
  used : s.used ≤ 42600
  z : Z ≤ 600
  bad : (scn (fun i => (s.F (nm (seg sLog i))).b) N (Z - 12) N ⟨sLog, Z, [], []⟩).2 = false
theorem LS.brk {s : DM} {Z : Nat} {I : List (List (List Nat))} {ps : List (List Nat)} {j V : Nat} (h : LS s Z I ps j V) {M a k : Nat} (hM : M < I.length + 1) (ha : a < (s.F (nm (seg sLog M))).b.length) (hk : k < 8) : Brk (s.turned (nm (seg sLog M)) a k) Z (I.length + 1) := by
  have hu := h.used.1
  have hn := h.n
  have hlen : (I ++ [ps]).length = I.length + 1 := by simp
  have hb := h.bytes hM
  obtain ⟨pc, hf, _, _⟩ := h.fl
  have hpay : ∀ qs ∈ I ++ [ps], ∀ p ∈ qs, p.length ≤ Z - 12 ∧ p.length < 4294967296 := fun qs hq p hp => by
    have := h.pay qs hq p hp
    have := h.z
    omega
  refine ⟨h.good.off, ⟨_, hf.turn (M := M) (by omega) hM ((s.F (nm (seg sLog M))).turn a k) rfl (fun x => rfl) ?_⟩, by omega, hu, h.z, ?_⟩
  · show s.used + _ = s.used + ((s.F (nm (seg sLog M))).b.set a _).length
    rw [List.length_set, hf.F M hM]
  · rw [hb] at ha
    have hBi : ∀ i, i < I.length + 1 → i ≠ M → ((s.turned (nm (seg sLog M)) a k).F (nm (seg sLog i))).b = fby ((I ++ [ps]).getD i []) := fun i hi hne => by
      show (if nm (seg sLog i) = nm (seg sLog M) then _ else _ : FM).b = _
      rw [if_neg (fun e => hne (seg_inj (by omega) (by omega) e))]
      exact h.bytes hi
    have hBM : ((s.turned (nm (seg sLog M)) a k).F (nm (seg sLog M))).b = flipB (fby ((I ++ [ps]).getD M [])) a k := by
      show (if nm (seg sLog M) = nm (seg sLog M) then (s.F (nm (seg sLog M))).turn a k else _ : FM).b = _
      rw [if_pos rfl]
      show (s.F (nm (seg sLog M))).b.set a _ = _
      rw [hb]
      rfl
    have htl : ((I ++ [ps]).take M).length = M := by rw [List.length_take]; omega
    exact scn_turned sLog Z (Z - 12) (fun i => ((s.turned (nm (seg sLog M)) a k).F (nm (seg sLog i))).b) (I.length + 1) a k ((I ++ [ps]).getD M []) (hpay _ (h.mem hM)) ha hk ((I ++ [ps]).take M) [] (I.length + 1) (by rw [htl]; simp; omega) (by rw [htl]; omega) (fun i hi => by
      rw [htl] at hi
      simp only [List.length_nil, Nat.zero_add]
      rw [hBi i (by omega) (by omega), getD_take _ _ _ _ hi]) (by
      rw [htl]
      simp only [List.length_nil, Nat.zero_add]
      exact hBM) (fun qs hq => hpay qs (List.mem_of_mem_take hq))
set_option maxHeartbeats 1000000 in
set_option maxRecDepth 100000 in
/-- Log.find where something is broken. -/
theorem wfind_bad (w : World) (l d m : Nat) (s : DM) (q : DW) (O : Nat → Prop) (Z N : Nat) (W : World) (h : WL w W l d m ⟨sLog, Z, [], []⟩ s q O (.slice none 0 0) (.slice none 0 0)) (hB : Brk s Z N) (hZ : 16 ≤ Z) :
    Calls Tryz.prog 38 #[.pointer (some ⟨l, 0, none⟩)] W fun e W' => e = .returned (.int .i64 4) ∧ Fr (fun k => k = l) W W' := by
  obtain ⟨b, hf⟩ := hB.fl
  have hn := hB.n
  have hz := hB.z
  have hus := hB.used
  have htot : tot (fun i => (s.F (nm (seg sLog i))).b) N ≤ 1048576 := by
    have e : tot (fun i => (s.F (nm (seg sLog i))).b) N = s.used := by
      rw [hf.used]
      exact tot_eq (fun i hi => by rw [hf.F i hi])
    omega
  have hsc := scan_ext w l d m ⟨sLog, Z, [], []⟩ s q O _ _ N (Z - 12) W (fun i => (s.F (nm (seg sLog i))).b) (fun _ => rfl) h rfl rfl rfl rfl (by show (3 : Nat) ≤ 32; decide) hB.off (by omega) (fun i hi => hf.has hi) (hf.no (Nat.le_refl _) (by omega)) htot (by show Z = _; omega) (by omega)
  rw [hB.bad] at hsc
  have HSC : Hid (Calls Tryz.prog 73 #[.pointer (some ⟨l, 0, none⟩)] W fun e W' => e = .returned (.bool false) ∧ Fr (fun k => k = l) W W') := hsc.mono (by
    rintro e W' ⟨rfl, sv, pv, _, hx⟩
    exact ⟨rfl, hx.1⟩)
  clear hsc htot h hf
  go_enter Tryz.func38, Tryz.ntmps38
  go_wp2_with fail
  refine (unhide HSC).mono ?_
  rintro e w1 ⟨rfl, hf1⟩
  have H1 := hide hf1
  clear hf1
  go_wp2_with fail
  go_ret
  exact ⟨rfl, unhide H1⟩
set_option maxHeartbeats 1000000 in
set_option maxRecDepth 100000 in
/-- Open where something is broken: EBROKEN, and all is as it was. -/
theorem wopen_bad (w : World) (d m : Nat) (s : DM) (q : DW) (O : Nat → Prop) (Z N : Nat) (W : World) (h : DS w W d m s q O) (hB : Brk s Z N) (hZ : 16 ≤ Z) :
    Calls Tryz.prog 10 #[.pointer (some ⟨d, 0, none⟩), .string sLog, .int .i64 (Z : Nat)] W fun e W' => e = .returned (.tuple #[.pointer none, .int .i64 4]) ∧ Fr (fun _ => False) W W' := by
  have HO := hide (off_any d m s q O W h.D)
  rw [hB.off] at HO
  have HF : Hid (∀ W1 W2 l, Fr (fun _ => False) W W1 → W2 = W1.alloc (.cells #[.pointer (some ⟨d, 0, none⟩), .string sLog, .int .i64 (Z : Nat), .slice none 0 0, .slice none 0 0] 82) → l = W1.heap.size → Calls Tryz.prog 38 #[.pointer (some ⟨l, 0, none⟩)] W2 fun e W' => e = .returned (.int .i64 4) ∧ Fr (fun _ => False) W W') := fun W1 W2 l hf e2 el => by
    subst el
    subst e2
    have h1 := h.quiet hf
    have hbx := box1 W1 (.cells #[.pointer (some ⟨d, 0, none⟩), .string sLog, .int .i64 (Z : Nat), .slice none 0 0, .slice none 0 0] 82)
    have h2 := h1.quiet hbx
    have hw : WL w (W1.alloc (.cells #[.pointer (some ⟨d, 0, none⟩), .string sLog, .int .i64 (Z : Nat), .slice none 0 0, .slice none 0 0] 82)) W1.heap.size d m ⟨sLog, Z, [], []⟩ s q O (.slice none 0 0) (.slice none 0 0) :=
      ⟨h2.D, ⟨heap_alloc_new _ _, World.ownsRow_nil _ _ _ _, World.ownsRow_nil _ _ _ _⟩, fun e => Nat.lt_irrefl _ (h1.D.lt _ e), fun g hg => (by cases hg), fun g hg => (by cases hg), h2.fr, h2.o, h1.fr.size, fun g hg => (by cases hg), fun g hg => (by cases hg)⟩
    refine (wfind_bad w W1.heap.size d m s q O Z N _ hw hB hZ).mono ?_
    rintro e W3 ⟨rfl, hfr⟩
    refine ⟨rfl, (hf.trans hbx (fun _ _ h => h)).trans hfr (fun k hk e => ?_)⟩
    have := hf.size
    omega
  have HC : Hid (∀ W', Calls Tryz.prog 37 #[.string sLog] W' fun e w' => e = .returned (.string sLog) ∧ Fr (fun _ => False) W' w') := fun W' => sclone_any sLog W' (by decide)
  have hz := hB.z
  have h1 : ¬ (sLog.size : Int) < 1 := by decide
  have h2 : ¬ (32 : Int) < (sLog.size : Int) := by decide
  have h3 : ¬ (Z : Int) < 16 := by omega
  have h4 : ¬ (1048576 : Int) < (Z : Int) := by omega
  clear h hz hZ hB
  generalize sLog = NM at *
  go_enter Tryz.func10, Tryz.ntmps10
  go_wp2_with (go_at_call 33; refine (unhide HO).mono ?_; rintro e w' ⟨rfl, rfl⟩; clear HO)
  refine ((unhide HC) _).mono ?_
  rintro e w1 ⟨rfl, hf1⟩
  have HF1 := hide ((unhide HF) w1 _ _ hf1 rfl rfl)
  clear hf1 HF HC
  go_wp2_with (go_at_call 38; refine (unhide HF1).mono ?_; rintro e w2 ⟨rfl, hW⟩; clear HF1; have HW := hide hW; clear hW)
  go_ret2
  exact ⟨rfl, unhide HW⟩
theorem str_nm (s : ByteArray) : encStr (nm s) = .string s := by
  show Value.string ⟨(s.data.toList).toArray⟩ = _
  rw [Array.toArray_toList]
/-- The names of a disk that has just a log's segments. -/
theorem wnames (d m : Nat) (s : DM) (q : DW) (O : Nat → Prop) (N : Nat) (b : Nat → FM) (W : World) (h : DkAt W d m s q O) (hf : Fls s sLog N b) (h0 : 0 < N) (hN : N ≤ 256) :
    Calls Tryz.prog 11 #[.pointer (some ⟨d, 0, none⟩)] W fun e W' => ∃ g c, e = .returned (.slice (some ⟨g, 0, none⟩) N c) ∧ W.heap.size ≤ g ∧ (∀ i, i < N → ∃ M, M < N ∧ W'.cell? ⟨g, i, none⟩ = some (.string (seg sLog M))) ∧ Fr (fun _ => False) W W' := by
  refine (names_any d m s q O W h (by rw [hf.size]; exact hN)).mono ?_
  rintro e W' ⟨v, ss, rfl, hp, hown, hfr⟩
  have hmem : ∀ x ∈ ss, ∃ M, M < N ∧ x = nm (seg sLog M) := fun x hx => by
    have hx := hp.mem_iff.1 hx
    obtain ⟨es, he⟩ := hf.map
    have hkeys := hf.keys
    rw [he] at hx hkeys
    obtain ⟨p, hp, e⟩ := List.mem_map.1 hx
    have := hkeys.mem_iff.1 (List.mem_map_of_mem (f := Prod.fst) hp)
    obtain ⟨i, hi, e2⟩ := List.mem_map.1 this
    refine ⟨i, List.mem_range.1 hi, ?_⟩
    rw [← e, ← e2]
    rfl
  have hlen : ss.length = N := by
    rw [hp.length_eq]
    obtain ⟨es, he⟩ := hf.map
    have hkeys := hf.keys
    rw [he] at hkeys ⊢
    have := hkeys.length_eq
    rw [List.length_map, List.length_map, List.length_range] at this
    show (es.map _).length = N
    rw [List.length_map]
    exact this
  rw [hlen] at hown
  rcases hown.2 with ⟨_, e0⟩ | ⟨g, c, cur, rfl, hg, hb, hc, _⟩
  · omega
  · refine ⟨g, c, rfl, hg, fun i hi => ?_, hfr⟩
    have hil : i < (ss.mergeSort (fun x y => decide (x ≤ y))).length := by rw [List.length_mergeSort]; omega
    obtain ⟨M, hM, e⟩ := hmem _ ((List.mergeSort_perm ss _).mem_iff.1 (List.getElem_mem hil))
    refine ⟨M, hM, (hown.cellAt i (by omega)).trans ?_⟩
    rw [List.getElem?_map, List.getElem?_eq_getElem hil, e]
    show some (encStr (nm (seg sLog M))) = _
    rw [str_nm]
/-- Bytes count modulo 256. -/
theorem cells_set (l : List Nat) (a y : Nat) (h : y % 256 = l.getD a 0 % 256) : cellsOf (l.set a y) = cellsOf l := by
  unfold cellsOf
  rw [List.map_set]
  rcases Nat.lt_or_ge a l.length with ha | ha
  · have e : B y = (l.map B)[a]'(by simp; exact ha) := by
      rw [List.getElem_map]
      rw [List.getD_eq_getElem?_getD, List.getElem?_eq_getElem ha, Option.getD_some] at h
      simp only [B, h]
    rw [e, List.set_getElem_self]
  · rw [List.set_eq_of_length_le (by simp; exact ha)]
/-- A bit turned, and turned back. -/
theorem DkAt.back {W : World} {d m : Nat} {s : DM} {q : DW} {O : Nat → Prop} {x : List UInt8} {a k : Nat} (h : DkAt W d m ((s.turned x a k).turned x a k) q O) (ha : a < (s.F x).b.length) (hk : k < 8) : DkAt W d m s q O := by
  refine ⟨h.blk, h.map, fun y hy => ⟨(h.at_ y hy).1, ?_⟩, h.own, h.ap, h.od, h.om, h.lt⟩
  have hA := (h.at_ y hy).2
  by_cases e : y = x
  · subst e
    have eF : ((s.turned y a k).turned y a k).F y = ((s.F y).turn a k).turn a k := by simp [DM.turned]
    rw [eF] at hA
    have eb : cellsOf (((s.F y).turn a k).turn a k).b = cellsOf (s.F y).b := by
      show cellsOf (((s.F y).b.set a ((s.F y).b.getD a 0 % 256 ^^^ 2 ^ k)).set a _) = _
      rw [List.set_set]
      refine cells_set _ _ _ ?_
      have e1 : ((s.F y).turn a k).b.getD a 0 = (s.F y).b.getD a 0 % 256 ^^^ 2 ^ k := by
        show ((s.F y).b.set a _).getD a 0 = _
        rw [List.getD_eq_getElem?_getD, List.getElem?_set_self ha]; rfl
      rw [e1, Nat.mod_eq_of_lt (bit_lt hk), Nat.mod_eq_of_lt (bit_lt hk), Nat.xor_assoc, Nat.xor_self, Nat.xor_zero]
    have el : (((s.F y).turn a k).turn a k).b.length = (s.F y).b.length := by
      show (((s.F y).b.set a _).set a _).length = _
      rw [List.length_set, List.length_set]
    have hbo := hA.bo
    rw [eb, el] at hbo
    exact ⟨hA.blk, hbo, hA.po⟩
  · have eF : ((s.turned x a k).turned x a k).F y = s.F y := by simp [DM.turned, e]
    rw [eF] at hA
    exact hA
end Go.Proofs.YtmmaddlphclpnaaGreatDoor

namespace Go.Proofs.YtmmaddlphclpnaaGreatDoor
open Go.RowKit Go.ChangeShapes Go.WideShapes Go.Maps Go.Sort

/-- Four results. -/
theorem results4 {fn : Func} {t u v x : Tmp} (h : fn.results = #[.tmp t, .tmp u, .tmp v, .tmp x]) (tmps : Array Value) (P : Program) (w : World) :
    (results fn tmps).run P w = .ok (.tuple #[tmps.getD t undef, tmps.getD u undef, tmps.getD v undef, tmps.getD x undef]) w := by
  simp [results, h]
/-- How many bytes a segment takes. -/
def segZ (size : Int) : Nat := (Int.tmod size 500).natAbs + 16
theorem segZ_lt (size : Int) : 16 ≤ segZ size ∧ segZ size ≤ 515 := by
  have h1 := Int.tmod_lt_of_pos size (b := 500) (by decide)
  have h2 := Int.lt_tmod_of_pos size (b := 500) (by decide)
  unfold segZ
  omega
/-- What is kept of the first k payloads. -/
def kps (Z : Nat) (pays : List (List Nat)) (k : Nat) : List (List Nat) := (pays.take k).map (fun p => p.take (Z - 12))
theorem kps_len (Z : Nat) (pays : List (List Nat)) (k : Nat) (h : k ≤ pays.length) : (kps Z pays k).length = k := by simp [kps]; omega
theorem kps_succ (Z : Nat) (pays : List (List Nat)) (k : Nat) (h : k < pays.length) : kps Z pays (k + 1) = kps Z pays k ++ [(pays[k]).take (Z - 12)] := by
  rw [kps, List.take_succ_eq_append_getElem h, List.map_append]; rfl
/-- A log with what was appended to it, and the list of that. -/
structure BI (w wr : World) (l d m Z : Nat) (kv : Value) (ks : List (List Nat)) (V : Nat) (z : Bool) : Prop where
  ex : ∃ s q O sv pv I ps j us, WL w wr l d m (LM.of sLog Z (I ++ [ps])) s q O sv pv ∧ LS s Z I ps j V ∧ I.flatten ++ ps = ks ∧ KV w wr kv ks us ∧ (∀ g, kv.ownBlock = some g → ¬ Ours l O sv pv g) ∧ (z = true → j = 0)
theorem BI.fr {w wr : World} {l d m Z : Nat} {kv : Value} {ks : List (List Nat)} {V : Nat} {z : Bool} (h : BI w wr l d m Z kv ks V z) : Fr (fun _ => False) w wr := by
  obtain ⟨s, q, O, sv, pv, I, ps, j, us, h1, _⟩ := h.ex
  exact h1.fr
theorem BI.quiet {w wr wr' : World} {l d m Z : Nat} {kv : Value} {ks : List (List Nat)} {V : Nat} {z : Bool} (h : BI w wr l d m Z kv ks V z) (hf : Fr (fun _ => False) wr wr') : BI w wr' l d m Z kv ks V z := by
  obtain ⟨s, q, O, sv, pv, I, ps, j, us, h1, h2, h3, h4, h5, h6⟩ := h.ex
  exact ⟨s, q, O, sv, pv, I, ps, j, us, h1.quiet hf, h2, h3, h4.fr hf (fun _ _ h => h), h5, h6⟩
/-- A log just opened. -/
theorem BI.start {w wr : World} {l d m Z fb : Nat} {q : DW} {O : Nat → Prop} {sv : Value} (h : WL w wr l d m ⟨sLog, Z, [0], []⟩ ((DM.new 1048576).made (nm (seg sLog 0)) fb) q O sv (.slice none 0 0)) (hZ : Z ≤ 600) (z : Bool) : BI w wr l d m Z (.slice none 0 0) [] 0 z := by
  have hF : Fls (DM.new 1048576) sLog 0 (fun _ => ⟨[], 0, []⟩) := ⟨⟨[], rfl⟩, List.Perm.refl _, fun i hi => by omega, rfl⟩
  have hF1 := hF.made (by decide) fb
  refine ⟨_, q, O, sv, _, [], [], 0, [], h, ⟨new_good 1048576 fb (by decide) _, by show 80 * Z ≤ 1048576; omega, ⟨[], hF1.congr (fun i hi => ?_), rfl, Nat.le_refl _⟩, Nat.le_refl _, fun qs hq => (by cases hq), by simp, fun qs hq => ?_, fun qs hq p hp => ?_, hZ, Nat.le_refl _⟩, rfl, ⟨rfl, World.ownsRow_nil _ _ _ _, fun j u p hu => by simp at hu⟩, fun g hg => (by cases hg), fun _ => rfl⟩
  · obtain rfl : i = 0 := by simp at hi; omega
    rfl
  · simp at hq; subst hq; exact Nat.zero_le _
  · simp at hq; subst hq; cases hp
/-- Append of one more. -/
theorem BI.append {w wr : World} {l d m Z : Nat} {kv : Value} {ks : List (List Nat)} {V : Nat} {z : Bool} (h : BI w wr l d m Z kv ks V z) (y : Value) (p : List Nat) (hy : Src w y p) (hp : p.length + 12 ≤ Z) (hk : ks.length < 70) (hV : V < 1000) :
    Calls Tryz.prog 13 #[.pointer (some ⟨l, 0, none⟩), y] wr fun e W' => e = .returned (.tuple #[.int .i64 (ks.length : Nat), .int .i64 0]) ∧ ∃ s q O sv pv I ps j us, WL w W' l d m (LM.of sLog Z (I ++ [ps])) s q O sv pv ∧ LS s Z I ps j (V + 1) ∧ I.flatten ++ ps = ks ++ [p] ∧ KV w W' kv ks us ∧ (∀ g, kv.ownBlock = some g → ¬ Ours l O sv pv g) ∧ (z = true → j = 0) := by
  obtain ⟨s, q, O, sv, pv, I, ps, j, us, h1, h2, h3, h4, h5, h6⟩ := h.ex
  have hl : I.flatten.length + ps.length = ks.length := by rw [← h3, List.length_append]
  refine (wap_any w l d m s q O sv pv y Z j V I ps p wr h1 h2 hy hp (by omega) hV).mono ?_
  rintro e W' ⟨rfl, s', q', O', sv', pv', I', ps', j', g1, g2, g3, g4, g5, g6⟩
  refine ⟨by rw [hl], s', q', O', sv', pv', I', ps', j', us, g1, g2, by rw [g3, h3], h4.fr g6 h5, fun g hg ho => ?_, fun e => g4 (h6 e)⟩
  rcases g5 g ho with e | e
  · exact h5 g hg e
  · have := (h4.row.lt g hg).2
    omega
/-- append(kept, p) behind it. -/
theorem kept_more {w W' : World} {l d m Z : Nat} {ks : List (List Nat)} {kv : Value} {V : Nat} {z : Bool} {p : List Nat} {uo : Option Addr} {uc : Nat} (h : ∃ s q O sv pv I ps j us, WL w W' l d m (LM.of sLog Z (I ++ [ps])) s q O sv pv ∧ LS s Z I ps j V ∧ I.flatten ++ ps = ks ++ [p] ∧ KV w W' kv ks us ∧ (∀ g, kv.ownBlock = some g → ¬ Ours l O sv pv g) ∧ (z = true → j = 0)) (hu : Src w (.slice uo p.length uc) p) (huc : p.length ≤ uc) (hk : ks.length ≤ 1000) :
    ∃ ao cap w', (Builtin.append_ #[67, 67] 67 #[kv, .slice (some ⟨W'.heap.size, 0, none⟩) 1 1]).run Tryz.prog (W'.alloc (.cells #[.slice uo p.length uc] 35)) = .ok (.slice ao (ks.length + 1) cap) w' ∧ BI w w' l d m Z (.slice ao (ks.length + 1) cap) (ks ++ [p]) V z := by
  obtain ⟨s, q, O, sv, pv, I, ps, j, us, h1, h2, h3, h4, h5, h6⟩ := h
  have hrow := h4.row
  have hul := h4.len
  rw [← hul] at hrow
  obtain ⟨ao, cap, w', hr, hown, hf, hb⟩ := app_sl W' w.heap.size kv us uo p.length uc hrow h1.fr.size (by omega)
  rw [hul] at hr hown hb
  have hnot : ∀ g, (Value.slice ao (ks.length + 1) cap).ownBlock = some g → ¬ Ours l O sv pv g := fun g hg ho => by
    rcases hb g hg with e | e
    · exact h5 g e ho
    · have := h1.lt ho
      omega
  refine ⟨ao, cap, w', hr, s, q, O, sv, pv, I, ps, j, us ++ [.slice uo p.length uc], h1.go2 hf (fun k hk => ⟨h5 k hk, (h4.row.lt k hk).1⟩), h2, h3, ⟨by simp [hul], by rw [List.length_append, List.length_singleton]; exact hown, fun j u p' hu' hp' => ?_⟩, hnot, h6⟩
  rcases Nat.lt_or_ge j ks.length with hj | hj
  · rw [List.getElem?_append_left (by omega)] at hu' hp'
    exact h4.el j u p' hu' hp'
  · rw [List.getElem?_append_right (by omega)] at hu' hp'
    have hj0 : j - ks.length = 0 := by
      have := (List.getElem?_eq_some_iff.1 hp').1
      simp at this
      omega
    rw [hul, hj0] at hu'
    rw [hj0] at hp'
    simp at hu' hp'
    subst hu' hp'
    exact ⟨⟨uo, uc, rfl, huc⟩, hu⟩
/-- Sync. -/
theorem BI.sync {w wr : World} {l d m Z : Nat} {kv : Value} {ks : List (List Nat)} {V : Nat} {z : Bool} (h : BI w wr l d m Z kv ks V z) :
    Calls Tryz.prog 19 #[.pointer (some ⟨l, 0, none⟩)] wr fun e W' => e = .returned (.int .i64 0) ∧ BI w W' l d m Z kv ks V false := by
  obtain ⟨s, q, O, sv, pv, I, ps, j, us, h1, h2, h3, h4, h5, h6⟩ := h.ex
  have ilen : (I.map (fun ps => (fby ps).length)).length = I.length := List.length_map _
  have hn := h2.n
  have := wlsync_any w l d m (LM.of sLog Z (I ++ [ps])) s q O sv pv _ _ wr h1 (of_segs ..) (by rw [ilen]; omega) (by show (3 : Nat) ≤ 32; decide) h2.good.off (by rw [ilen]; exact h2.has (Nat.le_refl _))
  rw [ilen] at this
  refine this.mono ?_
  rintro e W' ⟨rfl, q', O', g1, g2, g3⟩
  refine ⟨rfl, _, q', O', sv, pv, I, ps, ps.length, us, g1, h2.sync, h3, h4.fr g3 (fun g hg ho => h5 g hg (.inl ho)), fun g hg ho => ?_, fun e => by cases e⟩
  rcases ho with e | e
  · rcases g2 g e with e | e
    · exact h5 g hg (.inl e)
    · have := (h4.row.lt g hg).2
      omega
  · exact h5 g hg (.inr e)
theorem BI.weak {w wr : World} {l d m Z : Nat} {kv : Value} {ks : List (List Nat)} {V : Nat} {z : Bool} (h : BI w wr l d m Z kv ks V z) (z' : Bool) (hz : z' = true → z = true) : BI w wr l d m Z kv ks V z' := by
  obtain ⟨s, q, O, sv, pv, I, ps, j, us, h1, h2, h3, h4, h5, h6⟩ := h.ex
  exact ⟨s, q, O, sv, pv, I, ps, j, us, h1, h2, h3, h4, h5, fun e => h6 (hz e)⟩
theorem BI.kv {w wr : World} {l d m Z : Nat} {kv : Value} {ks : List (List Nat)} {V : Nat} {z : Bool} (h : BI w wr l d m Z kv ks V z) : ∃ ao cap, kv = .slice ao ks.length cap := by
  obtain ⟨s, q, O, sv, pv, I, ps, j, us, h1, h2, h3, h4, h5, h6⟩ := h.ex
  exact own_formX h4.row
theorem BI.upV {w wr : World} {l d m Z : Nat} {kv : Value} {ks : List (List Nat)} {V V' : Nat} {z : Bool} (h : BI w wr l d m Z kv ks V z) (hV : V ≤ V') : BI w wr l d m Z kv ks V' z := by
  obtain ⟨s, q, O, sv, pv, I, ps, j, us, h1, h2, h3, h4, h5, h6⟩ := h.ex
  exact ⟨s, q, O, sv, pv, I, ps, j, us, h1, ⟨h2.good, h2.lim, h2.fl, h2.jle, h2.ne, h2.few, h2.sg, h2.pay, h2.z, Nat.le_trans h2.wr hV⟩, h3, h4, h5, h6⟩
/-- What comes in, k-th. -/
theorem KJ.at {w W : World} {xo : Option Addr} {hs : List (List Nat)} (h : KJ w xo hs) (hf : Fr (fun _ => False) w W) {k : Nat} (hk : k < hs.length) : ∃ g o ho hc, xo = some ⟨g, o, none⟩ ∧ W.cell? ⟨g, o + k, none⟩ = some (.slice ho (hs[k]).length hc) ∧ Src w (.slice ho (hs[k]).length hc) hs[k] ∧ (hs[k]).length ≤ hc ∧ (hs[k]).length < 9223372036854775808 := by
  obtain ⟨g, o, ho, hc, h1, h2, h3⟩ := h.el k _ (List.getElem?_eq_getElem hk)
  exact ⟨g, o, ho, hc, h1, cell_fr0 h2 hf, h3⟩
end Go.Proofs.YtmmaddlphclpnaaGreatDoor

namespace Go.Proofs.YtmmaddlphclpnaaGreatDoor
open Go.RowKit Go.ChangeShapes Go.WideShapes Go.Maps Go.Sort

set_option maxHeartbeats 4000000 in
set_option maxRecDepth 100000 in
/-- begun. -/
theorem begun_pos (w : World) (size synced : Int) (xo : Option Addr) (xc : Nat) (pays : List (List Nat)) (W : World) (hw : Fr (fun _ => False) w W) (hP : KJ w xo pays) (hl : pays.length < 9223372036854775808) (hneg : ¬ size.tmod 500 < 0) :
    Calls Tryz.prog 31 #[.int .i64 size, .slice xo pays.length xc, .int .i64 synced] W fun e W' => ∃ l d m kv, e = .returned (.tuple #[.pointer (some ⟨d, 0, none⟩), .pointer (some ⟨l, 0, none⟩), .int .i64 (segZ size : Nat), kv]) ∧ BI w W' l d m (segZ size) kv (kps (segZ size) pays (min pays.length 60)) 60 (decide (synced < 0)) := by
  have hz := segZ_lt size
  obtain ⟨Z, hZ⟩ : ∃ Z, Z = segZ size := ⟨_, rfl⟩
  rw [← hZ] at hz ⊢
  have hA1 : IntKind.i64.wrap (size.tmod 500 + 16) = (Z : Int) := by rw [IntKind.wrap_i64]; unfold segZ at hZ; omega
  have HP := hide (And.intro hw hP)
  clear hZ hw hP
  go_enter Tryz.func31, Tryz.ntmps31
  go_wp2_with fail
  refine (new_any 1048576 W (by decide) (by decide)).mono ?_
  rintro e w2 ⟨d, m, q, O, rfl, hD2, hf2, hO2⟩
  have H2 := hide (DS.mk (w := w) hD2 ((unhide HP).1.trans hf2 (fun _ _ h => h)) (fun k hk => Nat.le_trans (unhide HP).1.size (hO2 k hk)))
  clear hD2 hf2 hO2
  go_wp2_with fail
  refine (open_new w d m Z _ q O sLog w2 (unhide H2) (by decide) (by decide) (by omega) (by omega) rfl rfl (by decide)).mono ?_
  rintro e w3 ⟨l, rfl, fb, q3, O3, sv3, hW3⟩
  have H3 := hide (BI.start hW3 (by omega) (decide (synced < 0)))
  clear hW3 H2
  go_wp2_with fail
  go_loopw [14, 15] (fun kv iv wr => ∃ k : Nat, iv = .int .i64 (k : Nat) ∧ k ≤ pays.length ∧ k ≤ 60 ∧ BI w wr l d m Z kv (kps Z pays k) k (decide (synced < 0))) (fun _ iv _ => 60 - (intOf iv).toNat)
  case atStart => exact ⟨0, rfl, Nat.zero_le _, Nat.zero_le _, unhide H3⟩
  case round =>
    obtain ⟨k, rfl, hk1, hk2, hB⟩ := hrel
    obtain ⟨ao, cap, rfl⟩ := hB.kv
    have hkn := kps_len Z pays k hk1
    rw [hkn] at hB ⊢
    by_cases hkl : k < pays.length ∧ k < 60
    · obtain ⟨hk3, hk4⟩ := hkl
      obtain ⟨g, o, ho, hc, hxo, hcell, hsrc, hcap, hplen⟩ := (unhide HP).2.at hB.fr hk3
      have hks := kps_succ Z pays k hk3
      generalize hPP : pays[k] = P at hcell hsrc hcap hplen hks
      clear hPP
      obtain ⟨N, hN⟩ : ∃ N, N = (P.take (Z - 12)).length := ⟨_, rfl⟩
      have hNm : N = min (Z - 12) P.length := by rw [hN, List.length_take]
      have hsrcN : Src w (.slice ho N hc) (P.take (Z - 12)) := by
        have := hsrc.takeN (min (Z - 12) P.length) (by omega)
        rw [take_min, ← hNm] at this
        exact this
      have hAp := hB.append (.slice ho N hc) (P.take (Z - 12)) hsrcN (by omega) (by omega) (by omega)
      rw [hkn] at hAp
      have HA := hide hAp
      have HQ : Hid (∀ W' kv', kv' = Value.slice ao k cap → (∃ s q O sv pv I ps j us, WL w W' l d m (LM.of sLog Z (I ++ [ps])) s q O sv pv ∧ LS s Z I ps j (k + 1) ∧ I.flatten ++ ps = kps Z pays k ++ [P.take (Z - 12)] ∧ KV w W' kv' (kps Z pays k) us ∧ (∀ g, kv'.ownBlock = some g → ¬ Ours l O sv pv g) ∧ (decide (synced < 0) = true → j = 0)) → ∃ ao' cap' w', (Builtin.append_ #[67, 67] 67 #[.slice ao k cap, .slice (some ⟨W'.heap.size, 0, none⟩) 1 1]).run Tryz.prog (W'.alloc (.cells #[.slice ho N hc] 35)) = .ok (.slice ao' (k + 1) cap') w' ∧ BI w w' l d m Z (.slice ao' (k + 1) cap') (kps Z pays (k + 1)) (k + 1) (decide (synced < 0))) := fun W' kv' ek hex => by
        subst ek
        have := kept_more hex (by rw [← hN]; exact hsrcN) (by rw [← hN]; omega) (by omega)
        rw [hkn, ← hks, ← hN] at this
        exact this
      have hi1 : (k : Int) < (pays.length : Int) := by omega
      have hi2 : (k : Int) < 60 := by omega
      have hw12 : IntKind.i64.wrap ((Z : Int) - 12) = (Z : Int) - 12 := by rw [IntKind.wrap_i64]; omega
      have HKS := hide (And.intro hkn hks)
      clear hAp hsrc hB hks hkn hsrcN hN
      subst hxo
      by_cases hbig : (Z : Int) - 12 < (P.length : Int)
      · have s0 : (0 : Int) ≤ (Z : Int) - 12 := by omega
        have s1 : (Z : Int) - 12 ≤ (hc : Int) := by omega
        have s3 : ((Z : Int) - 12).toNat = N := by omega
        clear hplen hcap hNm
        go_wp2_with fail
        refine (unhide HA).mono ?_
        rintro e w4 ⟨rfl, hex⟩
        obtain ⟨ao2, cap2, w5, hr5, hB5⟩ := (unhide HQ) w4 _ rfl hex
        have HR5 := hide hr5
        have H5 := hide hB5
        clear hex hr5 hB5 HA HQ
        by_cases hsy : (k : Int) = synced
        · subst hsy
          go_wp2_with (at_builtin; refine wpList_app rfl _ _ 67 67 rfl _ _ _ rfl rfl (unhide HR5) ?_; clear HR5)
          refine (unhide H5).sync.mono ?_
          rintro e w6 ⟨rfl, hB6⟩
          have H6 := hide (hB6.weak (decide ((k : Int) < 0)) (fun e => absurd (of_decide_eq_true e) (by omega)))
          clear hB6 H5
          go_wp2_with fail
          exact ⟨⟨k + 1, by simp, by omega, by omega, unhide H6⟩, by simp only [intOf]; omega⟩
        · go_wp2_with (at_builtin; refine wpList_app rfl _ _ 67 67 rfl _ _ _ rfl rfl (unhide HR5) ?_; clear HR5)
          exact ⟨⟨k + 1, by simp, by omega, by omega, unhide H5⟩, by simp only [intOf]; omega⟩
      · have hNP : N = P.length := by omega
        subst hNP
        clear hplen hcap hNm
        go_wp2_with fail
        refine (unhide HA).mono ?_
        rintro e w4 ⟨rfl, hex⟩
        obtain ⟨ao2, cap2, w5, hr5, hB5⟩ := (unhide HQ) w4 _ rfl hex
        have HR5 := hide hr5
        have H5 := hide hB5
        clear hex hr5 hB5 HA HQ
        by_cases hsy : (k : Int) = synced
        · subst hsy
          go_wp2_with (at_builtin; refine wpList_app rfl _ _ 67 67 rfl _ _ _ rfl rfl (unhide HR5) ?_; clear HR5)
          refine (unhide H5).sync.mono ?_
          rintro e w6 ⟨rfl, hB6⟩
          have H6 := hide (hB6.weak (decide ((k : Int) < 0)) (fun e => absurd (of_decide_eq_true e) (by omega)))
          clear hB6 H5
          go_wp2_with fail
          exact ⟨⟨k + 1, by simp, by omega, by omega, unhide H6⟩, by simp only [intOf]; omega⟩
        · go_wp2_with (at_builtin; refine wpList_app rfl _ _ 67 67 rfl _ _ _ rfl rfl (unhide HR5) ?_; clear HR5)
          exact ⟨⟨k + 1, by simp, by omega, by omega, unhide H5⟩, by simp only [intOf]; omega⟩
    · have hmin : min pays.length 60 = k := by omega
      have hB2 := hide (And.intro hB hmin)
      have hnot : ¬ ((k : Int) < (pays.length : Int) ∧ (k : Int) < 60) := by omega
      clear hB hkn hmin
      by_cases hi1 : (k : Int) < (pays.length : Int)
      · have hi2 : ¬ (k : Int) < 60 := by omega
        go_wp2_with fail
        refine bodyPost_ret (results4 rfl _ _ _) rfl ?_
        exact ⟨l, d, m, _, rfl, by rw [(unhide hB2).2]; exact (unhide hB2).1.upV hk2⟩
      · go_wp2_with fail
        refine bodyPost_ret (results4 rfl _ _ _) rfl ?_
        exact ⟨l, d, m, _, rfl, by rw [(unhide hB2).2]; exact (unhide hB2).1.upV hk2⟩
end Go.Proofs.YtmmaddlphclpnaaGreatDoor

namespace Go.Proofs.YtmmaddlphclpnaaGreatDoor
open Go.RowKit Go.ChangeShapes Go.WideShapes Go.Maps Go.Sort

set_option maxHeartbeats 4000000 in
set_option maxRecDepth 100000 in
/-- begun. -/
theorem begun_neg (w : World) (size synced : Int) (xo : Option Addr) (xc : Nat) (pays : List (List Nat)) (W : World) (hw : Fr (fun _ => False) w W) (hP : KJ w xo pays) (hl : pays.length < 9223372036854775808) (hneg : size.tmod 500 < 0) :
    Calls Tryz.prog 31 #[.int .i64 size, .slice xo pays.length xc, .int .i64 synced] W fun e W' => ∃ l d m kv, e = .returned (.tuple #[.pointer (some ⟨d, 0, none⟩), .pointer (some ⟨l, 0, none⟩), .int .i64 (segZ size : Nat), kv]) ∧ BI w W' l d m (segZ size) kv (kps (segZ size) pays (min pays.length 60)) 60 (decide (synced < 0)) := by
  have hz := segZ_lt size
  obtain ⟨Z, hZ⟩ : ∃ Z, Z = segZ size := ⟨_, rfl⟩
  rw [← hZ] at hz ⊢
  have hB1 : IntKind.i64.wrap (-size.tmod 500) = -size.tmod 500 := by rw [IntKind.wrap_i64]; unfold segZ at hZ; omega
  have hB2 : IntKind.i64.wrap (-size.tmod 500 + 16) = (Z : Int) := by rw [IntKind.wrap_i64]; unfold segZ at hZ; omega
  have HP := hide (And.intro hw hP)
  clear hZ hw hP
  go_enter Tryz.func31, Tryz.ntmps31
  go_wp2_with fail
  refine (new_any 1048576 W (by decide) (by decide)).mono ?_
  rintro e w2 ⟨d, m, q, O, rfl, hD2, hf2, hO2⟩
  have H2 := hide (DS.mk (w := w) hD2 ((unhide HP).1.trans hf2 (fun _ _ h => h)) (fun k hk => Nat.le_trans (unhide HP).1.size (hO2 k hk)))
  clear hD2 hf2 hO2
  go_wp2_with fail
  refine (open_new w d m Z _ q O sLog w2 (unhide H2) (by decide) (by decide) (by omega) (by omega) rfl rfl (by decide)).mono ?_
  rintro e w3 ⟨l, rfl, fb, q3, O3, sv3, hW3⟩
  have H3 := hide (BI.start hW3 (by omega) (decide (synced < 0)))
  clear hW3 H2
  go_wp2_with fail
  go_loopw [14, 15] (fun kv iv wr => ∃ k : Nat, iv = .int .i64 (k : Nat) ∧ k ≤ pays.length ∧ k ≤ 60 ∧ BI w wr l d m Z kv (kps Z pays k) k (decide (synced < 0))) (fun _ iv _ => 60 - (intOf iv).toNat)
  case atStart => exact ⟨0, rfl, Nat.zero_le _, Nat.zero_le _, unhide H3⟩
  case round =>
    obtain ⟨k, rfl, hk1, hk2, hB⟩ := hrel
    obtain ⟨ao, cap, rfl⟩ := hB.kv
    have hkn := kps_len Z pays k hk1
    rw [hkn] at hB ⊢
    by_cases hkl : k < pays.length ∧ k < 60
    · obtain ⟨hk3, hk4⟩ := hkl
      obtain ⟨g, o, ho, hc, hxo, hcell, hsrc, hcap, hplen⟩ := (unhide HP).2.at hB.fr hk3
      have hks := kps_succ Z pays k hk3
      generalize hPP : pays[k] = P at hcell hsrc hcap hplen hks
      clear hPP
      obtain ⟨N, hN⟩ : ∃ N, N = (P.take (Z - 12)).length := ⟨_, rfl⟩
      have hNm : N = min (Z - 12) P.length := by rw [hN, List.length_take]
      have hsrcN : Src w (.slice ho N hc) (P.take (Z - 12)) := by
        have := hsrc.takeN (min (Z - 12) P.length) (by omega)
        rw [take_min, ← hNm] at this
        exact this
      have hAp := hB.append (.slice ho N hc) (P.take (Z - 12)) hsrcN (by omega) (by omega) (by omega)
      rw [hkn] at hAp
      have HA := hide hAp
      have HQ : Hid (∀ W' kv', kv' = Value.slice ao k cap → (∃ s q O sv pv I ps j us, WL w W' l d m (LM.of sLog Z (I ++ [ps])) s q O sv pv ∧ LS s Z I ps j (k + 1) ∧ I.flatten ++ ps = kps Z pays k ++ [P.take (Z - 12)] ∧ KV w W' kv' (kps Z pays k) us ∧ (∀ g, kv'.ownBlock = some g → ¬ Ours l O sv pv g) ∧ (decide (synced < 0) = true → j = 0)) → ∃ ao' cap' w', (Builtin.append_ #[67, 67] 67 #[.slice ao k cap, .slice (some ⟨W'.heap.size, 0, none⟩) 1 1]).run Tryz.prog (W'.alloc (.cells #[.slice ho N hc] 35)) = .ok (.slice ao' (k + 1) cap') w' ∧ BI w w' l d m Z (.slice ao' (k + 1) cap') (kps Z pays (k + 1)) (k + 1) (decide (synced < 0))) := fun W' kv' ek hex => by
        subst ek
        have := kept_more hex (by rw [← hN]; exact hsrcN) (by rw [← hN]; omega) (by omega)
        rw [hkn, ← hks, ← hN] at this
        exact this
      have hi1 : (k : Int) < (pays.length : Int) := by omega
      have hi2 : (k : Int) < 60 := by omega
      have hw12 : IntKind.i64.wrap ((Z : Int) - 12) = (Z : Int) - 12 := by rw [IntKind.wrap_i64]; omega
      have HKS := hide (And.intro hkn hks)
      clear hAp hsrc hB hks hkn hsrcN hN
      subst hxo
      by_cases hbig : (Z : Int) - 12 < (P.length : Int)
      · have s0 : (0 : Int) ≤ (Z : Int) - 12 := by omega
        have s1 : (Z : Int) - 12 ≤ (hc : Int) := by omega
        have s3 : ((Z : Int) - 12).toNat = N := by omega
        clear hplen hcap hNm
        go_wp2_with fail
        refine (unhide HA).mono ?_
        rintro e w4 ⟨rfl, hex⟩
        obtain ⟨ao2, cap2, w5, hr5, hB5⟩ := (unhide HQ) w4 _ rfl hex
        have HR5 := hide hr5
        have H5 := hide hB5
        clear hex hr5 hB5 HA HQ
        by_cases hsy : (k : Int) = synced
        · subst hsy
          go_wp2_with (at_builtin; refine wpList_app rfl _ _ 67 67 rfl _ _ _ rfl rfl (unhide HR5) ?_; clear HR5)
          refine (unhide H5).sync.mono ?_
          rintro e w6 ⟨rfl, hB6⟩
          have H6 := hide (hB6.weak (decide ((k : Int) < 0)) (fun e => absurd (of_decide_eq_true e) (by omega)))
          clear hB6 H5
          go_wp2_with fail
          exact ⟨⟨k + 1, by simp, by omega, by omega, unhide H6⟩, by simp only [intOf]; omega⟩
        · go_wp2_with (at_builtin; refine wpList_app rfl _ _ 67 67 rfl _ _ _ rfl rfl (unhide HR5) ?_; clear HR5)
          exact ⟨⟨k + 1, by simp, by omega, by omega, unhide H5⟩, by simp only [intOf]; omega⟩
      · have hNP : N = P.length := by omega
        subst hNP
        clear hplen hcap hNm
        go_wp2_with fail
        refine (unhide HA).mono ?_
        rintro e w4 ⟨rfl, hex⟩
        obtain ⟨ao2, cap2, w5, hr5, hB5⟩ := (unhide HQ) w4 _ rfl hex
        have HR5 := hide hr5
        have H5 := hide hB5
        clear hex hr5 hB5 HA HQ
        by_cases hsy : (k : Int) = synced
        · subst hsy
          go_wp2_with (at_builtin; refine wpList_app rfl _ _ 67 67 rfl _ _ _ rfl rfl (unhide HR5) ?_; clear HR5)
          refine (unhide H5).sync.mono ?_
          rintro e w6 ⟨rfl, hB6⟩
          have H6 := hide (hB6.weak (decide ((k : Int) < 0)) (fun e => absurd (of_decide_eq_true e) (by omega)))
          clear hB6 H5
          go_wp2_with fail
          exact ⟨⟨k + 1, by simp, by omega, by omega, unhide H6⟩, by simp only [intOf]; omega⟩
        · go_wp2_with (at_builtin; refine wpList_app rfl _ _ 67 67 rfl _ _ _ rfl rfl (unhide HR5) ?_; clear HR5)
          exact ⟨⟨k + 1, by simp, by omega, by omega, unhide H5⟩, by simp only [intOf]; omega⟩
    · have hmin : min pays.length 60 = k := by omega
      have hB2 := hide (And.intro hB hmin)
      have hnot : ¬ ((k : Int) < (pays.length : Int) ∧ (k : Int) < 60) := by omega
      clear hB hkn hmin
      by_cases hi1 : (k : Int) < (pays.length : Int)
      · have hi2 : ¬ (k : Int) < 60 := by omega
        go_wp2_with fail
        refine bodyPost_ret (results4 rfl _ _ _) rfl ?_
        exact ⟨l, d, m, _, rfl, by rw [(unhide hB2).2]; exact (unhide hB2).1.upV hk2⟩
      · go_wp2_with fail
        refine bodyPost_ret (results4 rfl _ _ _) rfl ?_
        exact ⟨l, d, m, _, rfl, by rw [(unhide hB2).2]; exact (unhide hB2).1.upV hk2⟩
end Go.Proofs.YtmmaddlphclpnaaGreatDoor

namespace Go.Proofs.YtmmaddlphclpnaaGreatDoor
open Go.RowKit Go.ChangeShapes Go.WideShapes Go.Maps Go.Sort

theorem begun_any (w : World) (size synced : Int) (xo : Option Addr) (xc : Nat) (pays : List (List Nat)) (W : World) (hw : Fr (fun _ => False) w W) (hP : KJ w xo pays) (hl : pays.length < 9223372036854775808) :
    Calls Tryz.prog 31 #[.int .i64 size, .slice xo pays.length xc, .int .i64 synced] W fun e W' => ∃ l d m kv, e = .returned (.tuple #[.pointer (some ⟨d, 0, none⟩), .pointer (some ⟨l, 0, none⟩), .int .i64 (segZ size : Nat), kv]) ∧ BI w W' l d m (segZ size) kv (kps (segZ size) pays (min pays.length 60)) 60 (decide (synced < 0)) := by
  by_cases h : size.tmod 500 < 0
  · exact begun_neg w size synced xo xc pays W hw hP hl h
  · exact begun_pos w size synced xo xc pays W hw hP hl h
end Go.Proofs.YtmmaddlphclpnaaGreatDoor

namespace Go.Proofs.YtmmaddlphclpnaaGreatDoor
open Go.RowKit Go.ChangeShapes Go.WideShapes Go.Maps Go.Sort

/-- At of a payload. -/
theorem wat_of (w : World) (l d m : Nat) (s : DM) (q : DW) (O : Nat → Prop) (sv pv : Value) (Z j V : Nat) (I : List (List (List Nat))) (ps : List (List Nat)) (k : Nat) (p : List Nat) (W : World) (h : WL w W l d m (LM.of sLog Z (I ++ [ps])) s q O sv pv) (hS : LS s Z I ps j V) (hk : (I.flatten ++ ps)[k]? = some p) :
    Calls Tryz.prog 20 #[.pointer (some ⟨l, 0, none⟩), .int .i64 (k : Nat)] W fun e W' => ∃ v, e = .returned (.tuple #[v, .int .i64 0]) ∧ W'.ownsRow W.heap.size 5 1 v p.length (cellsOf p) ∧ Fr (fun _ => False) W W' := by
  have hfl : (I ++ [ps]).flatten = I.flatten ++ ps := by simp
  obtain ⟨a, b, qs, h1, h2, h3, h4⟩ := plc_at (I ++ [ps]) 0 k p (by rw [hfl]; exact hk)
  rw [Nat.zero_add] at h2
  have hn := hS.n
  have hz := hS.z
  have ha : a < I.length + 1 := by
    have := (List.getElem?_eq_some_iff.1 h1).1
    simpa using this
  have hF : (s.F (nm (seg sLog a))).b = fby qs := by
    by_cases e : a = I.length
    · subst e
      rw [List.getElem?_append_right (Nat.le_refl _), Nat.sub_self] at h1
      obtain ⟨pc, hl, _⟩ := hS.last
      rw [hl]
      simp at h1
      rw [h1]
    · rw [List.getElem?_append_left (by omega)] at h1
      rw [hS.old h1]
  have hsg := hS.sg qs (List.mem_of_getElem? h1)
  have := wat_ok w l d m (LM.of sLog Z (I ++ [ps])) s q O sv pv k a b p.length W h h2 (by show (3 : Nat) ≤ 32; decide) (by omega) hS.good.off (hS.has (by omega)) (by show (s.F (nm (seg sLog a))).b.length ≤ _; rw [hF]; omega) (by show _ ≤ (s.F (nm (seg sLog a))).b.length; rw [hF]; exact h4)
  rw [show (s.F (nm (seg (LM.of sLog Z (I ++ [ps])).name a))).b = fby qs from hF, h3] at this
  exact this
/-- Synced. -/
theorem wsyn_of (w : World) (l d m : Nat) (s : DM) (q : DW) (O : Nat → Prop) (sv pv : Value) (Z j V : Nat) (I : List (List (List Nat))) (ps : List (List Nat)) (W : World) (h : WL w W l d m (LM.of sLog Z (I ++ [ps])) s q O sv pv) (hS : LS s Z I ps j V) :
    Calls Tryz.prog 14 #[.pointer (some ⟨l, 0, none⟩)] W fun e W' => e = .returned (.int .i64 ((I.flatten.length + j : Nat) : Int)) ∧ Fr (fun _ => False) W W' := by
  have hn := hS.n
  have hz := hS.z
  have hj := hS.jle
  have ilen : (I.map (fun ps => (fby ps).length)).length = I.length := List.length_map _
  obtain ⟨pc, hF, _⟩ := hS.last
  have hpl : (LM.of sLog Z (I ++ [ps])).pls.length = I.flatten.length + ps.length := of_plen ..
  have hfl : (I ++ [ps]).flatten.length = I.flatten.length + ps.length := by simp
  have hun : ∀ i, i < I.flatten.length + ps.length → (LM.of sLog Z (I ++ [ps])).uns I.length (fby (ps.take j)).length i = decide (I.flatten.length + j ≤ i) := fun i hi => of_uns sLog Z I ps j i (by rw [hfl]; exact hi)
  have hpb : ∀ p ∈ (LM.of sLog Z (I ++ [ps])).pls, p.2.1 ≤ 10000000 ∧ p.2.2 ≤ 10000000 := fun p hp => by
    obtain ⟨k, hk⟩ := List.mem_iff_getElem?.1 hp
    have hkl : k < (I ++ [ps]).flatten.length := by
      have := (List.getElem?_eq_some_iff.1 hk).1
      rw [hpl] at this
      rw [hfl]
      exact this
    obtain ⟨a, b, qs, h1, h2, _, h4⟩ := plc_at (I ++ [ps]) 0 k _ (List.getElem?_eq_getElem hkl)
    have e : p = (0 + a, b, ((I ++ [ps]).flatten[k]).length) := Option.some.inj (hk.symm.trans h2)
    rw [e]
    have := hS.sg qs (List.mem_of_getElem? h1)
    simp only
    omega
  have hs := wsynced_any w l d m (LM.of sLog Z (I ++ [ps])) s q O sv pv _ _ W h (of_segs ..) (by rw [ilen]; omega) (by show (3 : Nat) ≤ 32; decide) (by rw [hpl]; have := hS.few; omega) hpb hS.good.off (by rw [ilen]; exact hS.has (Nat.le_refl _)) (fun a b hab hb => by
    rw [ilen]
    show (LM.of sLog Z (I ++ [ps])).uns I.length (s.F (nm (seg sLog I.length))).safe a = true → (LM.of sLog Z (I ++ [ps])).uns I.length (s.F (nm (seg sLog I.length))).safe b = true
    rw [hF]
    simp only
    rw [hpl] at hb
    rw [hun a (by omega), hun b hb]
    simp only [decide_eq_true_eq]
    omega)
  rw [ilen] at hs
  refine hs.mono ?_
  rintro e W' ⟨r, rfl, h1, h2, h3, hf⟩
  refine ⟨?_, hf⟩
  have h2' : ∀ i, i < r → (LM.of sLog Z (I ++ [ps])).uns I.length (s.F (nm (seg sLog I.length))).safe i = false := h2
  have h3' : ∀ i, r ≤ i → i < (LM.of sLog Z (I ++ [ps])).pls.length → (LM.of sLog Z (I ++ [ps])).uns I.length (s.F (nm (seg sLog I.length))).safe i = true := h3
  rw [hF] at h2' h3'
  simp only at h2' h3'
  rw [hpl] at h1 h3'
  have er : r = I.flatten.length + j := by
    rcases Nat.lt_trichotomy r (I.flatten.length + j) with h | h | h
    · have := h3' r (Nat.le_refl _) (by omega)
      rw [hun r (by omega)] at this
      have := of_decide_eq_true this
      omega
    · exact h
    · have := h2' (I.flatten.length + j) h
      rw [hun _ (by omega)] at this
      have := of_decide_eq_false this
      omega
  rw [er]
end Go.Proofs.YtmmaddlphclpnaaGreatDoor

namespace Go.Proofs.YtmmaddlphclpnaaGreatDoor
open Go.RowKit Go.ChangeShapes Go.WideShapes Go.Maps Go.Sort

/-- A list of slices that can be read. -/
def Rds (W : World) (ko : Option Addr) (ks : List (List Nat)) : Prop := ∀ (j : Nat) p, ks[j]? = some p → ∃ g, ko = some ⟨g, 0, none⟩ ∧ ∃ ho hc, W.cell? ⟨g, j, none⟩ = some (.slice ho p.length hc) ∧ Src W (.slice ho p.length hc) p
theorem Rds.fr0 {W W' : World} {ko : Option Addr} {ks : List (List Nat)} (h : Rds W ko ks) (hf : Fr (fun _ => False) W W') : Rds W' ko ks := fun j p hp => by
  obtain ⟨g, h1, ho, hc, h2, h3⟩ := h j p hp
  exact ⟨g, h1, ho, hc, cell_fr0 h2 hf, h3.fr0 hf⟩
set_option maxHeartbeats 2000000 in
set_option maxRecDepth 100000 in
/-- holds. -/
theorem holds_of (w : World) (l d m : Nat) (s : DM) (q : DW) (O : Nat → Prop) (sv pv : Value) (Z V : Nat) (I : List (List (List Nat))) (ps : List (List Nat)) (ks : List (List Nat)) (ko : Option Addr) (kc : Nat) (W : World) (h : WL w W l d m (LM.of sLog Z (I ++ [ps])) s q O sv pv) (hS : LS s Z I ps ps.length V) (hks : I.flatten ++ ps = ks) (hR : Rds W ko ks) :
    Calls Tryz.prog 34 #[.pointer (some ⟨l, 0, none⟩), .slice ko ks.length kc] W fun e W' => e = .returned (.bool true) ∧ Fr (fun _ => False) W W' := by
  have hlen : I.flatten.length + ps.length = ks.length := by rw [← hks, List.length_append]
  have hfew := hS.few
  have hz := hS.z
  have hkn : ks.length ≤ 70 := by omega
  have HL : Hid (∀ W', Fr (fun _ => False) W W' → Calls Tryz.prog 12 #[.pointer (some ⟨l, 0, none⟩)] W' fun e w' => e = .returned (.int .i64 (ks.length : Nat)) ∧ w' = W') := fun W' hf => by
    have := wlen_any l d (LM.of sLog Z (I ++ [ps])) sv pv W' (h.quiet hf).G
    rw [of_plen, hlen] at this
    exact this
  have HS : Hid (∀ W', Fr (fun _ => False) W W' → Calls Tryz.prog 14 #[.pointer (some ⟨l, 0, none⟩)] W' fun e w' => e = .returned (.int .i64 (ks.length : Nat)) ∧ Fr (fun _ => False) W w') := fun W' hf => by
    have := wsyn_of w l d m s q O sv pv Z ps.length V I ps W' (h.quiet hf) hS
    rw [hlen] at this
    exact this.mono (fun e w' h => ⟨h.1, hf.trans h.2 (fun _ _ h => h)⟩)
  have hpl : ∀ p ∈ ks, p.length ≤ 600 := fun p hp => by
    rw [← hks] at hp
    have : p.length + 12 ≤ Z := by
      rcases List.mem_append.1 hp with hp | hp
      · obtain ⟨qs, h1, h2⟩ := List.mem_flatten.1 hp
        exact hS.pay qs (List.mem_append_left _ h1) p h2
      · exact hS.pay ps (by simp) p hp
    omega
  have HA : Hid (∀ W' (k : Nat) (hk : k < ks.length), Fr (fun _ => False) W W' → Calls Tryz.prog 20 #[.pointer (some ⟨l, 0, none⟩), .int .i64 (k : Nat)] W' fun e W2 => ∃ v, e = .returned (.tuple #[v, .int .i64 0]) ∧ Src W2 v ks[k] ∧ Fr (fun _ => False) W W2) := fun W' k hk hf => by
    refine (wat_of w l d m s q O sv pv Z ps.length V I ps k ks[k] W' (h.quiet hf) hS (by rw [hks]; exact List.getElem?_eq_getElem hk)).mono ?_
    rintro e W2 ⟨v, rfl, h1, h2⟩
    exact ⟨v, rfl, own_src h1, hf.trans h2 (fun _ _ h => h)⟩
  have HR := hide hR
  clear h hS hks hlen hR hfew hz
  have hpl := hide hpl
  go_enter Tryz.func34, Tryz.ntmps34
  go_wp2_with fail
  refine ((unhide HL) _ (Fr.refl _ _)).mono ?_
  rintro e w1 ⟨rfl, rfl⟩
  go_wp2_with fail
  refine ((unhide HS) _ (Fr.refl _ _)).mono ?_
  rintro e w2 ⟨rfl, hf2⟩
  have H2 := hide hf2
  clear hf2 HL HS
  go_wp2_with fail
  go_loopw [5] (fun iv wr => ∃ k : Nat, iv = .int .i64 (k : Nat) ∧ k ≤ ks.length ∧ Fr (fun _ => False) w1 wr) (fun iv _ => ks.length - (intOf iv).toNat)
  case atStart => exact ⟨0, rfl, Nat.zero_le _, unhide H2⟩
  case round =>
    obtain ⟨k, rfl, hk, hf⟩ := hrel
    by_cases hkl : k < ks.length
    · have HA1 := hide ((unhide HA) wr k hkl hf)
      have hpk := (unhide hpl) _ (List.getElem_mem hkl)
      have hR1 := (unhide HR) k _ (List.getElem?_eq_getElem hkl)
      obtain ⟨g, hko, ho, hc, hcell, hsr⟩ := hR1
      have HC : Hid (∀ W', Fr (fun _ => False) w1 W' → W'.cell? ⟨g, k, none⟩ = some (.slice ho (ks[k]).length hc) ∧ Src W' (.slice ho (ks[k]).length hc) ks[k]) := fun W' hf => ⟨cell_fr0 hcell hf, hsr.fr0 hf⟩
      generalize ks[k] = P at HA1 hpk HC
      subst hko
      have hi : (k : Int) < (ks.length : Int) := by omega
      clear hcell hsr hf HA HR
      go_wp2_with fail
      refine (unhide HA1).mono ?_
      rintro e w3 ⟨v, rfl, hv, hf3⟩
      obtain ⟨vo, vc, rfl⟩ := hv.form
      obtain ⟨hc3, hs3⟩ := (unhide HC) _ hf3
      have HSm := hide (same_any (.slice vo P.length vc) (.slice ho P.length hc) P P w3 hv hs3 (by omega))
      rw [show sameB P P = true by simp [sameB]] at HSm
      have H3 := hide hf3
      clear hv hs3 hf3 HA1 HC
      go_wp2_with fail
      refine (unhide HSm).mono ?_
      rintro e w4 ⟨rfl, n4, rfl⟩
      go_wp2_with fail
      exact ⟨⟨k + 1, by simp, by omega, (unhide H3).drewN _⟩, by simp only [intOf]; omega⟩
    · have hi : ¬ (k : Int) < (ks.length : Int) := by omega
      have HF := hide hf
      clear hf
      go_wp2_with fail
      go_ret
      exact ⟨rfl, unhide HF⟩
end Go.Proofs.YtmmaddlphclpnaaGreatDoor

namespace Go.Proofs.YtmmaddlphclpnaaGreatDoor
open Go.RowKit Go.ChangeShapes Go.WideShapes Go.Maps Go.Sort

theorem KV.cell {w W : World} {ao : Option Addr} {cap : Nat} {ks : List (List Nat)} {us : List Value} (h : KV w W (.slice ao ks.length cap) ks us) (hf : Fr (fun _ => False) w W) (j : Nat) (p : List Nat) (hp : ks[j]? = some p) : ∃ g, ao = some ⟨g, 0, none⟩ ∧ ∃ ho hc, W.cell? ⟨g, j, none⟩ = some (.slice ho p.length hc) ∧ Src W (.slice ho p.length hc) p := by
  have hj : j < ks.length := (List.getElem?_eq_some_iff.1 hp).1
  have hju : j < us.length := by rw [h.len]; exact hj
  obtain ⟨gb, cb, eb, _, _⟩ := h.row.form (by omega)
  simp only [Value.slice.injEq, true_and] at eb
  obtain ⟨rfl, rfl⟩ := eb
  obtain ⟨⟨ho, hc, e, _⟩, hs⟩ := h.el j us[j] p (List.getElem?_eq_getElem hju) hp
  refine ⟨gb, rfl, ho, hc, ?_, by rw [← e]; exact hs.fr0 hf⟩
  rw [← e]
  have := h.row.cellAt j (by omega)
  rw [this]
  exact List.getElem?_eq_getElem hju
theorem KV.rds {w W : World} {ao : Option Addr} {cap : Nat} {ks : List (List Nat)} {us : List Value} (h : KV w W (.slice ao ks.length cap) ks us) (hf : Fr (fun _ => False) w W) (n : Nat) : Rds W ao (ks.take n) := fun j p hp => by
  refine h.cell hf j p ?_
  have hj : j < (ks.take n).length := (List.getElem?_eq_some_iff.1 hp).1
  rw [List.length_take] at hj
  rw [List.getElem?_take_of_lt (by omega)] at hp
  exact hp
theorem KV.cap {w W : World} {ao : Option Addr} {cap : Nat} {ks : List (List Nat)} {us : List Value} (h : KV w W (.slice ao ks.length cap) ks us) : ks.length ≤ cap := by
  rcases h.row.2 with ⟨e, e0⟩ | ⟨g, c, cur, e, _, _, hc, _⟩
  · omega
  · simp only [Value.slice.injEq] at e
    omega
theorem wholes_step (ps : List (List Nat)) (k n : Nat) (p : List Nat) (hp : ps[k]? = some p) (hn : p.length + 12 ≤ n) : wholes (ps.drop k) n = wholes (ps.drop (k + 1)) (n - (p.length + 12)) + 1 := by
  have hk : k < ps.length := (List.getElem?_eq_some_iff.1 hp).1
  have e : ps[k] = p := (List.getElem?_eq_some_iff.1 hp).2
  rw [List.drop_eq_getElem_cons hk, e, wholes, if_pos hn]
theorem wholes_stop (ps : List (List Nat)) (k n : Nat) (p : List Nat) (hp : ps[k]? = some p) (hn : ¬ p.length + 12 ≤ n) : wholes (ps.drop k) n = 0 := by
  have hk : k < ps.length := (List.getElem?_eq_some_iff.1 hp).1
  have e : ps[k] = p := (List.getElem?_eq_some_iff.1 hp).2
  rw [List.drop_eq_getElem_cons hk, e, wholes, if_neg hn]
set_option maxHeartbeats 40000000 in
set_option maxRecDepth 100000 in
/-- WalWhole. -/
theorem wwhole_any (size keep : Int) (xo : Option Addr) (xc : Nat) (pays : List (List Nat)) (w : World) (hP : KJ w xo pays) (hl : pays.length < 9223372036854775808) (hkp : keep ≤ 9223372036854775807) :
    Calls Tryz.prog 6 #[.int .i64 size, .slice xo pays.length xc, .int .i64 keep] w fun e w' => e = .returned (.bool true) ∧ Fr (fun _ => False) w w' := by
  have hzz := segZ_lt size
  have HP := hide hP
  clear hP
  go_enter Tryz.func6, Tryz.ntmps6
  go_wp2_with fail
  refine (awake9 w).mono ?_
  rintro e w1 ⟨rfl, hf1⟩
  have H1 := hide hf1
  clear hf1
  go_wp2_with fail
  refine (begun_any w size (-1) xo xc pays w1 (unhide H1) (unhide HP) hl).mono ?_
  rintro e w2 ⟨l, d, m, kv, rfl, hB⟩
  obtain ⟨ks, hks⟩ : ∃ ks, ks = kps (segZ size) pays (min pays.length 60) := ⟨_, rfl⟩
  rw [← hks] at hB
  clear hks
  obtain ⟨ao, cap, rfl⟩ := hB.kv
  obtain ⟨s, q, O, sv, pv, I, ps, j, us, g1, g2, g3, g4, g5, g6⟩ := hB.ex
  obtain rfl : j = 0 := g6 rfl
  generalize segZ size = Z at *
  have hlen : I.flatten.length + ps.length = ks.length := by rw [← g3, List.length_append]
  have hfew := g2.few
  have hcap := g4.cap
  have hsyn := wsyn_of w l d m s q O sv pv Z 0 60 I ps w2 g1 g2
  rw [Nat.add_zero] at hsyn
  have HS := hide hsyn
  have hpn := g2.sg ps (by simp)
  have hZ := g2.z
  have G := hide (And.intro g1 (And.intro g2 (And.intro g3 (And.intro g4 g5))))
  clear hB g1 g2 g3 g4 g5 g6 hsyn H1 HP
  go_wp2_with fail
  refine (unhide HS).mono ?_
  rintro e w3 ⟨rfl, hf3⟩
  have hpd := wpend_any w d m s q O Z 0 60 I ps w3 ((unhide G).1.quiet hf3).ds (unhide G).2.1
  rw [List.take_zero, fby_nil, List.length_nil, Nat.sub_zero] at hpd
  have HPD := hide hpd
  have H3 := hide hf3
  clear hf3 hpd HS
  obtain ⟨F, hF⟩ : ∃ F, F = I.flatten.length := ⟨_, rfl⟩
  obtain ⟨pn, hpn0⟩ : ∃ pn, pn = (fby ps).length := ⟨_, rfl⟩
  rw [← hpn0] at HPD hpn
  rw [← hF] at hlen hfew ⊢
  have HF := hide (And.intro hF hpn0)
  have HLN := hide hlen
  clear hF hpn0
  go_wp2_with fail
  refine (unhide HPD).mono ?_
  rintro e w4 ⟨rfl, hf4⟩
  have H4 := hide ((unhide H3).trans hf4 (fun _ _ h => h))
  clear hf4 HPD H3
  go_wp2_with fail
  obtain ⟨n0, hn0⟩ : ∃ n0 : Nat, n0 = min keep.toNat pn := ⟨_, rfl⟩
  have hmx : max (0 : Int) (min keep (pn : Int)) = (n0 : Int) := by omega
  rw [hmx]
  have hn06 : n0 ≤ 600 := by omega
  have HN0 := hide hn0
  clear hmx hn0
  go_loopw [12, 13] (fun lv wv wr => ∃ k n T : Nat, lv = .int .i64 (n : Nat) ∧ wv = .int .i64 (T : Nat) ∧ T = F + k ∧ k ≤ ps.length ∧ n ≤ 600 ∧ wholes ps n0 = k + wholes (ps.drop k) n ∧ Fr (fun _ => False) w4 wr) (fun _ wv _ => F + ps.length - (intOf wv).toNat)
  case atStart => exact ⟨0, n0, F, rfl, rfl, rfl, Nat.zero_le _, hn06, by simp, Fr.refl _ _⟩
  case round =>
    obtain ⟨k, n, T, rfl, rfl, hTk, hk, hn, hwh, hf⟩ := hrel
    have HTk := hide hTk
    have hTle : T ≤ F + ps.length := by omega
    by_cases hkl : k < ps.length
    · have hpk : ks[T]? = some ps[k] := by
        rw [← (unhide G).2.2.1, hTk, (unhide HF).1, List.getElem?_append_right (by omega), Nat.add_sub_cancel_left, List.getElem?_eq_getElem hkl]
      have hfw := ((unhide G).1.fr.trans (unhide H4) (fun _ _ h => h)).trans hf (fun _ _ h => h)
      have hkvr := (unhide G).2.2.2.1.fr ((unhide H4).trans hf (fun _ _ h => h)) (fun _ _ h => h)
      obtain ⟨g, hao, ho, hc, hcell, _⟩ := hkvr.cell hfw T _ hpk
      have hP12 := (unhide G).2.1.pay ps (by simp) _ (List.getElem_mem hkl)
      have hpe : ps[k]? = some ps[k] := List.getElem?_eq_getElem hkl
      have hst := wholes_step ps k n ps[k] hpe
      have hso := wholes_stop ps k n ps[k] hpe
      generalize ps[k] = P at hcell hP12 hst hso
      have hi : (T : Int) < (ks.length : Int) := by omega
      have hw12 : IntKind.i64.wrap ((P.length : Int) + 12) = (P.length : Int) + 12 := by rw [IntKind.wrap_i64]; omega
      have hTl : T < ks.length := by omega
      clear hpk hfw hkvr hpe hTk hlen
      by_cases hfit : (P.length : Int) + 12 ≤ (n : Int)
      · have hwa : IntKind.i64.wrap ((n : Int) - (P.length : Int)) = (n : Int) - (P.length : Int) := by rw [IntKind.wrap_i64]; omega
        have hwb : IntKind.i64.wrap ((n : Int) - (P.length : Int) - 12) = (n : Int) - (P.length : Int) - 12 := by rw [IntKind.wrap_i64]; omega
        have hwT : IntKind.i64.wrap ((T : Int) + 1) = (T : Int) + 1 := by rw [IntKind.wrap_i64]; omega
        have hst1 := hst (by omega)
        subst hao
        have HX := hide (And.intro hst1 (And.intro hwh hf))
        clear hst hso hst1 hwh hf
        go_wp2_with fail
        refine ⟨⟨k + 1, n - (P.length + 12), T + 1, ?_, ?_, by have := unhide HTk; omega, by omega, by omega, ?_, (unhide HX).2.2⟩, by simp only [intOf]; have := unhide HTk; omega⟩
        · rw [show ((n - (P.length + 12) : Nat) : Int) = (n : Int) - (P.length : Int) - 12 by omega]
        · rw [show ((T + 1 : Nat) : Int) = (T : Int) + 1 by omega]
        · rw [(unhide HX).2.1, (unhide HX).1]; omega
      · have hK : wholes ps n0 = k := by rw [hwh, hso (by omega), Nat.add_zero]
        have hcell2 : wr.cell? ⟨g, T, none⟩ = some (.slice ho P.length hc) := hcell
        clear hst hso hcell
        subst hao
        have hfW := (unhide H4).trans hf (fun _ _ h => h)
        have gW := (unhide G).1.quiet hfW
        have hT2 := wcrash_any w d m keep s q O Z 0 60 I ps wr gW.ds (unhide G).2.1 hkp
        have ek : 0 + wholes (ps.drop 0) (min keep.toNat ((fby ps).length - (fby (ps.take 0)).length)) = k := by
          rw [List.drop_zero, List.take_zero, fby_nil, List.length_nil, Nat.sub_zero, ← (unhide HF).2, ← unhide HN0, Nat.zero_add]; exact hK
        rw [ek] at hT2
        have HT2 := hide hT2
        have HW := hide (And.intro hfW gW)
        have HK := hide (And.intro (unhide HTk) (And.intro hk hK))
        have hTc : (T : Int) ≤ (cap : Int) := by omega
        clear hT2 ek hfW gW hK hwh hf
        go_wp2_with fail
        refine (unhide HT2).mono ?_
        rintro e w5 ⟨rfl, s5, q5, hD5, hf5, t, hT5⟩
        have H5 := hide (And.intro hf5 hT5)
        have HS5 := hide (start_any d m s5 q5 O w5 hD5)
        clear hD5 hf5 hT5 HT2
        go_wp2_with fail
        refine (unhide HS5).mono ?_
        rintro e w6 ⟨rfl, hD6, hf6⟩
        have hDS : DS w w6 d m _ q5 O := ⟨hD6, ((unhide HW).2.fr.absorb (unhide H5).1 (unhide HW).2.o).absorb hf6 (fun k e => by rw [e]; exact (unhide HW).2.o _ (unhide HW).2.D.od), (unhide HW).2.o⟩
        have HO6 := hide (wopen_at w d m _ q5 O Z 60 I (ps.take k) t w6 hDS (unhide H5).2 hzz.1)
        have H6 := hide hf6
        clear hD6 hf6 hDS HS5
        go_wp2_with fail
        refine (unhide HO6).mono ?_
        rintro e w7 ⟨l7, rfl, s7, q7, O7, sv7, pv7, h7, hS7, _, hf7⟩
        have hkv7 : KV w w7 (.slice (some ⟨g, 0, none⟩) ks.length cap) ks us := by
          obtain ⟨g1, g2, g3, g4, g5⟩ := unhide G
          refine (((g4.fr (unhide HW).1 (fun _ _ h => h)).fr (unhide H5).1 (fun g hg ho => g5 g hg (.inl ho))).fr (unhide H6) (fun g hg e => g5 g hg (.inl ?_))).fr hf7 (fun g hg ho => g5 g hg (.inl ho))
          rw [e]
          exact (unhide HW).2.D.od
        have eks : I.flatten ++ ps.take k = ks.take T := by
          rw [← (unhide G).2.2.1, (unhide HK).1, (unhide HF).1, List.take_length_add_append]
        have hlT : (ks.take T).length = T := by
          rw [List.length_take]
          have := (unhide HK).1
          have := (unhide HK).2.1
          have := unhide HLN
          omega
        have hho := holds_of w l7 d m s7 q7 O7 sv7 pv7 Z 60 I (ps.take k) (ks.take T) (some ⟨g, 0, none⟩) cap w7 h7 hS7 eks (hkv7.rds h7.fr T)
        rw [hlT] at hho
        have HH := hide hho
        have H7 := hide h7.fr
        clear h7 hS7 hf7 hkv7 eks hlT hho HO6 H6 H5
        go_wp2_with fail
        refine (unhide HH).mono ?_
        rintro e w8 ⟨rfl, hf8⟩
        have H8 := hide ((unhide H7).trans hf8 (fun _ _ h => h))
        clear hf8 H7 HH
        go_wp2_with fail
        go_ret
        exact ⟨rfl, unhide H8⟩
    · have hK : wholes ps n0 = k := by
        rw [hwh, List.drop_eq_nil_of_le (by omega)]; rfl
      have hi : ¬ (T : Int) < (ks.length : Int) := by omega
      have hTl : T ≤ ks.length := by omega
      clear hTk hlen
      have hfW := (unhide H4).trans hf (fun _ _ h => h)
      have gW := (unhide G).1.quiet hfW
      have hT2 := wcrash_any w d m keep s q O Z 0 60 I ps wr gW.ds (unhide G).2.1 hkp
      have ek : 0 + wholes (ps.drop 0) (min keep.toNat ((fby ps).length - (fby (ps.take 0)).length)) = k := by
        rw [List.drop_zero, List.take_zero, fby_nil, List.length_nil, Nat.sub_zero, ← (unhide HF).2, ← unhide HN0, Nat.zero_add]; exact hK
      rw [ek] at hT2
      have HT2 := hide hT2
      have HW := hide (And.intro hfW gW)
      have HK := hide (And.intro (unhide HTk) (And.intro hk hK))
      have hTc : (T : Int) ≤ (cap : Int) := by omega
      clear hT2 ek hfW gW hK hwh hf
      go_wp2_with fail
      refine (unhide HT2).mono ?_
      rintro e w5 ⟨rfl, s5, q5, hD5, hf5, t, hT5⟩
      have H5 := hide (And.intro hf5 hT5)
      have HS5 := hide (start_any d m s5 q5 O w5 hD5)
      clear hD5 hf5 hT5 HT2
      go_wp2_with fail
      refine (unhide HS5).mono ?_
      rintro e w6 ⟨rfl, hD6, hf6⟩
      have hDS : DS w w6 d m _ q5 O := ⟨hD6, ((unhide HW).2.fr.absorb (unhide H5).1 (unhide HW).2.o).absorb hf6 (fun k e => by rw [e]; exact (unhide HW).2.o _ (unhide HW).2.D.od), (unhide HW).2.o⟩
      have HO6 := hide (wopen_at w d m _ q5 O Z 60 I (ps.take k) t w6 hDS (unhide H5).2 hzz.1)
      have H6 := hide hf6
      clear hD6 hf6 hDS HS5
      go_wp2_with fail
      refine (unhide HO6).mono ?_
      rintro e w7 ⟨l7, rfl, s7, q7, O7, sv7, pv7, h7, hS7, _, hf7⟩
      have hkv7 : KV w w7 (.slice ao ks.length cap) ks us := by
        obtain ⟨g1, g2, g3, g4, g5⟩ := unhide G
        refine (((g4.fr (unhide HW).1 (fun _ _ h => h)).fr (unhide H5).1 (fun g hg ho => g5 g hg (.inl ho))).fr (unhide H6) (fun g hg e => g5 g hg (.inl ?_))).fr hf7 (fun g hg ho => g5 g hg (.inl ho))
        rw [e]
        exact (unhide HW).2.D.od
      have eks : I.flatten ++ ps.take k = ks.take T := by
        rw [← (unhide G).2.2.1, (unhide HK).1, (unhide HF).1, List.take_length_add_append]
      have hlT : (ks.take T).length = T := by
        rw [List.length_take]
        have := (unhide HK).1
        have := (unhide HK).2.1
        have := unhide HLN
        omega
      have hho := holds_of w l7 d m s7 q7 O7 sv7 pv7 Z 60 I (ps.take k) (ks.take T) ao cap w7 h7 hS7 eks (hkv7.rds h7.fr T)
      rw [hlT] at hho
      have HH := hide hho
      have H7 := hide h7.fr
      clear h7 hS7 hf7 hkv7 eks hlT hho HO6 H6 H5
      go_wp2_with fail
      refine (unhide HH).mono ?_
      rintro e w8 ⟨rfl, hf8⟩
      have H8 := hide ((unhide H7).trans hf8 (fun _ _ h => h))
      clear hf8 H7 HH
      go_wp2_with fail
      go_ret
      exact ⟨rfl, unhide H8⟩
end Go.Proofs.YtmmaddlphclpnaaGreatDoor

namespace Go.Proofs.YtmmaddlphclpnaaGreatDoor
open Go.RowKit Go.ChangeShapes Go.WideShapes Go.Maps Go.Sort

theorem segL_size {M : Nat} (h : M < 100) : (seg sLog M).size ≤ maxLen := by
  have := (seg_size sLog M h).2
  have e : sLog.size = 3 := by decide
  simp only [maxLen]
  omega
/-- A log's disk, with the list of what was appended. -/
structure TA (w W : World) (d m Z : Nat) (kv : Value) (ks : List (List Nat)) (N : Nat) : Prop where
  ex : ∃ s q O I ps j us, DS w W d m s q O ∧ LS s Z I ps j 60 ∧ I.flatten ++ ps = ks ∧ KV w W kv ks us ∧ (∀ g, kv.ownBlock = some g → ¬ O g) ∧ N = I.length + 1
/-- With its names. -/
structure TN (w W : World) (d m Z : Nat) (kv : Value) (ks : List (List Nat)) (N g : Nat) : Prop where
  ex : ∃ s q O I ps j us, DS w W d m s q O ∧ LS s Z I ps j 60 ∧ I.flatten ++ ps = ks ∧ KV w W kv ks us ∧ (∀ g, kv.ownBlock = some g → ¬ O g) ∧ N = I.length + 1 ∧ ¬ O g
/-- The same with one bit turned. -/
structure TB (w W : World) (d m Z : Nat) (kv : Value) (ks : List (List Nat)) (N M a k g i : Nat) : Prop where
  ex : ∃ s q O I ps j us, DS w W d m (s.turned (nm (seg sLog M)) a k) q O ∧ LS s Z I ps j 60 ∧ I.flatten ++ ps = ks ∧ KV w W kv ks us ∧ (∀ g, kv.ownBlock = some g → ¬ O g) ∧ N = I.length + 1 ∧ M < N ∧ a < (s.F (nm (seg sLog M))).b.length ∧ k < 8 ∧ W.cell? ⟨g, i, none⟩ = some (.string (seg sLog M))
/-- The log opened. -/
structure TO (w W : World) (l d m Z : Nat) (kv : Value) (ks : List (List Nat)) : Prop where
  ex : ∃ s q O sv pv I ps us, WL w W l d m (LM.of sLog Z (I ++ [ps])) s q O sv pv ∧ LS s Z I ps ps.length 60 ∧ I.flatten ++ ps = ks ∧ KV w W kv ks us
theorem TA.quiet {w W W' : World} {d m Z : Nat} {kv : Value} {ks : List (List Nat)} {N : Nat} (h : TA w W d m Z kv ks N) (hf : Fr (fun _ => False) W W') : TA w W' d m Z kv ks N := by
  obtain ⟨s, q, O, I, ps, j, us, h1, h2, h3, h4, h5, h6⟩ := h.ex
  exact ⟨s, q, O, I, ps, j, us, h1.quiet hf, h2, h3, h4.fr hf (fun _ _ h => h), h5, h6⟩
theorem TB.quiet {w W W' : World} {d m Z : Nat} {kv : Value} {ks : List (List Nat)} {N M a k g i : Nat} (h : TB w W d m Z kv ks N M a k g i) (hf : Fr (fun _ => False) W W') : TB w W' d m Z kv ks N M a k g i := by
  obtain ⟨s, q, O, I, ps, j, us, h1, h2, h3, h4, h5, h6, h7, h8, h9, h10⟩ := h.ex
  exact ⟨s, q, O, I, ps, j, us, h1.quiet hf, h2, h3, h4.fr hf (fun _ _ h => h), h5, h6, h7, h8, h9, cell_fr0 h10 hf⟩
theorem TB.cell {w W : World} {d m Z : Nat} {kv : Value} {ks : List (List Nat)} {N M a k g i : Nat} (h : TB w W d m Z kv ks N M a k g i) : W.cell? ⟨g, i, none⟩ = some (.string (seg sLog M)) := by
  obtain ⟨s, q, O, I, ps, j, us, h1, h2, h3, h4, h5, h6, h7, h8, h9, h10⟩ := h.ex
  exact h10
theorem BI.ta {w W : World} {l d m Z : Nat} {kv : Value} {ks : List (List Nat)} {z : Bool} (h : BI w W l d m Z kv ks 60 z) : ∃ N, 0 < N ∧ N ≤ 71 ∧ TA w W d m Z kv ks N := by
  obtain ⟨s, q, O, sv, pv, I, ps, j, us, h1, h2, h3, h4, h5, h6⟩ := h.ex
  have := h2.n
  exact ⟨I.length + 1, by omega, by omega, s, q, O, I, ps, j, us, h1.ds, h2, h3, h4, fun g hg ho => h5 g hg (.inl ho), rfl⟩
theorem TA.fr {w W : World} {d m Z : Nat} {kv : Value} {ks : List (List Nat)} {N : Nat} (h : TA w W d m Z kv ks N) : Fr (fun _ => False) w W := by
  obtain ⟨s, q, O, I, ps, j, us, h1, h2, h3, h4, h5, h6⟩ := h.ex
  exact h1.fr
theorem TA.names {w W : World} {d m Z : Nat} {kv : Value} {ks : List (List Nat)} {N : Nat} (h : TA w W d m Z kv ks N) :
    Calls Tryz.prog 11 #[.pointer (some ⟨d, 0, none⟩)] W fun e W' => ∃ g c, e = .returned (.slice (some ⟨g, 0, none⟩) N c) ∧ (∀ i, i < N → ∃ M, M < N ∧ W'.cell? ⟨g, i, none⟩ = some (.string (seg sLog M))) ∧ TN w W' d m Z kv ks N g := by
  obtain ⟨s, q, O, I, ps, j, us, h1, h2, h3, h4, h5, h6⟩ := h.ex
  obtain ⟨pc, hf, _, _⟩ := h2.fl
  have hn := h2.n
  rw [← h6] at hf
  refine (wnames d m s q O N _ W h1.D hf (by omega) (by omega)).mono ?_
  rintro e W' ⟨g, c, rfl, hg, hc, hfr⟩
  exact ⟨g, c, rfl, hc, s, q, O, I, ps, j, us, h1.quiet hfr, h2, h3, h4.fr hfr (fun _ _ h => h), h5, h6, fun ho => by have := h1.D.lt _ ho; omega⟩
theorem TN.fr {w W : World} {d m Z : Nat} {kv : Value} {ks : List (List Nat)} {N g : Nat} (h : TN w W d m Z kv ks N g) : Fr (fun _ => False) w W := by
  obtain ⟨s, q, O, I, ps, j, us, h1, _⟩ := h.ex
  exact h1.fr
theorem TN.sized {w W : World} {d m Z : Nat} {kv : Value} {ks : List (List Nat)} {N M g i : Nat} (h : TN w W d m Z kv ks N g) (hM : M < N) (hcell : W.cell? ⟨g, i, none⟩ = some (.string (seg sLog M))) : ∃ L, L ≤ 600 ∧ (Calls Tryz.prog 36 #[.pointer (some ⟨d, 0, none⟩), .string (seg sLog M)] W fun e W' => e = .returned (.tuple #[.int .i64 (L : Nat), .int .i64 0]) ∧ W' = W) ∧ ∀ a k, a < L → k < 8 → Calls Tryz.prog 23 #[.pointer (some ⟨d, 0, none⟩), .string (seg sLog M), .int .i64 (a : Nat), .int .u64 (k : Nat)] W fun e W' => e = .returned (.int .i64 0) ∧ TB w W' d m Z kv ks N M a k g i := by
  obtain ⟨s, q, O, I, ps, j, us, h1, h2, h3, h4, h5, h6, h7⟩ := h.ex
  have hn := h2.n
  have hz := h2.z
  have hb := h2.bytes (i := M) (by omega)
  have hsg := h2.sg _ (h2.mem (i := M) (by omega))
  have hsz := segL_size (M := M) (by omega)
  have hh := h2.has (i := M) (by omega)
  refine ⟨(s.F (nm (seg sLog M))).b.length, by rw [hb]; omega, size_at d m s q O (seg sLog M) W h1.D h2.good.off hsz hh, fun a k ha hk => ?_⟩
  refine (turn_at d m s q O (seg sLog M) a k W h1.D h2.good.off hsz hh ha hk).mono ?_
  rintro e W' ⟨rfl, q', O', hD, hf, hO⟩
  have hc' : W'.cell? ⟨g, i, none⟩ = some (.string (seg sLog M)) := by
    have hb := hf.block g (cell_lt hcell) h7
    rw [← hcell]
    simp only [World.cell?, hb]
  refine ⟨rfl, s, q', O', I, ps, j, us, h1.step hD hf hO, h2, h3, h4.fr hf h5, fun g hg ho => ?_, h6, hM, ha, hk, hc'⟩
  rcases hO g ho with e | e
  · exact h5 g hg e
  · have := (h4.row.lt g hg).2
    omega
theorem TB.open {w W : World} {d m Z : Nat} {kv : Value} {ks : List (List Nat)} {N M a k g i : Nat} (h : TB w W d m Z kv ks N M a k g i) (hZ : 16 ≤ Z) :
    Calls Tryz.prog 10 #[.pointer (some ⟨d, 0, none⟩), .string sLog, .int .i64 (Z : Nat)] W fun e W' => e = .returned (.tuple #[.pointer none, .int .i64 4]) ∧ TB w W' d m Z kv ks N M a k g i := by
  obtain ⟨s, q, O, I, ps, j, us, h1, h2, h3, h4, h5, h6, h7, h8, h9, _⟩ := h.ex
  refine (wopen_bad w d m _ q O Z (I.length + 1) W h1 (h2.brk (by omega) h8 h9) hZ).mono ?_
  rintro e W' ⟨rfl, hf⟩
  exact ⟨rfl, h.quiet hf⟩
theorem TB.back {w W : World} {d m Z : Nat} {kv : Value} {ks : List (List Nat)} {N M a k g i : Nat} (h : TB w W d m Z kv ks N M a k g i) :
    Calls Tryz.prog 23 #[.pointer (some ⟨d, 0, none⟩), .string (seg sLog M), .int .i64 (a : Nat), .int .u64 (k : Nat)] W fun e W' => e = .returned (.int .i64 0) ∧ TA w W' d m Z kv ks N := by
  obtain ⟨s, q, O, I, ps, j, us, h1, h2, h3, h4, h5, h6, h7, h8, h9, _⟩ := h.ex
  have hn := h2.n
  have hsz := segL_size (M := M) (by omega)
  have hh : Maps.has (s.turned (nm (seg sLog M)) a k).D (.string (nm (seg sLog M))) = true := h2.has (i := M) (by omega)
  have hl : a < ((s.turned (nm (seg sLog M)) a k).F (nm (seg sLog M))).b.length := by
    have e : (s.turned (nm (seg sLog M)) a k).F (nm (seg sLog M)) = (s.F (nm (seg sLog M))).turn a k := by simp [DM.turned]
    rw [e]
    show a < ((s.F (nm (seg sLog M))).b.set a _).length
    rw [List.length_set]
    exact h8
  refine (turn_at d m _ q O (seg sLog M) a k W h1.D h2.good.off hsz hh hl h9).mono ?_
  rintro e W' ⟨rfl, q', O', hD, hf, hO⟩
  refine ⟨rfl, s, q', O', I, ps, j, us, h1.step (hD.back h8 h9) hf hO, h2, h3, h4.fr hf h5, fun g hg ho => ?_, h6⟩
  rcases hO g ho with e | e
  · exact h5 g hg e
  · have := (h4.row.lt g hg).2
    omega
theorem TA.open {w W : World} {d m Z : Nat} {kv : Value} {ks : List (List Nat)} {N : Nat} (h : TA w W d m Z kv ks N) (hZ : 16 ≤ Z) :
    Calls Tryz.prog 10 #[.pointer (some ⟨d, 0, none⟩), .string sLog, .int .i64 (Z : Nat)] W fun e W' => ∃ l, e = .returned (.tuple #[.pointer (some ⟨l, 0, none⟩), .int .i64 0]) ∧ TO w W' l d m Z kv ks := by
  obtain ⟨s, q, O, I, ps, j, us, h1, h2, h3, h4, h5, h6⟩ := h.ex
  refine (wopen_at w d m s q O Z 60 I ps [] W h1 h2.lt hZ).mono ?_
  rintro e W' ⟨l, rfl, s', q', O', sv, pv, g1, g2, g3, g4⟩
  exact ⟨l, rfl, s', q', O', sv, pv, I, ps, us, g1, g2, h3, h4.fr g4 h5⟩
theorem TO.holds {w W : World} {l d m Z : Nat} {ao : Option Addr} {cap : Nat} {ks : List (List Nat)} (h : TO w W l d m Z (.slice ao ks.length cap) ks) :
    Calls Tryz.prog 34 #[.pointer (some ⟨l, 0, none⟩), .slice ao ks.length cap] W fun e W' => e = .returned (.bool true) ∧ Fr (fun _ => False) w W' := by
  obtain ⟨s, q, O, sv, pv, I, ps, us, h1, h2, h3, h4⟩ := h.ex
  have hr := h4.rds h1.fr ks.length
  rw [List.take_length] at hr
  refine (holds_of w l d m s q O sv pv Z 60 I ps ks ao cap W h1 h2 h3 hr).mono ?_
  rintro e W' ⟨rfl, hf⟩
  exact ⟨rfl, h1.fr.trans hf (fun _ _ h => h)⟩
end Go.Proofs.YtmmaddlphclpnaaGreatDoor

namespace Go.Proofs.YtmmaddlphclpnaaGreatDoor
open Go.RowKit Go.ChangeShapes Go.WideShapes Go.Maps Go.Sort

theorem tmod_abs (x : Int) (N : Nat) (h : 0 < N) : ∃ i : Nat, i < N ∧ (x.tmod (N : Int) = (i : Int) ∨ (x.tmod (N : Int) = -(i : Int) ∧ 0 < i)) := by
  have e1 := Int.tmod_lt_of_pos x (show (0 : Int) < (N : Int) by omega)
  have e2 := Int.tmod_lt_of_pos (-x) (show (0 : Int) < (N : Int) by omega)
  rw [Int.neg_tmod] at e2
  exact ⟨(x.tmod (N : Int)).natAbs, by omega, by omega⟩
set_option maxHeartbeats 8000000 in
set_option maxRecDepth 100000 in
/-- WalTurned. -/
theorem wturned_any (size sg at_ bit : Int) (xo : Option Addr) (xc : Nat) (pays : List (List Nat)) (w : World) (hP : KJ w xo pays) (hl : pays.length < 9223372036854775808) (hbit : 0 ≤ bit) :
    Calls Tryz.prog 7 #[.int .i64 size, .slice xo pays.length xc, .int .i64 sg, .int .i64 at_, .int .u64 bit] w fun e w' => e = .returned (.bool true) ∧ Fr (fun _ => False) w w' := by
  have hzz := segZ_lt size
  obtain ⟨bt, hbt⟩ : ∃ bt : Nat, bit.tmod 8 = (bt : Int) := ⟨(bit.tmod 8).natAbs, by rw [Int.tmod_eq_emod_of_nonneg hbit]; omega⟩
  have hbt8 : bt < 8 := by rw [Int.tmod_eq_emod_of_nonneg hbit] at hbt; omega
  have HP := hide hP
  clear hP hbit
  go_enter Tryz.func7, Tryz.ntmps7
  go_wp2_with fail
  refine (awake9 w).mono ?_
  rintro e w1 ⟨rfl, hf1⟩
  have H1 := hide hf1
  clear hf1
  go_wp2_with fail
  refine (begun_any w size (-1) xo xc pays w1 (unhide H1) (unhide HP) hl).mono ?_
  rintro e w2 ⟨l, d, m, kv, rfl, hB⟩
  obtain ⟨ks, hks⟩ : ∃ ks, ks = kps (segZ size) pays (min pays.length 60) := ⟨_, rfl⟩
  rw [← hks] at hB
  clear hks
  obtain ⟨ao, cap, rfl⟩ := hB.kv
  generalize segZ size = Z at *
  have H2 := hide hB
  clear hB H1 HP
  go_wp2_with fail
  refine (unhide H2).sync.mono ?_
  rintro e w3 ⟨rfl, hB3⟩
  obtain ⟨N, hN0, hN71, hA3⟩ := hB3.ta
  have H3 := hide hA3
  clear hB3 hA3 H2
  go_wp2_with fail
  refine (unhide H3).names.mono ?_
  rintro e w4 ⟨g4, c4, rfl, hcs, hA4⟩
  have hN0' : ¬ (N : Int) = 0 := by omega
  have hI := tmod_abs sg N hN0
  generalize hts : sg.tmod (N : Int) = ts at hI
  obtain ⟨i, hiN, hti⟩ := hI
  obtain ⟨M, hM, hcell⟩ := hcs i hiN
  obtain ⟨L, hL, hsize, hturn⟩ := hA4.sized hM hcell
  have hiN' : (i : Int) < (N : Int) := by omega
  have HS := hide hsize
  have HT := hide hturn
  have H4 := hide hA4
  generalize seg sLog M = SN at *
  clear hsize hturn hcs hA4 H3
  rcases hti with rfl | ⟨rfl, hsi⟩
  · have hsi := True.intro
    have hi0 : ¬ (i : Int) < 0 := by omega
    clear hsi
    go_wp2_with fail
    refine (unhide HS).mono ?_
    rintro e w5 ⟨rfl, rfl⟩
    by_cases hL0 : L = 0
    · subst hL0
      clear HS HT
      have H5 := hide (unhide H4).fr
      go_wp2_with fail
      go_ret
      exact ⟨rfl, unhide H5⟩
    · have hL0' : ¬ (L : Int) = 0 := by omega
      have hA := tmod_abs at_ L (by omega)
      clear hL0
      generalize hta0 : at_.tmod (L : Int) = ta at hA
      obtain ⟨a, haL, hta | ⟨hta, hsa⟩⟩ := hA
      · subst hta
        have hsa := True.intro
        have ha0 : ¬ (a : Int) < 0 := by omega
        clear hsa
        have HT1 := hide ((unhide HT) a bt haL hbt8)
        clear HS HT
        go_wp2_with fail
        refine (unhide HT1).mono ?_
        rintro e w6 ⟨rfl, hB6⟩
        have H6 := hide hB6
        clear hB6 HT1 H4
        go_wp2_with fail
        refine ((unhide H6).open hzz.1).mono ?_
        rintro e w7 ⟨rfl, hB7⟩
        have hcell7 := hB7.cell
        have H7 := hide hB7
        clear hB7 H6 hcell
        go_wp2_with fail
        refine (unhide H7).back.mono ?_
        rintro e w8 ⟨rfl, hA8⟩
        have H8 := hide hA8
        clear hA8 H7
        go_wp2_with fail
        refine ((unhide H8).open hzz.1).mono ?_
        rintro e w9 ⟨l9, rfl, hO9⟩
        have H9 := hide hO9
        clear hO9 H8
        go_wp2_with fail
        refine (unhide H9).holds.mono ?_
        rintro e w10 ⟨rfl, hf10⟩
        have H10 := hide hf10
        clear hf10 H9
        go_wp2_with fail
        go_ret
        exact ⟨rfl, unhide H10⟩
      · subst hta
        have hwa : IntKind.i64.wrap (-(-(a : Int))) = (a : Int) := by rw [IntKind.wrap_i64]; omega
        have ha0 : -(a : Int) < 0 := by omega
        clear hsa
        have HT1 := hide ((unhide HT) a bt haL hbt8)
        clear HS HT
        go_wp2_with fail
        refine (unhide HT1).mono ?_
        rintro e w6 ⟨rfl, hB6⟩
        have H6 := hide hB6
        clear hB6 HT1 H4
        go_wp2_with fail
        refine ((unhide H6).open hzz.1).mono ?_
        rintro e w7 ⟨rfl, hB7⟩
        have hcell7 := hB7.cell
        have H7 := hide hB7
        clear hB7 H6 hcell
        go_wp2_with fail
        refine (unhide H7).back.mono ?_
        rintro e w8 ⟨rfl, hA8⟩
        have H8 := hide hA8
        clear hA8 H7
        go_wp2_with fail
        refine ((unhide H8).open hzz.1).mono ?_
        rintro e w9 ⟨l9, rfl, hO9⟩
        have H9 := hide hO9
        clear hO9 H8
        go_wp2_with fail
        refine (unhide H9).holds.mono ?_
        rintro e w10 ⟨rfl, hf10⟩
        have H10 := hide hf10
        clear hf10 H9
        go_wp2_with fail
        go_ret
        exact ⟨rfl, unhide H10⟩
  · skip
    have hi0 : -(i : Int) < 0 := by omega
    have hwi : IntKind.i64.wrap (-(-(i : Int))) = (i : Int) := by rw [IntKind.wrap_i64]; omega
    clear hsi
    go_wp2_with fail
    refine (unhide HS).mono ?_
    rintro e w5 ⟨rfl, rfl⟩
    by_cases hL0 : L = 0
    · subst hL0
      clear HS HT
      have H5 := hide (unhide H4).fr
      go_wp2_with fail
      go_ret
      exact ⟨rfl, unhide H5⟩
    · have hL0' : ¬ (L : Int) = 0 := by omega
      have hA := tmod_abs at_ L (by omega)
      clear hL0
      generalize hta0 : at_.tmod (L : Int) = ta at hA
      obtain ⟨a, haL, hta | ⟨hta, hsa⟩⟩ := hA
      · subst hta
        have hsa := True.intro
        have ha0 : ¬ (a : Int) < 0 := by omega
        clear hsa
        have HT1 := hide ((unhide HT) a bt haL hbt8)
        clear HS HT
        go_wp2_with fail
        refine (unhide HT1).mono ?_
        rintro e w6 ⟨rfl, hB6⟩
        have H6 := hide hB6
        clear hB6 HT1 H4
        go_wp2_with fail
        refine ((unhide H6).open hzz.1).mono ?_
        rintro e w7 ⟨rfl, hB7⟩
        have hcell7 := hB7.cell
        have H7 := hide hB7
        clear hB7 H6 hcell
        go_wp2_with fail
        refine (unhide H7).back.mono ?_
        rintro e w8 ⟨rfl, hA8⟩
        have H8 := hide hA8
        clear hA8 H7
        go_wp2_with fail
        refine ((unhide H8).open hzz.1).mono ?_
        rintro e w9 ⟨l9, rfl, hO9⟩
        have H9 := hide hO9
        clear hO9 H8
        go_wp2_with fail
        refine (unhide H9).holds.mono ?_
        rintro e w10 ⟨rfl, hf10⟩
        have H10 := hide hf10
        clear hf10 H9
        go_wp2_with fail
        go_ret
        exact ⟨rfl, unhide H10⟩
      · subst hta
        have hwa : IntKind.i64.wrap (-(-(a : Int))) = (a : Int) := by rw [IntKind.wrap_i64]; omega
        have ha0 : -(a : Int) < 0 := by omega
        clear hsa
        have HT1 := hide ((unhide HT) a bt haL hbt8)
        clear HS HT
        go_wp2_with fail
        refine (unhide HT1).mono ?_
        rintro e w6 ⟨rfl, hB6⟩
        have H6 := hide hB6
        clear hB6 HT1 H4
        go_wp2_with fail
        refine ((unhide H6).open hzz.1).mono ?_
        rintro e w7 ⟨rfl, hB7⟩
        have hcell7 := hB7.cell
        have H7 := hide hB7
        clear hB7 H6 hcell
        go_wp2_with fail
        refine (unhide H7).back.mono ?_
        rintro e w8 ⟨rfl, hA8⟩
        have H8 := hide hA8
        clear hA8 H7
        go_wp2_with fail
        refine ((unhide H8).open hzz.1).mono ?_
        rintro e w9 ⟨l9, rfl, hO9⟩
        have H9 := hide hO9
        clear hO9 H8
        go_wp2_with fail
        refine (unhide H9).holds.mono ?_
        rintro e w10 ⟨rfl, hf10⟩
        have H10 := hide hf10
        clear hf10 H9
        go_wp2_with fail
        go_ret
        exact ⟨rfl, unhide H10⟩
end Go.Proofs.YtmmaddlphclpnaaGreatDoor

namespace Go.Proofs.YtmmaddlphclpnaaGreatDoor
open Go.ChangeShapes Go.WideShapes Go.ChangeAt Go.RowKit
set_option maxRecDepth 100000

noncomputable def yWorld (os : Os) : World :=
  let w0 := World.holding Tryz.prog os ⟨#[], #[], []⟩
  { w0 with heap := (((w0.heap.modify 2 fun
      | .cells _ t frozen => .cells (Lib.deBruijn64tab.map fun n : Nat => Value.int .u8 (n : Int)).toArray t frozen
      | o => o).modify 1 fun
      | .cells _ t frozen => .cells (Lib.deBruijn32tab.map fun n : Nat => Value.int .u8 (n : Int)).toArray t frozen
      | o => o).modify 0 fun
      | .cells _ t frozen => .cells (Lib.pow10Tab.map fun n : Int => Value.int .u64 n).toArray t frozen
      | o => o) }
theorem yturn_contract (H : Type) (enc : TypeId × Value → H) (W : World) (base : Nat) (args : Array Value) (ds gs : List (DataW H)) (before : List MemPlace)
    (hval : ∀ (j : Nat) t v, Tryz.f7.params[j]? = some t → args[j]? = some v → Value.okWide Tryz.prog W .any base t v)
    (hW : DataW.Whole enc Tryz.prog Tryz.f7.params.toList Rows.walTurnedSpec.vars false W args.toList ds gs before) (hk : Rows.uptoSmall H (ds ++ gs) = true) :
    Calls Tryz.prog 7 args W fun e W' => ∃ v, e = .returned v ∧ Rows.walTurnedSpec.post enc Tryz.prog Tryz.f7 false true false false W args v W' := by
  have hW' := hW
  obtain ⟨p, q, hA0, hV, rfl, hfz, hnd⟩ := hW
  have hA : DataW.TrodAll enc Tryz.prog W 0 (fun _ => true) true Tryz.f7.params.toList args.toList ds p := hA0
  rw [Tryz.params7] at hA hval
  obtain ⟨v0, vs0, d0, ds0, p0, q0, hargs, rfl, rfl, h0, r0⟩ := trodAll_cons hA
  obtain ⟨v1, vs1, d1, ds1, p1, q1, rfl, rfl, rfl, h1, r1⟩ := trodAll_cons r0
  obtain ⟨v2, vs2, d2, ds2, p2, q2, rfl, rfl, rfl, h2, r2⟩ := trodAll_cons r1
  obtain ⟨v3, vs3, d3, ds3, p3, q3, rfl, rfl, rfl, h3, r3⟩ := trodAll_cons r2
  obtain ⟨v4, vs4, d4, ds4, p4, q4, rfl, rfl, rfl, h4, r4⟩ := trodAll_cons r3
  obtain ⟨rfl, rfl, rfl⟩ := trodAll_nil r4
  obtain rfl : args = #[v0, v1, v2, v3, v4] := by cases args; simp_all
  obtain ⟨rfl, rfl⟩ := trodVars_none hV
  have hbulk : Rows.uptoBulk d0 + (Rows.uptoBulk d1 + (Rows.uptoBulk d2 + (Rows.uptoBulk d3 + (Rows.uptoBulk d4 + 0)))) ≤ 1048576 := by
    have h := of_decide_eq_true hk
    simpa only [List.append_nil, Rows.uptoBulkAll] using h
  obtain ⟨a0, rfl, rfl, rfl, w0⟩ := open_int Tryz.underlying3 (hval 0 3 v0 rfl rfl) h0
  have bd0 := bounds_i64 w0
  obtain ⟨xo1, xc1, hs1, rfl, hL1, hP1⟩ := pcj_of_reading (hval 1 67 v1 rfl rfl) h1 (by omega)
  obtain ⟨a2, rfl, rfl, rfl, w2⟩ := open_int Tryz.underlying3 (hval 2 3 v2 rfl rfl) h2
  have bd2 := bounds_i64 w2
  obtain ⟨a3, rfl, rfl, rfl, w3⟩ := open_int Tryz.underlying3 (hval 3 3 v3 rfl rfl) h3
  have bd3 := bounds_i64 w3
  obtain ⟨a4, rfl, rfl, rfl, w4⟩ := open_int Tryz.underlying46 (hval 4 46 v4 rfl rfl) h4
  have bd4 := bounds_u64 w4
  refine (wturned_any a0 a2 a3 a4 xo1 xc1 hs1 W hP1 hL1 (by omega)).mono fun e W' ⟨he, hf⟩ => ?_
  subst he
  have hlt : ∀ x ∈ [] ++ (p1 ++ ([] ++ ([] ++ ([] ++ [])))), x.block < W.heap.size := fun x hx => hW'.lt x (by simpa using hx)
  have hb := hf.below
  refine ⟨_, rfl, _, _, _, [], [] ++ (p1 ++ ([] ++ ([] ++ ([] ++ [])))), [], hW', ?_, ?_, ?_, hb.frame _, fun h => by cases h⟩
  · exact trodAll_cons_mk (shut_bool Tryz.underlying4 true) trodAll_mk0
  · exact trodAll_cons_mk (shut_int Tryz.underlying3 w0) (trodAll_cons_mk (Below.trod (by kernel_rfl) (by kernel_rfl) (by decide +kernel) h1 hb (fun x hx => hlt x (by simp [hx]))) (trodAll_cons_mk (shut_int Tryz.underlying3 w2) (trodAll_cons_mk (shut_int Tryz.underlying3 w3) (trodAll_cons_mk (shut_int Tryz.underlying46 w4) trodAll_mk0))))
  · rfl
theorem yturn_laid_met (os : Os) : laidMetH Tryz.prog Rows.walTurnedUptoRow.laid ((yWorld os).forCall (fun _ _ => 0) ⟨#[], #[.int .i64 0, .slice none 0 0, .int .i64 0, .int .i64 0, .int .u64 0], []⟩).memory :=
  laidMetH_of_parts (laidMet_of_run' 8 (by kernel_rfl) (by kernel_rfl)) (by kernel_rfl)
theorem yturn_reads (os : Os) {H : Type} (enc : TypeId × Value → H) : ∃ places, DataW.whole enc Tryz.prog ((yWorld os).forCall (fun _ _ => 0) ⟨#[], #[.int .i64 0, .slice none 0 0, .int .i64 0, .int .i64 0, .int .u64 0], []⟩).memory Tryz.f7.params.toList Rows.walTurnedSpec.vars false #[Value.int .i64 0, .slice none 0 0, .int .i64 0, .int .i64 0, .int .u64 0].toList 8 = some ([.lit (.int .i64 0), .nil, .lit (.int .i64 0), .lit (.int .i64 0), .lit (.int .u64 0)], [], places) :=
  ⟨[], by kernel_rfl⟩
theorem yturn_lifted (os : Os) (started : os.Started) (H : Type) (enc : TypeId × Value → H) (F : Stop.Interp) :
    ReturnsInHanded {} Tryz.checked os 7 .any ((Rows.OpenSpec.upto Rows.walTurnedSpec).preRow enc Tryz.prog Tryz.f7 Rows.walTurnedUptoRow.domain false Rows.walTurnedUptoRow.laid) (((Rows.OpenSpec.upto Rows.walTurnedSpec).at F).post enc Tryz.prog Tryz.f7 false true false false) := by
  obtain ⟨places, hx⟩ := yturn_reads os enc
  refine returnsInHanded_of_row (C := Tryz.checked) (s := Rows.OpenSpec.upto Rows.walTurnedSpec) Tryz.ownKnob started (by kernel_rfl) Tryz.func7
    (witness_row_atRef (enc := enc) (C := Tryz.checked) false (yWorld os) #[.int .i64 0, .slice none 0 0, .int .i64 0, .int .i64 0, .int .u64 0] rfl (by kernel_rfl) (by kernel_rfl) (by kernel_rfl)
      (OpenSpec.preRow_of_cond 8 hx (by kernel_rfl) (fun k hk => by cases hk; kernel_rfl) (by kernel_rfl) (yturn_laid_met os))) ?_
  intro W base args ds gs before hval hW _ hcond _ _ _ _
  exact yturn_contract H enc W base args ds gs before hval hW (hcond _ rfl)
theorem yturn_said : Rows.WalTurnedUptoSaid :=
  OpenClaim.holds_of_cond 7 Tryz.f7 rfl rfl rfl rfl rfl rfl rfl ⟨rfl, rfl, rfl, rfl, rfl⟩ rfl rfl rfl rfl rfl (by kernel_rfl) Tryz.func7 (by kernel_rfl)
    (of_decide_eq_true (by kernel_rfl)) (by unfold Func.isWrapper; first | (rw [if_pos (by decide +kernel)]; kernel_rfl) | (rw [if_neg (by decide +kernel)]; exact ⟨rfl, rfl⟩))
    (fun os started H enc _ F => by rw [OpenClaim.pre_eq_preRow]; exact yturn_lifted os started H enc F)
theorem yturn_plain (f : FuncId) (fn : Func) (hf : Tryz.pinned.checked.prog.funcNamed Rows.walTurnedUptoRow.func = some f) (hfn : Tryz.pinned.checked.prog.funcs[f]? = some fn) :
    false = Tryz.pinned.checked.prog.looks [] ∧ ∀ (j : Nat) t, fn.params[j]? = some t → Tryz.pinned.checked.prog.wantsStandIn t = false := by
  obtain rfl : f = 7 := Option.some.inj ((show Tryz.prog.funcNamed Rows.walTurnedUptoRow.func = some 7 by kernel_rfl).symm.trans hf) |>.symm
  obtain rfl : fn = Tryz.f7 := (Option.some.inj (Tryz.func7.symm.trans hfn)).symm
  refine ⟨by kernel_rfl, fun j t ht => ?_⟩
  rw [Tryz.params7] at ht
  have ht' : t = 3 ∨ t = 67 ∨ t = 46 := by
    have h := Array.mem_of_getElem? ht
    simp at h
    first
      | (rcases h with rfl | rfl | rfl | rfl | rfl | rfl <;> simp)
      | (rcases h with rfl | rfl | rfl | rfl | rfl <;> simp)
      | (rcases h with rfl | rfl | rfl | rfl <;> simp)
      | (rcases h with rfl | rfl | rfl <;> simp)
      | (rcases h with rfl | rfl <;> simp)
  rcases ht' with rfl | rfl | rfl
  · exact (show Tryz.prog.wantsStandIn 3 = false by kernel_rfl)
  · exact (show Tryz.prog.wantsStandIn 67 = false by kernel_rfl)
  · exact (show Tryz.prog.wantsStandIn 46 = false by kernel_rfl)
/-- THE SECOND FORM's CARD. -/
theorem yturn_card : Rows.WalTurnedUptoCardSaid :=
  Claim7.holds_tied_plain_at .later [] _ _ _ _ yturn_said (fun _ h => by cases h) (by kernel_rfl) (fun _ h => by cases h) walTurnedUpto_row_tie rfl ⟨rfl, rfl⟩ (by kernel_rfl) rfl yturn_plain (by kernel_rfl)
#print axioms yturn_card
end Go.Proofs.YtmmaddlphclpnaaGreatDoor

