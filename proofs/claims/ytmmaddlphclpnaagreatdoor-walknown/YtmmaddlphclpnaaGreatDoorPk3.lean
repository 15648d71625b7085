import Derived.Test.YtmmaddlphclpnaaGreatDoorPk2
import Derived.Test.YtmmaddlphclpnaaGreatDoorPk1
import Derived.Test.YtmmaddlphclpnaaGreatDoorDlp
import Derived.Test.YtmmaddlphclpnaaGreatDoorDlm
import Derived.Laws.OwnMore
import Derived.Test.YtmmaddlphclpnaaGreatDoorDka
import Derived.Test.YtmmaddlphclpnaaGreatDoorRows
import Derived.WalkKit
import Derived.ProofKit
import Derived.OpenShut
import Derived.SizedLaws
import Derived.JoinedCond
import Derived.Deep.DeepHandedRow
import Derived.Test.YtmmaddlphclpnaaGreatDoorCards
import Derived.Test.YtmmaddlphclpnaaGreatDoorTie
import Derived.Deep.DeepWitnessRowRef
import Derived.Lib.TrailingZeros
import Derived.Lib.ItoaNum
namespace Go.Proofs.YtmmaddlphclpnaaGreatDoor
open Go.RowKit Go.ChangeShapes Go.WideShapes Go.Maps Go.Sort

theorem LT.n {s : DM} {Z : Nat} {I : List (List (List Nat))} {ps : List (List Nat)} {t : List Nat} {V : Nat} (h : LT s Z I ps t V) : I.length + ps.length ≤ 70 := by
  have := flat_ge I h.ne
  have := h.few
  omega
theorem LT.used {s : DM} {Z : Nat} {I : List (List (List Nat))} {ps : List (List Nat)} {t : List Nat} {V : Nat} (h : LT s Z I ps t V) : s.used ≤ 42600 := by
  obtain ⟨pc, sf, hf, _⟩ := h.fl
  have hn := h.n
  have hz := h.z
  have := tot_le (fun i => (LB I ⟨fby ps ++ t, sf, pc⟩ i).b) 600 (I.length + 1) (fun i hi => by
    by_cases e : i = I.length
    · subst e
      simp only [LB_last]
      have := h.lg
      omega
    · have hi2 : i < I.length := by omega
      simp only [LB_old _ _ hi2]
      have := h.sg (I.getD i []) (by
        rw [List.getD_eq_getElem?_getD, List.getElem?_eq_getElem hi2]
        exact List.mem_append_left _ (List.getElem_mem hi2))
      omega)
  have e := hf.used
  have : (I.length + 1) * 600 ≤ 71 * 600 := Nat.mul_le_mul_right _ (by omega)
  omega
set_option maxHeartbeats 1000000 in
set_option maxRecDepth 100000 in
/-- Log.find of a log that is there. -/
theorem wfind_at (w : World) (l d m : Nat) (s : DM) (q : DW) (O : Nat → Prop) (Z V : Nat) (I : List (List (List Nat))) (ps : List (List Nat)) (t : List Nat) (W : World) (h : WL w W l d m ⟨sLog, Z, [], []⟩ s q O (.slice none 0 0) (.slice none 0 0)) (hT : LT s Z I ps t V) (hZ : 16 ≤ Z) :
    Calls Tryz.prog 38 #[.pointer (some ⟨l, 0, none⟩)] W fun e W' => e = .returned (.int .i64 0) ∧ ∃ s' q' O' sv' pv', WL w W' l d m (LM.of sLog Z (I ++ [ps])) s' q' O' sv' pv' ∧ LS s' Z I ps ps.length V ∧ (∀ k, O' k → O k ∨ W.heap.size ≤ k) ∧ (∀ g, sv'.ownBlock = some g → W.heap.size ≤ g) ∧ (∀ g, pv'.ownBlock = some g → W.heap.size ≤ g) ∧ Fr (fun k => O k ∨ k = l) W W' := by
  obtain ⟨pc, sf, hf, hpc, hsz⟩ := hT.fl
  have hn := hT.n
  have hz := hT.z
  have hus := hT.used
  have htot : tot (fun i => (s.F (nm (seg sLog i))).b) (I.length + 1) ≤ 1048576 := by
    have e : tot (fun i => (s.F (nm (seg sLog i))).b) (I.length + 1) = s.used := by
      rw [hf.used]
      exact tot_eq (fun i hi => by rw [hf.F i hi])
    omega
  have hsc := scan_ext w l d m ⟨sLog, Z, [], []⟩ s q O _ _ (I.length + 1) (Z - 12) W (fun i => (s.F (nm (seg sLog i))).b) (fun _ => rfl) h rfl rfl rfl rfl (by show (3 : Nat) ≤ 32; decide) hT.good.off (by omega) (fun i hi => hf.has hi) (hf.no (Nat.le_refl _) (by omega)) htot (by show Z = _; omega) (by omega)
  rw [hT.scan] at hsc
  have ilen : (I.map (fun ps => (fby ps).length)).length = I.length := List.length_map _
  have HSC := hide hsc
  have HB : Hid (∀ W1 sv pv, WL w W1 l d m (LM.of sLog Z (I ++ [ps])) s q O sv pv → Ext W W1 l sv pv → Calls Tryz.prog 75 #[.pointer (some ⟨l, 0, none⟩)] W1 fun e W' => e = .returned (.int .i64 0) ∧ ∃ s' q' O' sv' pv', WL w W' l d m (LM.of sLog Z (I ++ [ps])) s' q' O' sv' pv' ∧ LS s' Z I ps ps.length V ∧ (∀ k, O' k → O k ∨ W.heap.size ≤ k) ∧ (∀ g, sv'.ownBlock = some g → W.heap.size ≤ g) ∧ (∀ g, pv'.ownBlock = some g → W.heap.size ≤ g) ∧ Fr (fun k => O k ∨ k = l) W W') := fun W1 sv pv h1 hx => by
    have hst := settle_any w l d m (LM.of sLog Z (I ++ [ps])) s q O sv pv _ _ (LB I ⟨fby ps ++ t, sf, pc⟩) W1 h1 (of_segs ..) (by rw [ilen]; omega) (by show (3 : Nat) ≤ 32; decide) hT.good.off (by rw [ilen]; exact hf) (by rw [ilen, LB_last]; simp) (by omega) (by rw [ilen, LB_last]; simp only; omega) (by rw [ilen, LB_last]; intro p hp; have := hsz p hp; omega)
    rw [ilen] at hst
    refine hst.mono ?_
    rintro e W2 ⟨rfl, hS⟩
    obtain ⟨sk, qk, Ok, h2, hl, hfl, hO, hfr⟩ := hS.ex
    refine ⟨rfl, sk, qk, Ok, sv, pv, h2, hT.settled hl (LB I ⟨fby ps ++ t, sf, pc⟩) hf.F (hfl.congr (fun i hi => by rw [if_pos hi])), fun k hk => (hO k hk).imp id (Nat.le_trans hx.1.size), hx.2.1, hx.2.2, (hx.1.mono (fun _ _ h => .inr h)).trans hfr (fun _ _ h => .inl h)⟩
  have HK : Hid (∀ W1 sv pv, WL w W1 l d m (LM.of sLog Z (I ++ [ps])) s q O sv pv → ∃ so sc, W1.cell? ⟨l, 3, none⟩ = some (.slice so (I.length + 1) sc)) := fun W1 sv pv h1 => by
    obtain ⟨so, sc, e⟩ := own_formX h1.G.so
    have := h1.G.cells.2.2.2.1
    rw [e, of_segs] at this
    simp only [List.length_append, List.length_map, List.length_singleton] at this
    exact ⟨so, sc, this⟩
  clear h hsc hf hus htot
  go_enter Tryz.func38, Tryz.ntmps38
  go_wp2_with fail
  refine (unhide HSC).mono ?_
  rintro e w1 ⟨rfl, sv, pv, hW1, hx1⟩
  obtain ⟨so, sc, c3⟩ := (unhide HK) _ _ _ hW1
  have HB1 := hide ((unhide HB) _ _ _ hW1 hx1)
  clear hW1 hx1
  have hne : ¬ ((I.length : Int) + 1 = 0) := by omega
  go_wp2_with fail
  refine (unhide HB1).mono ?_
  rintro e w2 ⟨rfl, hW⟩
  have HW := hide hW
  clear hW
  go_wp2_with fail
  go_ret
  exact ⟨rfl, unhide HW⟩
set_option maxHeartbeats 1000000 in
set_option maxRecDepth 100000 in
/-- Open of a log that is there. -/
theorem wopen_at (w : World) (d m : Nat) (s : DM) (q : DW) (O : Nat → Prop) (Z V : Nat) (I : List (List (List Nat))) (ps : List (List Nat)) (t : List Nat) (W : World) (h : DS w W d m s q O) (hT : LT s Z I ps t V) (hZ : 16 ≤ Z) :
    Calls Tryz.prog 10 #[.pointer (some ⟨d, 0, none⟩), .string sLog, .int .i64 (Z : Nat)] W fun e W' => ∃ l, e = .returned (.tuple #[.pointer (some ⟨l, 0, none⟩), .int .i64 0]) ∧ ∃ s' q' O' sv' pv', WL w W' l d m (LM.of sLog Z (I ++ [ps])) s' q' O' sv' pv' ∧ LS s' Z I ps ps.length V ∧ (∀ k, Ours l O' sv' pv' k → O k ∨ W.heap.size ≤ k) ∧ Fr O W W' := by
  have HO := hide (off_any d m s q O W h.D)
  rw [hT.good.off] at HO
  have HF : Hid (∀ W1 W2 l, Fr (fun _ => False) W W1 → W2 = W1.alloc (.cells #[.pointer (some ⟨d, 0, none⟩), .string sLog, .int .i64 (Z : Nat), .slice none 0 0, .slice none 0 0] 82) → l = W1.heap.size → Calls Tryz.prog 38 #[.pointer (some ⟨l, 0, none⟩)] W2 fun e W' => e = .returned (.int .i64 0) ∧ ∃ s' q' O' sv' pv', WL w W' l d m (LM.of sLog Z (I ++ [ps])) s' q' O' sv' pv' ∧ LS s' Z I ps ps.length V ∧ (∀ k, Ours l O' sv' pv' k → O k ∨ W.heap.size ≤ k) ∧ Fr O W W') := fun W1 W2 l hf e2 el => by
    subst el
    subst e2
    have h1 := h.quiet hf
    have hbx := box1 W1 (.cells #[.pointer (some ⟨d, 0, none⟩), .string sLog, .int .i64 (Z : Nat), .slice none 0 0, .slice none 0 0] 82)
    have h2 := h1.quiet hbx
    have hw : WL w (W1.alloc (.cells #[.pointer (some ⟨d, 0, none⟩), .string sLog, .int .i64 (Z : Nat), .slice none 0 0, .slice none 0 0] 82)) W1.heap.size d m ⟨sLog, Z, [], []⟩ s q O (.slice none 0 0) (.slice none 0 0) :=
      ⟨h2.D, ⟨heap_alloc_new _ _, World.ownsRow_nil _ _ _ _, World.ownsRow_nil _ _ _ _⟩, fun e => Nat.lt_irrefl _ (h1.D.lt _ e), fun g hg => (by cases hg), fun g hg => (by cases hg), h2.fr, h2.o, h1.fr.size, fun g hg => (by cases hg), fun g hg => (by cases hg)⟩
    refine (wfind_at w W1.heap.size d m s q O Z V I ps t _ hw hT hZ).mono ?_
    rintro e W3 ⟨rfl, s', q', O', sv', pv', h3, hS, hO, hsv, hpv, hfr⟩
    have hs12 : W.heap.size ≤ (W1.alloc (.cells #[.pointer (some ⟨d, 0, none⟩), .string sLog, .int .i64 (Z : Nat), .slice none 0 0, .slice none 0 0] 82)).heap.size := Nat.le_trans hf.size hbx.size
    refine ⟨rfl, s', q', O', sv', pv', h3, hS, fun k hk => ?_, ((hf.trans hbx (fun _ _ h => h)).mono (fun _ _ h => h.elim)).trans hfr (fun k hk e => ?_)⟩
    · rcases hk with e | e | e | e
      · exact (hO k e).imp id (Nat.le_trans hs12)
      · exact .inr (by rw [e]; exact hf.size)
      · exact .inr (Nat.le_trans hs12 (hsv k e))
      · exact .inr (Nat.le_trans hs12 (hpv k e))
    · rcases e with e | e
      · exact e
      · have := hf.size
        omega
  have HC : Hid (∀ W', Calls Tryz.prog 37 #[.string sLog] W' fun e w' => e = .returned (.string sLog) ∧ Fr (fun _ => False) W' w') := fun W' => sclone_any sLog W' (by decide)
  have hz := hT.z
  have h1 : ¬ (sLog.size : Int) < 1 := by decide
  have h2 : ¬ (32 : Int) < (sLog.size : Int) := by decide
  have h3 : ¬ (Z : Int) < 16 := by omega
  have h4 : ¬ (1048576 : Int) < (Z : Int) := by omega
  clear h hz hZ
  generalize sLog = NM at *
  go_enter Tryz.func10, Tryz.ntmps10
  go_wp2_with (go_at_call 33; refine (unhide HO).mono ?_; rintro e w' ⟨rfl, rfl⟩; clear HO)
  refine ((unhide HC) _).mono ?_
  rintro e w1 ⟨rfl, hf1⟩
  have HF1 := hide ((unhide HF) w1 _ _ hf1 rfl rfl)
  clear hf1 HF HC
  go_wp2_with (go_at_call 38; refine (unhide HF1).mono ?_; rintro e w2 ⟨rfl, hW⟩; clear HF1; have HW := hide hW; clear hW)
  go_ret2
  exact ⟨_, rfl, unhide HW⟩
end Go.Proofs.YtmmaddlphclpnaaGreatDoor

namespace Go.Proofs.YtmmaddlphclpnaaGreatDoor
open Go.RowKit Go.ChangeShapes Go.WideShapes Go.Maps Go.Sort

theorem WL.ds {w W : World} {l d m : Nat} {L : LM} {s : DM} {q : DW} {O : Nat → Prop} {sv pv : Value} (h : WL w W l d m L s q O sv pv) : DS w W d m s q O := ⟨h.D, h.fr, h.o⟩
/-- Pending of a log's disk. -/
theorem wpend_any (w : World) (d m : Nat) (s : DM) (q : DW) (O : Nat → Prop) (Z j V : Nat) (I : List (List (List Nat))) (ps : List (List Nat)) (W : World) (h : DS w W d m s q O) (hS : LS s Z I ps j V) :
    Calls Tryz.prog 35 #[.pointer (some ⟨d, 0, none⟩)] W fun e W' => e = .returned (.int .i64 (((fby ps).length - (fby (ps.take j)).length : Nat) : Int)) ∧ Fr (fun _ => False) W W' := by
  obtain ⟨pc, hf, hsm, _⟩ := hS.fl
  have hn := hS.n
  have hz := hS.z
  let s' : DM := { s with F := fun k => if Maps.has s.D (.string k) = true then s.F k else ⟨[], 0, []⟩ }
  have hD : DkAt W d m s' q O := h.D.reF _ (fun k hk => by rw [if_pos hk])
  have hF' : ∀ i, i < I.length + 1 → s'.F (nm (seg sLog i)) = LB I ⟨fby ps, (fby (ps.take j)).length, pc⟩ i := fun i hi => by
    show (if Maps.has s.D (.string (nm (seg sLog i))) = true then _ else _) = _
    rw [if_pos (hf.has hi), hf.F i hi]
  have hb : ∀ x, (s'.F x).safe ≤ (s'.F x).b.length ∧ (s'.F x).b.length ≤ 600 := fun x => by
    by_cases hx : Maps.has s.D (.string x) = true
    · obtain ⟨i, hi, rfl⟩ := hf.key hx
      rw [hF' i hi]
      by_cases e : i = I.length
      · subst e
        rw [LB_last]
        have := fby_take_le ps j
        have := hS.sg ps (by simp)
        exact ⟨by simp only; omega, by simp only; omega⟩
      · rw [LB_old _ _ (show i < I.length by omega)]
        refine ⟨Nat.le_refl _, ?_⟩
        have hi2 : i < I.length := by omega
        have := hS.sg (I.getD i []) (by
          rw [List.getD_eq_getElem?_getD, List.getElem?_eq_getElem hi2]
          exact List.mem_append_left _ (List.getElem_mem hi2))
        show (fby (I.getD i [])).length ≤ 600
        omega
    · have e : s'.F x = ⟨[], 0, []⟩ := if_neg hx
      rw [e]
      exact ⟨Nat.le_refl _, Nat.zero_le _⟩
  have hp := pending_any d m s' q O W hD (fun x => by
    have := hb x
    simp only [DM.pd]
    omega) (by show Maps.size s.D ≤ 256; rw [hf.size]; omega) (fun x => by have := hb x; omega)
  have e : s'.pend = (((fby ps).length - (fby (ps.take j)).length : Nat) : Int) := by
    show sumA s'.pd (ents s.D) = _
    rw [hf.sum, totI, totI_zero (fun i hi => by
      simp only [DM.pd]
      rw [hF' i (by omega), LB_old _ _ hi]
      simp)]
    simp only [DM.pd]
    rw [hF' I.length (by omega), LB_last]
    have := fby_take_le ps j
    simp only
    omega
  rw [e] at hp
  exact hp
/-- Crash of a log's disk. -/
theorem wcrash_any (w : World) (d m : Nat) (keep : Int) (s : DM) (q : DW) (O : Nat → Prop) (Z j V : Nat) (I : List (List (List Nat))) (ps : List (List Nat)) (W : World) (h : DS w W d m s q O) (hS : LS s Z I ps j V) (hkp : keep ≤ 9223372036854775807) :
    Calls Tryz.prog 21 #[.pointer (some ⟨d, 0, none⟩), .int .i64 keep] W fun e W' => e = .returned (.tuple #[]) ∧ ∃ s' q', DkAt W' d m s' q' O ∧ Fr O W W' ∧ ∃ t, LT { s' with off := false } Z I (ps.take (j + wholes (ps.drop j) (min keep.toNat ((fby ps).length - (fby (ps.take j)).length)))) t V := by
  obtain ⟨pc, hf, hsm, hl⟩ := hS.fl
  have hn := hS.n
  have hz := hS.z
  have hus := hS.used
  have hsg : Segs I.length (LB I ⟨fby ps, (fby (ps.take j)).length, pc⟩) := ⟨fun i hi => by rw [LB_old _ _ hi], fun i hi => by rw [LB_old _ _ hi], by rw [LB_last]; exact hsm, by rw [LB_last]; simp only; omega⟩
  have hal := (hf.allp_sz hsg q).2
  rw [LB_last] at hal
  have hk : ∀ k, Maps.has s.D (.string k) = true → (s.F k).ps.length ≤ 70 ∧ (s.F k).safe + sumP (s.F k).ps = (s.F k).b.length ∧ (s.F k).b.length ≤ 600 := fun k hk => by
    obtain ⟨i, hi, rfl⟩ := hf.key hk
    rw [hf.F i hi]
    by_cases e : i = I.length
    · subst e
      rw [LB_last]
      have := hS.sg ps (by simp)
      exact ⟨by simp only; omega, hsm, by simp only; omega⟩
    · have hi2 : i < I.length := by omega
      rw [LB_old _ _ hi2]
      have := hS.sg (I.getD i []) (by
        rw [List.getD_eq_getElem?_getD, List.getElem?_eq_getElem hi2]
        exact List.mem_append_left _ (List.getElem_mem hi2))
      exact ⟨Nat.zero_le _, rfl, by show (fby (I.getD i [])).length ≤ 600; omega⟩
  refine (crash_any d m keep s q O W h.D (by rw [hal]; simp only; omega) (fun k h => by have := hk k h; omega) hkp (fun k h => by
    have h2 := hk k h
    refine ⟨by omega, fun p hp => ?_⟩
    have := sumP_mem _ p hp
    omega) (fun k h => by have := hk k h; omega) hf.ln (by omega)).mono ?_
  rintro e W' ⟨rfl, L, q', hL, _, hD, _, hfr⟩
  have hq : ∀ i, i < I.length → q.fb (nm (seg sLog i)) ≠ q.fb (nm (seg sLog I.length)) := fun i hi => (h.D.ap _ _ (hf.has (by omega)) (hf.has (by omega)) (fun e => by have := seg_inj (by omega) (by omega) e; omega)).1
  exact ⟨rfl, _, q', hD, hfr, hS.crash q L keep.toNat hL hq⟩
end Go.Proofs.YtmmaddlphclpnaaGreatDoor

namespace Go.Proofs.YtmmaddlphclpnaaGreatDoor
open Go.RowKit Go.ChangeShapes Go.WideShapes Go.Maps Go.Sort

/-- A log's disk of which the last frames may be cut at c. -/
structure LX (s : DM) (Z : Nat) (I : List (List (List Nat))) (qs : List (List Nat)) (c j V : Nat) : Prop where
  full : s.full = false
  lim : 80 * Z ≤ s.limit ∧ s.limit ≤ 1048576
  fl : ∃ pc, Fls s sLog (I.length + 1) (LB I ⟨(fby qs).take c, (fby (qs.take j)).length, pc⟩) ∧ (fby (qs.take j)).length + sumP pc = c ∧ pc.length ≤ 80
  cle : c ≤ (fby qs).length
  jle : j ≤ qs.length
  ne : ∀ ps ∈ I, ps ≠ []
  few : I.flatten.length + qs.length ≤ 70
  sg : ∀ ps ∈ I ++ [qs], (fby ps).length ≤ Z
  pay : ∀ ps ∈ I ++ [qs], ∀ p ∈ ps, p.length + 12 ≤ Z
  z : Z ≤ 600
  wr : s.writes ≤ V
  wr2 : V < 1000000000
theorem LS.lx {s : DM} {Z : Nat} {I : List (List (List Nat))} {ps : List (List Nat)} {j V : Nat} (h : LS s Z I ps j V) (hV : V < 1000000000) : LX s Z I ps (fby ps).length j V := by
  obtain ⟨pc, hf, hs, hl⟩ := h.fl
  have hn := h.n
  exact ⟨h.good.full, ⟨h.lim, h.good.lim⟩, ⟨pc, by rw [List.take_length]; exact hf, hs, by omega⟩, Nat.le_refl _, h.jle, h.ne, h.few, h.sg, h.pay, h.z, h.wr, hV⟩
theorem LS.lt {s : DM} {Z : Nat} {I : List (List (List Nat))} {ps : List (List Nat)} {j V : Nat} (h : LS s Z I ps j V) : LT s Z I ps [] V := by
  obtain ⟨pc, hf, hs, hl⟩ := h.fl
  have hn := h.n
  have hsg := h.sg ps (by simp)
  have hz := h.z
  refine ⟨h.good, h.lim, ⟨pc, _, by rw [List.append_nil]; exact hf, by omega, fun x hx => ?_⟩, .inl rfl, h.ne, h.few, h.sg, by rw [List.append_nil]; exact hsg, h.pay, h.z, h.wr⟩
  have := sumP_mem pc x hx
  omega
theorem LX.n {s : DM} {Z : Nat} {I : List (List (List Nat))} {qs : List (List Nat)} {c j V : Nat} (h : LX s Z I qs c j V) : I.length + qs.length ≤ 70 := by
  have := flat_ge I h.ne
  have := h.few
  omega
theorem LX.used {s : DM} {Z : Nat} {I : List (List (List Nat))} {qs : List (List Nat)} {c j V : Nat} (h : LX s Z I qs c j V) : s.used ≤ 42600 := by
  obtain ⟨pc, hf, _, _⟩ := h.fl
  have hn := h.n
  have hz := h.z
  have := tot_le (fun i => (LB I ⟨(fby qs).take c, (fby (qs.take j)).length, pc⟩ i).b) 600 (I.length + 1) (fun i hi => by
    by_cases e : i = I.length
    · subst e
      simp only [LB_last, List.length_take]
      have := h.sg qs (by simp)
      omega
    · have hi2 : i < I.length := by omega
      simp only [LB_old _ _ hi2]
      have := h.sg (I.getD i []) (by
        rw [List.getD_eq_getElem?_getD, List.getElem?_eq_getElem hi2]
        exact List.mem_append_left _ (List.getElem_mem hi2))
      omega)
  have e := hf.used
  have : (I.length + 1) * 600 ≤ 71 * 600 := Nat.mul_le_mul_right _ (by omega)
  omega
/-- What a crash leaves of it. -/
theorem LX.crash {s : DM} {Z : Nat} {I : List (List (List Nat))} {qs : List (List Nat)} {c j V : Nat} (h : LX s Z I qs c j V) (q : DW) (L : List Own3) (keep : Nat) (hL : L.Perm (s.allp q)) (hq : ∀ i, i < I.length → q.fb (nm (seg sLog i)) ≠ q.fb (nm (seg sLog I.length))) :
    ∃ t k, j ≤ k ∧ k ≤ qs.length ∧ LT { ((s.offd).plus q L keep).crashT with off := false } Z I (qs.take k) t V := by
  obtain ⟨pc, hf, hs, hl⟩ := h.fl
  have hn := h.n
  have hj := h.jle
  have hc := h.cle
  have hlen : ((fby qs).take c).length = c := by rw [List.length_take]; omega
  have hsg : Segs I.length (LB I ⟨(fby qs).take c, (fby (qs.take j)).length, pc⟩) := ⟨fun i hi => by rw [LB_old _ _ hi], fun i hi => by rw [LB_old _ _ hi], by rw [LB_last]; simp only [hlen]; exact hs, by rw [LB_last]; simp only; omega⟩
  have hcr := hf.crash (by omega) hsg q L keep hL hq
  have hpay : ∀ p ∈ qs, p.length ≤ Z - 12 ∧ p.length < 4294967296 := fun p hp => by
    have := h.pay qs (by simp) p hp
    have := h.z
    omega
  obtain ⟨t, ht, e⟩ := cut_frames (Z - 12) qs ((fby (qs.take j)).length + min keep (sumP pc)) hpay
  have ew : wholes qs ((fby (qs.take j)).length + min keep (sumP pc)) = j + wholes (qs.drop j) (min keep (sumP pc)) := by
    have := wholes_app (min keep (sumP pc)) (qs.take j) (qs.drop j)
    rw [List.take_append_drop] at this
    rw [this, List.length_take, Nat.min_eq_left hj]
  rw [ew] at e
  have hwl := wholes_le (qs.drop j) (min keep (sumP pc))
  rw [List.length_drop] at hwl
  have hlen2 : (fby (qs.take (j + wholes (qs.drop j) (min keep (sumP pc)))) ++ t).length ≤ (fby qs).length := by
    rw [← e, List.length_take]; omega
  have hZ := h.sg qs (by simp)
  refine ⟨t, j + wholes (qs.drop j) (min keep (sumP pc)), by omega, by omega, ⟨rfl, h.full, rfl, Int.le_refl 0, by show (0 : Int) < _; decide, by show s.limit ≤ _; exact h.lim.2, by show s.writes < _; have := h.wr; have := h.wr2; omega⟩, h.lim.1, ⟨[], (fby (qs.take j)).length + min keep (sumP pc), ?_, Nat.zero_le _, fun x hx => by cases hx⟩, ht, h.ne, ?_, fun ps hq => ?_, by omega, fun ps hq => ?_, h.z, h.wr⟩
  · have h2 : Fls ({ ((s.offd).plus q L keep).crashT with off := false } : DM) sLog (I.length + 1) _ := ⟨hcr.map, hcr.keys, hcr.F, hcr.used⟩
    refine h2.congr (fun i hi => ?_)
    simp only [LB_last, leftN]
    rw [LB_set, List.take_take, Nat.min_eq_left (by omega), e]
  · have := h.few
    rw [List.length_take]
    omega
  · rcases List.mem_append.1 hq with hq | hq
    · exact h.sg ps (List.mem_append_left _ hq)
    · rw [List.mem_singleton.1 hq]
      have := fby_take_le qs (j + wholes (qs.drop j) (min keep (sumP pc)))
      omega
  · rcases List.mem_append.1 hq with hq | hq
    · exact h.pay ps (List.mem_append_left _ hq)
    · rw [List.mem_singleton.1 hq]
      exact fun p hp => h.pay qs (by simp) p (List.mem_of_mem_take hp)
/-- Crash of such a disk. -/
theorem wcrashX (w : World) (d m : Nat) (keep : Int) (s : DM) (q : DW) (O : Nat → Prop) (Z c j V : Nat) (I : List (List (List Nat))) (qs : List (List Nat)) (W : World) (h : DS w W d m s q O) (hS : LX s Z I qs c j V) (hkp : keep ≤ 9223372036854775807) :
    Calls Tryz.prog 21 #[.pointer (some ⟨d, 0, none⟩), .int .i64 keep] W fun e W' => e = .returned (.tuple #[]) ∧ ∃ s' q', DkAt W' d m s' q' O ∧ Fr O W W' ∧ ∃ t k, j ≤ k ∧ k ≤ qs.length ∧ LT { s' with off := false } Z I (qs.take k) t V := by
  obtain ⟨pc, hf, hsm, hl⟩ := hS.fl
  have hn := hS.n
  have hz := hS.z
  have hus := hS.used
  have hc := hS.cle
  have hlen : ((fby qs).take c).length = c := by rw [List.length_take]; omega
  have hsg : Segs I.length (LB I ⟨(fby qs).take c, (fby (qs.take j)).length, pc⟩) := ⟨fun i hi => by rw [LB_old _ _ hi], fun i hi => by rw [LB_old _ _ hi], by rw [LB_last]; simp only [hlen]; exact hsm, by rw [LB_last]; simp only; omega⟩
  have hal := (hf.allp_sz hsg q).2
  rw [LB_last] at hal
  have hk : ∀ k, Maps.has s.D (.string k) = true → (s.F k).ps.length ≤ 80 ∧ (s.F k).safe + sumP (s.F k).ps = (s.F k).b.length ∧ (s.F k).b.length ≤ 600 := fun k hk => by
    obtain ⟨i, hi, rfl⟩ := hf.key hk
    rw [hf.F i hi]
    by_cases e : i = I.length
    · subst e
      rw [LB_last]
      have := hS.sg qs (by simp)
      exact ⟨by simp only; omega, by simp only [hlen]; exact hsm, by simp only [hlen]; omega⟩
    · have hi2 : i < I.length := by omega
      rw [LB_old _ _ hi2]
      have := hS.sg (I.getD i []) (by
        rw [List.getD_eq_getElem?_getD, List.getElem?_eq_getElem hi2]
        exact List.mem_append_left _ (List.getElem_mem hi2))
      exact ⟨Nat.zero_le _, rfl, by show (fby (I.getD i [])).length ≤ 600; omega⟩
  refine (crash_any d m keep s q O W h.D (by rw [hal]; simp only; omega) (fun k h => by have := hk k h; omega) hkp (fun k h => by
    have h2 := hk k h
    refine ⟨by omega, fun p hp => ?_⟩
    have := sumP_mem _ p hp
    omega) (fun k h => by have := hk k h; omega) hf.ln (by omega)).mono ?_
  rintro e W' ⟨rfl, L, q', hL, _, hD, _, hfr⟩
  have hq : ∀ i, i < I.length → q.fb (nm (seg sLog i)) ≠ q.fb (nm (seg sLog I.length)) := fun i hi => (h.D.ap _ _ (hf.has (by omega)) (hf.has (by omega)) (fun e => by have := seg_inj (by omega) (by omega) e; omega)).1
  exact ⟨rfl, _, q', hD, hfr, hS.crash q L keep.toNat hL hq⟩
end Go.Proofs.YtmmaddlphclpnaaGreatDoor

namespace Go.Proofs.YtmmaddlphclpnaaGreatDoor
open Go.RowKit Go.ChangeShapes Go.WideShapes Go.Maps Go.Sort

theorem getD_take {α : Type} (l : List α) (M i : Nat) (d : α) (h : i < M) : (l.take M).getD i d = l.getD i d := by
  rw [List.getD_eq_getElem?_getD, List.getD_eq_getElem?_getD, List.getElem?_take_of_lt h]
/-- A segment's bytes. -/
theorem LS.bytes {s : DM} {Z : Nat} {I : List (List (List Nat))} {ps : List (List Nat)} {j V : Nat} (h : LS s Z I ps j V) {i : Nat} (hi : i < I.length + 1) : (s.F (nm (seg sLog i))).b = fby ((I ++ [ps]).getD i []) := by
  obtain ⟨pc, hf, _, _⟩ := h.fl
  rw [hf.F i hi]
  by_cases e : i = I.length
  · subst e
    rw [LB_last]
    simp
  · rw [LB_old _ _ (by omega)]
    rw [List.getD_eq_getElem?_getD, List.getD_eq_getElem?_getD, List.getElem?_append_left (by omega)]
theorem LS.mem {s : DM} {Z : Nat} {I : List (List (List Nat))} {ps : List (List Nat)} {j V : Nat} (_ : LS s Z I ps j V) {i : Nat} (hi : i < I.length + 1) : (I ++ [ps]).getD i [] ∈ I ++ [ps] := by
  have hl : i < (I ++ [ps]).length := by simp; omega
  rw [List.getD_eq_getElem?_getD, List.getElem?_eq_getElem hl]
  exact List.getElem_mem hl
/-- A disk where Open finds something broken. -/
structure Brk (s : DM) (Z N : Nat) : Prop where
  off : s.off = false
  fl : ∃ b, Fls s sLog N b
  n : N ≤ 71
  used : s.used ≤ 42600
  z : Z ≤ 600
  bad : (scn (fun i => (s.F (nm (seg sLog i))).b) N (Z - 12) N ⟨sLog, Z, [], []⟩).2 = false
theorem LS.brk {s : DM} {Z : Nat} {I : List (List (List Nat))} {ps : List (List Nat)} {j V : Nat} (h : LS s Z I ps j V) {M a k : Nat} (hM : M < I.length + 1) (ha : a < (s.F (nm (seg sLog M))).b.length) (hk : k < 8) : Brk (s.turned (nm (seg sLog M)) a k) Z (I.length + 1) := by
  have hu := h.used.1
  have hn := h.n
  have hlen : (I ++ [ps]).length = I.length + 1 := by simp
  have hb := h.bytes hM
  obtain ⟨pc, hf, _, _⟩ := h.fl
  have hpay : ∀ qs ∈ I ++ [ps], ∀ p ∈ qs, p.length ≤ Z - 12 ∧ p.length < 4294967296 := fun qs hq p hp => by
    have := h.pay qs hq p hp
    have := h.z
    omega
  refine ⟨h.good.off, ⟨_, hf.turn (M := M) (by omega) hM ((s.F (nm (seg sLog M))).turn a k) rfl (fun x => rfl) ?_⟩, by omega, hu, h.z, ?_⟩
  · show s.used + _ = s.used + ((s.F (nm (seg sLog M))).b.set a _).length
    rw [List.length_set, hf.F M hM]
  · rw [hb] at ha
    have hBi : ∀ i, i < I.length + 1 → i ≠ M → ((s.turned (nm (seg sLog M)) a k).F (nm (seg sLog i))).b = fby ((I ++ [ps]).getD i []) := fun i hi hne => by
      show (if nm (seg sLog i) = nm (seg sLog M) then _ else _ : FM).b = _
      rw [if_neg (fun e => hne (seg_inj (by omega) (by omega) e))]
      exact h.bytes hi
    have hBM : ((s.turned (nm (seg sLog M)) a k).F (nm (seg sLog M))).b = flipB (fby ((I ++ [ps]).getD M [])) a k := by
      show (if nm (seg sLog M) = nm (seg sLog M) then (s.F (nm (seg sLog M))).turn a k else _ : FM).b = _
      rw [if_pos rfl]
      show (s.F (nm (seg sLog M))).b.set a _ = _
      rw [hb]
      rfl
    have htl : ((I ++ [ps]).take M).length = M := by rw [List.length_take]; omega
    exact scn_turned sLog Z (Z - 12) (fun i => ((s.turned (nm (seg sLog M)) a k).F (nm (seg sLog i))).b) (I.length + 1) a k ((I ++ [ps]).getD M []) (hpay _ (h.mem hM)) ha hk ((I ++ [ps]).take M) [] (I.length + 1) (by rw [htl]; simp; omega) (by rw [htl]; omega) (fun i hi => by
      rw [htl] at hi
      simp only [List.length_nil, Nat.zero_add]
      rw [hBi i (by omega) (by omega), getD_take _ _ _ _ hi]) (by
      rw [htl]
      simp only [List.length_nil, Nat.zero_add]
      exact hBM) (fun qs hq => hpay qs (List.mem_of_mem_take hq))
set_option maxHeartbeats 1000000 in
set_option maxRecDepth 100000 in
/-- Log.find where something is broken. -/
theorem wfind_bad (w : World) (l d m : Nat) (s : DM) (q : DW) (O : Nat → Prop) (Z N : Nat) (W : World) (h : WL w W l d m ⟨sLog, Z, [], []⟩ s q O (.slice none 0 0) (.slice none 0 0)) (hB : Brk s Z N) (hZ : 16 ≤ Z) :
    Calls Tryz.prog 38 #[.pointer (some ⟨l, 0, none⟩)] W fun e W' => e = .returned (.int .i64 4) ∧ Fr (fun k => k = l) W W' := by
  obtain ⟨b, hf⟩ := hB.fl
  have hn := hB.n
  have hz := hB.z
  have hus := hB.used
  have htot : tot (fun i => (s.F (nm (seg sLog i))).b) N ≤ 1048576 := by
    have e : tot (fun i => (s.F (nm (seg sLog i))).b) N = s.used := by
      rw [hf.used]
      exact tot_eq (fun i hi => by rw [hf.F i hi])
    omega
  have hsc := scan_ext w l d m ⟨sLog, Z, [], []⟩ s q O _ _ N (Z - 12) W (fun i => (s.F (nm (seg sLog i))).b) (fun _ => rfl) h rfl rfl rfl rfl (by show (3 : Nat) ≤ 32; decide) hB.off (by omega) (fun i hi => hf.has hi) (hf.no (Nat.le_refl _) (by omega)) htot (by show Z = _; omega) (by omega)
  rw [hB.bad] at hsc
  have HSC : Hid (Calls Tryz.prog 73 #[.pointer (some ⟨l, 0, none⟩)] W fun e W' => e = .returned (.bool false) ∧ Fr (fun k => k = l) W W') := hsc.mono (by
    rintro e W' ⟨rfl, sv, pv, _, hx⟩
    exact ⟨rfl, hx.1⟩)
  clear hsc htot h hf
  go_enter Tryz.func38, Tryz.ntmps38
  go_wp2_with fail
  refine (unhide HSC).mono ?_
  rintro e w1 ⟨rfl, hf1⟩
  have H1 := hide hf1
  clear hf1
  go_wp2_with fail
  go_ret
  exact ⟨rfl, unhide H1⟩
set_option maxHeartbeats 1000000 in
set_option maxRecDepth 100000 in
/-- Open where something is broken: EBROKEN, and all is as it was. -/
theorem wopen_bad (w : World) (d m : Nat) (s : DM) (q : DW) (O : Nat → Prop) (Z N : Nat) (W : World) (h : DS w W d m s q O) (hB : Brk s Z N) (hZ : 16 ≤ Z) :
    Calls Tryz.prog 10 #[.pointer (some ⟨d, 0, none⟩), .string sLog, .int .i64 (Z : Nat)] W fun e W' => e = .returned (.tuple #[.pointer none, .int .i64 4]) ∧ Fr (fun _ => False) W W' := by
  have HO := hide (off_any d m s q O W h.D)
  rw [hB.off] at HO
  have HF : Hid (∀ W1 W2 l, Fr (fun _ => False) W W1 → W2 = W1.alloc (.cells #[.pointer (some ⟨d, 0, none⟩), .string sLog, .int .i64 (Z : Nat), .slice none 0 0, .slice none 0 0] 82) → l = W1.heap.size → Calls Tryz.prog 38 #[.pointer (some ⟨l, 0, none⟩)] W2 fun e W' => e = .returned (.int .i64 4) ∧ Fr (fun _ => False) W W') := fun W1 W2 l hf e2 el => by
    subst el
    subst e2
    have h1 := h.quiet hf
    have hbx := box1 W1 (.cells #[.pointer (some ⟨d, 0, none⟩), .string sLog, .int .i64 (Z : Nat), .slice none 0 0, .slice none 0 0] 82)
    have h2 := h1.quiet hbx
    have hw : WL w (W1.alloc (.cells #[.pointer (some ⟨d, 0, none⟩), .string sLog, .int .i64 (Z : Nat), .slice none 0 0, .slice none 0 0] 82)) W1.heap.size d m ⟨sLog, Z, [], []⟩ s q O (.slice none 0 0) (.slice none 0 0) :=
      ⟨h2.D, ⟨heap_alloc_new _ _, World.ownsRow_nil _ _ _ _, World.ownsRow_nil _ _ _ _⟩, fun e => Nat.lt_irrefl _ (h1.D.lt _ e), fun g hg => (by cases hg), fun g hg => (by cases hg), h2.fr, h2.o, h1.fr.size, fun g hg => (by cases hg), fun g hg => (by cases hg)⟩
    refine (wfind_bad w W1.heap.size d m s q O Z N _ hw hB hZ).mono ?_
    rintro e W3 ⟨rfl, hfr⟩
    refine ⟨rfl, (hf.trans hbx (fun _ _ h => h)).trans hfr (fun k hk e => ?_)⟩
    have := hf.size
    omega
  have HC : Hid (∀ W', Calls Tryz.prog 37 #[.string sLog] W' fun e w' => e = .returned (.string sLog) ∧ Fr (fun _ => False) W' w') := fun W' => sclone_any sLog W' (by decide)
  have hz := hB.z
  have h1 : ¬ (sLog.size : Int) < 1 := by decide
  have h2 : ¬ (32 : Int) < (sLog.size : Int) := by decide
  have h3 : ¬ (Z : Int) < 16 := by omega
  have h4 : ¬ (1048576 : Int) < (Z : Int) := by omega
  clear h hz hZ hB
  generalize sLog = NM at *
  go_enter Tryz.func10, Tryz.ntmps10
  go_wp2_with (go_at_call 33; refine (unhide HO).mono ?_; rintro e w' ⟨rfl, rfl⟩; clear HO)
  refine ((unhide HC) _).mono ?_
  rintro e w1 ⟨rfl, hf1⟩
  have HF1 := hide ((unhide HF) w1 _ _ hf1 rfl rfl)
  clear hf1 HF HC
  go_wp2_with (go_at_call 38; refine (unhide HF1).mono ?_; rintro e w2 ⟨rfl, hW⟩; clear HF1; have HW := hide hW; clear hW)
  go_ret2
  exact ⟨rfl, unhide HW⟩
theorem str_nm (s : ByteArray) : encStr (nm s) = .string s := by
  show Value.string ⟨(s.data.toList).toArray⟩ = _
  rw [Array.toArray_toList]
/-- The names of a disk that has just a log's segments. -/
theorem wnames (d m : Nat) (s : DM) (q : DW) (O : Nat → Prop) (N : Nat) (b : Nat → FM) (W : World) (h : DkAt W d m s q O) (hf : Fls s sLog N b) (h0 : 0 < N) (hN : N ≤ 256) :
    Calls Tryz.prog 11 #[.pointer (some ⟨d, 0, none⟩)] W fun e W' => ∃ g c, e = .returned (.slice (some ⟨g, 0, none⟩) N c) ∧ W.heap.size ≤ g ∧ (∀ i, i < N → ∃ M, M < N ∧ W'.cell? ⟨g, i, none⟩ = some (.string (seg sLog M))) ∧ Fr (fun _ => False) W W' := by
  refine (names_any d m s q O W h (by rw [hf.size]; exact hN)).mono ?_
  rintro e W' ⟨v, ss, rfl, hp, hown, hfr⟩
  have hmem : ∀ x ∈ ss, ∃ M, M < N ∧ x = nm (seg sLog M) := fun x hx => by
    have hx := hp.mem_iff.1 hx
    obtain ⟨es, he⟩ := hf.map
    have hkeys := hf.keys
    rw [he] at hx hkeys
    obtain ⟨p, hp, e⟩ := List.mem_map.1 hx
    have := hkeys.mem_iff.1 (List.mem_map_of_mem (f := Prod.fst) hp)
    obtain ⟨i, hi, e2⟩ := List.mem_map.1 this
    refine ⟨i, List.mem_range.1 hi, ?_⟩
    rw [← e, ← e2]
    rfl
  have hlen : ss.length = N := by
    rw [hp.length_eq]
    obtain ⟨es, he⟩ := hf.map
    have hkeys := hf.keys
    rw [he] at hkeys ⊢
    have := hkeys.length_eq
    rw [List.length_map, List.length_map, List.length_range] at this
    show (es.map _).length = N
    rw [List.length_map]
    exact this
  rw [hlen] at hown
  rcases hown.2 with ⟨_, e0⟩ | ⟨g, c, cur, rfl, hg, hb, hc, _⟩
  · omega
  · refine ⟨g, c, rfl, hg, fun i hi => ?_, hfr⟩
    have hil : i < (ss.mergeSort (fun x y => decide (x ≤ y))).length := by rw [List.length_mergeSort]; omega
    obtain ⟨M, hM, e⟩ := hmem _ ((List.mergeSort_perm ss _).mem_iff.1 (List.getElem_mem hil))
    refine ⟨M, hM, (hown.cellAt i (by omega)).trans ?_⟩
    rw [List.getElem?_map, List.getElem?_eq_getElem hil, e]
    show some (encStr (nm (seg sLog M))) = _
    rw [str_nm]
/-- Bytes count modulo 256. -/
theorem cells_set (l : List Nat) (a y : Nat) (h : y % 256 = l.getD a 0 % 256) : cellsOf (l.set a y) = cellsOf l := by
  unfold cellsOf
  rw [List.map_set]
  rcases Nat.lt_or_ge a l.length with ha | ha
  · have e : B y = (l.map B)[a]'(by simp; exact ha) := by
      rw [List.getElem_map]
      rw [List.getD_eq_getElem?_getD, List.getElem?_eq_getElem ha, Option.getD_some] at h
      simp only [B, h]
    rw [e, List.set_getElem_self]
  · rw [List.set_eq_of_length_le (by simp; exact ha)]
/-- A bit turned, and turned back. -/
theorem DkAt.back {W : World} {d m : Nat} {s : DM} {q : DW} {O : Nat → Prop} {x : List UInt8} {a k : Nat} (h : DkAt W d m ((s.turned x a k).turned x a k) q O) (ha : a < (s.F x).b.length) (hk : k < 8) : DkAt W d m s q O := by
  refine ⟨h.blk, h.map, fun y hy => ⟨(h.at_ y hy).1, ?_⟩, h.own, h.ap, h.od, h.om, h.lt⟩
  have hA := (h.at_ y hy).2
  by_cases e : y = x
  · subst e
    have eF : ((s.turned y a k).turned y a k).F y = ((s.F y).turn a k).turn a k := by simp [DM.turned]
    rw [eF] at hA
    have eb : cellsOf (((s.F y).turn a k).turn a k).b = cellsOf (s.F y).b := by
      show cellsOf (((s.F y).b.set a ((s.F y).b.getD a 0 % 256 ^^^ 2 ^ k)).set a _) = _
      rw [List.set_set]
      refine cells_set _ _ _ ?_
      have e1 : ((s.F y).turn a k).b.getD a 0 = (s.F y).b.getD a 0 % 256 ^^^ 2 ^ k := by
        show ((s.F y).b.set a _).getD a 0 = _
        rw [List.getD_eq_getElem?_getD, List.getElem?_set_self ha]; rfl
      rw [e1, Nat.mod_eq_of_lt (bit_lt hk), Nat.mod_eq_of_lt (bit_lt hk), Nat.xor_assoc, Nat.xor_self, Nat.xor_zero]
    have el : (((s.F y).turn a k).turn a k).b.length = (s.F y).b.length := by
      show (((s.F y).b.set a _).set a _).length = _
      rw [List.length_set, List.length_set]
    have hbo := hA.bo
    rw [eb, el] at hbo
    exact ⟨hA.blk, hbo, hA.po⟩
  · have eF : ((s.turned x a k).turned x a k).F y = s.F y := by simp [DM.turned, e]
    rw [eF] at hA
    exact hA
end Go.Proofs.YtmmaddlphclpnaaGreatDoor

namespace Go.Proofs.YtmmaddlphclpnaaGreatDoor
open Go.RowKit Go.ChangeShapes Go.WideShapes Go.Maps Go.Sort

theorem Tryz.ni1 (a : Addr) (n c : Nat) (w : World) : (binOp .eql 37 (.slice (some a) n c) (.slice none 0 0)).run Tryz.prog w = .ok (.bool false) w := by kernel_rfl
set_option maxRecDepth 100000 in
/-- slices.Clone of numbers. -/
theorem iclone_any (g n c : Nat) (l : List Nat) (w : World) (h : w.ownsRow 0 3 1 (.slice (some ⟨g, 0, none⟩) n c) n (icells l)) (hn : l.length = n) (hl : n ≤ 1000) :
    Calls Tryz.prog 84 #[.slice (some ⟨g, 0, none⟩) n c] w fun e w' => ∃ v, e = .returned v ∧ w'.ownsRow w.heap.size 3 1 v n (icells l) ∧ Fr (fun _ => False) w w' := by
  obtain ⟨i0, hi, hz0, hz1, hz2⟩ := info_parts Tryz.infoInt
  have hbx := box1 w (.cells #[] 3)
  have hil : (icells l).length = n := by simp [icells, hn]
  obtain ⟨v', w2, hr, h2, h3, _, _⟩ := run_append_own_at (P := Tryz.prog) (w := w.alloc (.cells #[] 3)) w.heap.size 37 37 3 i0 (.int .i64 0) 1 8 Tryz.underlying37 hi hz0 hz1 hz2 rfl (by decide) (.slice (some ⟨w.heap.size, 0, none⟩) 0 0) 0 [] (World.ownsRow_made w #[] 0 (Nat.le_refl _) (Nat.zero_le _) rfl) ⟨g, 0, none⟩ n c (icells l) (by rw [hil]; omega) (fun j u hu => by
    have hj : j < n := by
      have := (List.getElem?_eq_some_iff.1 hu).1
      omega
    rw [addr_add, Nat.zero_add]
    have hc := (h.cellAt j (by omega)).trans hu
    exact (hbx.cell (p := ⟨g, j, none⟩) (lt_of_cell hc) (fun h => h)).trans hc) (fun u hu => by
    simp only [icells, List.mem_map] at hu
    obtain ⟨z, _, rfl⟩ := hu
    rfl) (by simp only [maxLen]; omega) (by omega) (by simp)
  obtain ⟨ao, cap, rfl⟩ := own_formX h2
  have HR := hide hr
  have HA := hide (And.intro h2 (hbx.grown h3 (fun k hk => .inr (by simp [Value.ownBlock] at hk; omega))))
  clear hr h2 h3 h
  have n1 := Tryz.ni1
  go_enter Tryz.func84, Tryz.ntmps84
  go_wp2_with (at_builtin; refine wpList_app rfl _ _ 37 37 rfl _ _ _ rfl rfl (unhide HR) ?_)
  go_ret
  obtain ⟨hown, hf⟩ := unhide HA
  exact ⟨_, rfl, by simpa using hown, hf⟩
set_option maxRecDepth 100000 in
/-- Log.Segments. -/
theorem segments_any (l d : Nat) (L : LM) (sv pv : Value) (ss : List Nat) (x : Nat) (W : World) (h : LgAt W l d L sv pv) (hs : L.segs = ss ++ [x]) (hl : ss.length < 100) :
    Calls Tryz.prog 50 #[.pointer (some ⟨l, 0, none⟩)] W fun e W' => ∃ v, e = .returned v ∧ W'.ownsRow W.heap.size 3 1 v (ss.length + 1) (icells (ss ++ [x])) ∧ Fr (fun _ => False) W W' := by
  obtain ⟨g, c, rfl, hc, _⟩ := h.last hs
  obtain ⟨c0, c1, c2, c3, c4, fz⟩ := h.cells
  have hso := h.so
  have hlen : L.segs.length = ss.length + 1 := by rw [hs]; simp
  rw [hlen, hs] at hso
  have HC := hide (iclone_any g (ss.length + 1) c (ss ++ [x]) W hso (by simp) (by omega))
  clear h hs hso hlen c0 c1 c2 c4 fz
  go_enter Tryz.func50, Tryz.ntmps50
  go_wp2_with fail
  refine (unhide HC).mono ?_
  rintro e w2 ⟨v, rfl, h1, h2⟩
  have H2 := hide (And.intro h1 h2)
  clear h1 h2
  go_wp2_with fail
  go_ret
  exact ⟨v, rfl, (unhide H2).1, (unhide H2).2⟩
end Go.Proofs.YtmmaddlphclpnaaGreatDoor

namespace Go.Proofs.YtmmaddlphclpnaaGreatDoor
open Go.RowKit Go.ChangeShapes Go.WideShapes Go.Maps Go.Sort

/-- What lies apart from a log and its disk has turned. -/
theorem WL.go2 {w W W' : World} {l d m : Nat} {L : LM} {s : DM} {q : DW} {O S : Nat → Prop} {sv pv : Value} (h : WL w W l d m L s q O sv pv) (hf : Fr S W W') (hS : ∀ k, S k → ¬ Ours l O sv pv k ∧ w.heap.size ≤ k) : WL w W' l d m L s q O sv pv :=
  ⟨h.D.fr hf (fun k hk e => (hS k e).1 (.inl hk)), h.G.fr hf (fun e => (hS l e).1 (.inr (.inl rfl))) (fun g hg e => (hS g e).1 (.inr (.inr (.inl hg)))) (fun g hg e => (hS g e).1 (.inr (.inr (.inr hg)))), h.al, h.asv, h.ap, h.fr.absorb hf (fun k hk => (hS k hk).2), h.o, h.ol, h.os, h.op⟩
theorem WL.lt {w W : World} {l d m : Nat} {L : LM} {s : DM} {q : DW} {O : Nat → Prop} {sv pv : Value} (h : WL w W l d m L s q O sv pv) {k : Nat} (hk : Ours l O sv pv k) : k < W.heap.size := by
  rcases hk with e | e | e | e
  · exact h.D.lt k e
  · rw [e]; exact h.G.lt.1
  · exact h.G.lt.2.1 k e
  · exact h.G.lt.2.2 k e
/-- Slices of bytes that come in. -/
structure KJ (w : World) (xo : Option Addr) (hs : List (List Nat)) : Prop where
  el : ∀ (j : Nat) p, hs[j]? = some p → ∃ g o ho hc, xo = some ⟨g, o, none⟩ ∧ w.cell? ⟨g, o + j, none⟩ = some (.slice ho p.length hc) ∧ Src w (.slice ho p.length hc) p ∧ p.length ≤ hc ∧ p.length < 9223372036854775808
theorem cell_lt {w : World} {a : Addr} {v : Value} (h : w.cell? a = some v) : a.block < w.heap.size := by
  rcases Nat.lt_or_ge a.block w.heap.size with hx | hx
  · exact hx
  · simp [World.cell?, Array.getElem?_eq_none hx] at h
theorem cell_fr0 {w W : World} {g o : Nat} {v : Value} (h : w.cell? ⟨g, o, none⟩ = some v) (hf : Fr (fun _ => False) w W) : W.cell? ⟨g, o, none⟩ = some v := by
  have hb := hf.block g (cell_lt h) (fun h => h)
  rw [← h]
  simp only [World.cell?, hb]
/-- The list of what was appended, in memory: its slices are those that came in. -/
structure KV (w W : World) (v : Value) (ps : List (List Nat)) (us : List Value) : Prop where
  len : us.length = ps.length
  row : W.ownsRow w.heap.size 35 1 v ps.length us
  el : ∀ (j : Nat) u p, us[j]? = some u → ps[j]? = some p → (∃ ho hc, u = .slice ho p.length hc ∧ p.length ≤ hc) ∧ Src w u p
theorem KV.fr {w W W' : World} {v : Value} {ps : List (List Nat)} {us : List Value} {S : Nat → Prop} (h : KV w W v ps us) (hf : Fr S W W') (hS : ∀ g, v.ownBlock = some g → ¬ S g) : KV w W' v ps us :=
  ⟨h.len, ownsRow_of_block h.row (fun k hk => hf.block k (h.row.lt k hk).2 (hS k hk)), h.el⟩
theorem Tryz.infoSl : (Tryz.prog.info? 35).map (fun i => (i.zero, i.size, i.bytes)) = some (some (.slice none 0 0), 1, 24) := by kernel_rfl
/-- append(kept, p). -/
theorem app_sl (w : World) (base : Nat) (v : Value) (us : List Value) (uo : Option Addr) (un uc : Nat) (h : w.ownsRow base 35 1 v us.length us) (hb : base ≤ w.heap.size) (hl : us.length ≤ 1000000) :
    ∃ ao cap w', (Builtin.append_ #[67, 67] 67 #[v, .slice (some ⟨w.heap.size, 0, none⟩) 1 1]).run Tryz.prog (w.alloc (.cells #[.slice uo un uc] 35)) = .ok (.slice ao (us.length + 1) cap) w' ∧ w'.ownsRow base 35 1 (.slice ao (us.length + 1) cap) (us.length + 1) (us ++ [.slice uo un uc]) ∧ Fr (fun g => v.ownBlock = some g) w w' ∧
      ∀ g, (Value.slice ao (us.length + 1) cap).ownBlock = some g → v.ownBlock = some g ∨ w.heap.size ≤ g := by
  obtain ⟨i0, hi, hz0, hz1, hz2⟩ := info_parts Tryz.infoSl
  have hb' := ownsRow_of_block (w' := w.alloc (.cells #[.slice uo un uc] 35)) h (fun g hg => Below.heap_alloc _ _ _ (h.lt g hg).2)
  obtain ⟨v', w', hr, h2, h3, _, h5⟩ := run_append_own_at (P := Tryz.prog) (w := w.alloc (.cells #[.slice uo un uc] 35)) base 67 67 35 i0 (.slice none 0 0) 1 24 Tryz.underlying67 hi hz0 hz1 hz2 rfl (by decide) v us.length us hb' ⟨w.heap.size, 0, none⟩ 1 1 [.slice uo un uc] rfl (fun j u hu => by
    rw [addr_add, World.cell?_alloc_at _ _ _ _ rfl]; simpa using hu) (fun u hu => by simp at hu; rcases hu with rfl; rfl) (by simp only [maxLen]; omega) (by omega) (by simp; omega)
  obtain ⟨ao, cap, rfl⟩ := own_formX h2
  refine ⟨ao, cap, w', hr, h2, ((box1 w _).mono (fun _ _ h => h.elim)).grown h3 (fun g hg => .inl hg), fun g hg => ?_⟩
  rcases h5 with e | e
  · rw [e] at hg; exact .inl hg
  · rw [e] at hg; cases hg; exact .inr (by simp)
end Go.Proofs.YtmmaddlphclpnaaGreatDoor

namespace Go.Proofs.YtmmaddlphclpnaaGreatDoor
open Go.RowKit Go.ChangeShapes Go.WideShapes Go.Maps Go.Sort

/-- At of a payload. -/
theorem wat_of (w : World) (l d m : Nat) (s : DM) (q : DW) (O : Nat → Prop) (sv pv : Value) (Z j V : Nat) (I : List (List (List Nat))) (ps : List (List Nat)) (k : Nat) (p : List Nat) (W : World) (h : WL w W l d m (LM.of sLog Z (I ++ [ps])) s q O sv pv) (hS : LS s Z I ps j V) (hk : (I.flatten ++ ps)[k]? = some p) :
    Calls Tryz.prog 20 #[.pointer (some ⟨l, 0, none⟩), .int .i64 (k : Nat)] W fun e W' => ∃ v, e = .returned (.tuple #[v, .int .i64 0]) ∧ W'.ownsRow W.heap.size 5 1 v p.length (cellsOf p) ∧ Fr (fun _ => False) W W' := by
  have hfl : (I ++ [ps]).flatten = I.flatten ++ ps := by simp
  obtain ⟨a, b, qs, h1, h2, h3, h4⟩ := plc_at (I ++ [ps]) 0 k p (by rw [hfl]; exact hk)
  rw [Nat.zero_add] at h2
  have hn := hS.n
  have hz := hS.z
  have ha : a < I.length + 1 := by
    have := (List.getElem?_eq_some_iff.1 h1).1
    simpa using this
  have hF : (s.F (nm (seg sLog a))).b = fby qs := by
    by_cases e : a = I.length
    · subst e
      rw [List.getElem?_append_right (Nat.le_refl _), Nat.sub_self] at h1
      obtain ⟨pc, hl, _⟩ := hS.last
      rw [hl]
      simp at h1
      rw [h1]
    · rw [List.getElem?_append_left (by omega)] at h1
      rw [hS.old h1]
  have hsg := hS.sg qs (List.mem_of_getElem? h1)
  have := wat_ok w l d m (LM.of sLog Z (I ++ [ps])) s q O sv pv k a b p.length W h h2 (by show (3 : Nat) ≤ 32; decide) (by omega) hS.good.off (hS.has (by omega)) (by show (s.F (nm (seg sLog a))).b.length ≤ _; rw [hF]; omega) (by show _ ≤ (s.F (nm (seg sLog a))).b.length; rw [hF]; exact h4)
  rw [show (s.F (nm (seg (LM.of sLog Z (I ++ [ps])).name a))).b = fby qs from hF, h3] at this
  exact this
/-- Synced. -/
theorem wsyn_of (w : World) (l d m : Nat) (s : DM) (q : DW) (O : Nat → Prop) (sv pv : Value) (Z j V : Nat) (I : List (List (List Nat))) (ps : List (List Nat)) (W : World) (h : WL w W l d m (LM.of sLog Z (I ++ [ps])) s q O sv pv) (hS : LS s Z I ps j V) :
    Calls Tryz.prog 14 #[.pointer (some ⟨l, 0, none⟩)] W fun e W' => e = .returned (.int .i64 ((I.flatten.length + j : Nat) : Int)) ∧ Fr (fun _ => False) W W' := by
  have hn := hS.n
  have hz := hS.z
  have hj := hS.jle
  have ilen : (I.map (fun ps => (fby ps).length)).length = I.length := List.length_map _
  obtain ⟨pc, hF, _⟩ := hS.last
  have hpl : (LM.of sLog Z (I ++ [ps])).pls.length = I.flatten.length + ps.length := of_plen ..
  have hfl : (I ++ [ps]).flatten.length = I.flatten.length + ps.length := by simp
  have hun : ∀ i, i < I.flatten.length + ps.length → (LM.of sLog Z (I ++ [ps])).uns I.length (fby (ps.take j)).length i = decide (I.flatten.length + j ≤ i) := fun i hi => of_uns sLog Z I ps j i (by rw [hfl]; exact hi)
  have hpb : ∀ p ∈ (LM.of sLog Z (I ++ [ps])).pls, p.2.1 ≤ 10000000 ∧ p.2.2 ≤ 10000000 := fun p hp => by
    obtain ⟨k, hk⟩ := List.mem_iff_getElem?.1 hp
    have hkl : k < (I ++ [ps]).flatten.length := by
      have := (List.getElem?_eq_some_iff.1 hk).1
      rw [hpl] at this
      rw [hfl]
      exact this
    obtain ⟨a, b, qs, h1, h2, _, h4⟩ := plc_at (I ++ [ps]) 0 k _ (List.getElem?_eq_getElem hkl)
    have e : p = (0 + a, b, ((I ++ [ps]).flatten[k]).length) := Option.some.inj (hk.symm.trans h2)
    rw [e]
    have := hS.sg qs (List.mem_of_getElem? h1)
    simp only
    omega
  have hs := wsynced_any w l d m (LM.of sLog Z (I ++ [ps])) s q O sv pv _ _ W h (of_segs ..) (by rw [ilen]; omega) (by show (3 : Nat) ≤ 32; decide) (by rw [hpl]; have := hS.few; omega) hpb hS.good.off (by rw [ilen]; exact hS.has (Nat.le_refl _)) (fun a b hab hb => by
    rw [ilen]
    show (LM.of sLog Z (I ++ [ps])).uns I.length (s.F (nm (seg sLog I.length))).safe a = true → (LM.of sLog Z (I ++ [ps])).uns I.length (s.F (nm (seg sLog I.length))).safe b = true
    rw [hF]
    simp only
    rw [hpl] at hb
    rw [hun a (by omega), hun b hb]
    simp only [decide_eq_true_eq]
    omega)
  rw [ilen] at hs
  refine hs.mono ?_
  rintro e W' ⟨r, rfl, h1, h2, h3, hf⟩
  refine ⟨?_, hf⟩
  have h2' : ∀ i, i < r → (LM.of sLog Z (I ++ [ps])).uns I.length (s.F (nm (seg sLog I.length))).safe i = false := h2
  have h3' : ∀ i, r ≤ i → i < (LM.of sLog Z (I ++ [ps])).pls.length → (LM.of sLog Z (I ++ [ps])).uns I.length (s.F (nm (seg sLog I.length))).safe i = true := h3
  rw [hF] at h2' h3'
  simp only at h2' h3'
  rw [hpl] at h1 h3'
  have er : r = I.flatten.length + j := by
    rcases Nat.lt_trichotomy r (I.flatten.length + j) with h | h | h
    · have := h3' r (Nat.le_refl _) (by omega)
      rw [hun r (by omega)] at this
      have := of_decide_eq_true this
      omega
    · exact h
    · have := h2' (I.flatten.length + j) h
      rw [hun _ (by omega)] at this
      have := of_decide_eq_false this
      omega
  rw [er]
end Go.Proofs.YtmmaddlphclpnaaGreatDoor

namespace Go.Proofs.YtmmaddlphclpnaaGreatDoor
open Go.RowKit Go.ChangeShapes Go.WideShapes Go.Maps Go.Sort

set_option maxHeartbeats 1000000 in
/-- Log.Append of a payload that fits into a segment. -/
theorem wap_any3 (w : World) (l d m : Nat) (s : DM) (q : DW) (O : Nat → Prop) (sv pv y : Value) (Z j V : Nat) (I : List (List (List Nat))) (ps : List (List Nat)) (p : List Nat) (W : World) (h : WL w W l d m (LM.of sLog Z (I ++ [ps])) s q O sv pv) (hS : LS s Z I ps j V) (hyW : Src W y p) (hyO : ∀ g o n c, y = .slice (some ⟨g, o, none⟩) n c → ¬ Ours l O sv pv g) (hp : p.length + 12 ≤ Z) (hc : I.flatten.length + ps.length < 70) (hV : V < 1000) :
    Calls Tryz.prog 13 #[.pointer (some ⟨l, 0, none⟩), y] W fun e W' => e = .returned (.tuple #[.int .i64 ((I.flatten.length + ps.length : Nat) : Int), .int .i64 0]) ∧ ∃ s' q' O' sv' pv' I' ps' j', WL w W' l d m (LM.of sLog Z (I' ++ [ps'])) s' q' O' sv' pv' ∧ LS s' Z I' ps' j' (V + 1) ∧ I'.flatten ++ ps' = I.flatten ++ ps ++ [p] ∧ (I', ps', j') = (if (fby ps).length + (12 + p.length) ≤ Z then (I, ps ++ [p], j) else (I ++ [ps], [p], 0)) ∧ (∀ k, Ours l O' sv' pv' k → Ours l O sv pv k ∨ W.heap.size ≤ k) ∧ Fr (Ours l O sv pv) W W' := by
  have hn := hS.n
  have hz := hS.z
  have hus := hS.used
  have hsl : (fby ps).length ≤ Z := hS.sg ps (by simp)
  have hlast := hS.last
  have hlim := hS.lim
  have ilen : (I.map (fun ps => (fby ps).length)).length = I.length := List.length_map _
  obtain ⟨pc, hF, hpc⟩ := hlast
  have hOurs : ∀ {O' : Nat → Prop} {sv' pv' : Value}, (∀ k, O' k → O k ∨ W.heap.size ≤ k) → (∀ g, sv'.ownBlock = some g → sv.ownBlock = some g ∨ W.heap.size ≤ g) → (∀ g, pv'.ownBlock = some g → pv.ownBlock = some g ∨ W.heap.size ≤ g) → ∀ k, Ours l O' sv' pv' k → Ours l O sv pv k ∨ W.heap.size ≤ k := fun h1 h2 h3 k hk => by
    rcases hk with e | e | e | e
    · exact (h1 k e).imp .inl id
    · exact .inl (.inr (.inl e))
    · exact (h2 k e).imp (fun e => .inr (.inr (.inl e))) id
    · exact (h3 k e).imp (fun e => .inr (.inr (.inr e))) id
  by_cases hr : (fby ps).length + (12 + p.length) ≤ Z
  · have HM : Calls Tryz.prog 41 #[.pointer (some ⟨l, 0, none⟩), .int .i64 ((12 + p.length : Nat) : Int)] W fun e W' => e = .returned (.int .i64 0) ∧ ∃ s1 q1 O1 sv1, s1 = s ∧ WL w W' l d m (LM.of sLog Z (I ++ [ps])) s1 q1 O1 sv1 pv ∧ Src W' y p ∧ (∀ k, O1 k → O k ∨ W.heap.size ≤ k) ∧ (∀ g, sv1.ownBlock = some g → sv.ownBlock = some g ∨ W.heap.size ≤ g) ∧ Fr (fun k => O k ∨ k = l ∨ sv.ownBlock = some k ∨ pv.ownBlock = some k) W W' := by
      refine (makeRoom_fits l d (LM.of sLog Z (I ++ [ps])) sv pv _ _ (12 + p.length) W h.G (of_segs ..) (by rw [ilen]; omega) (by omega) (by omega) (by show Z ≤ _; omega) hr).mono ?_
      rintro e W' ⟨rfl, hf⟩
      exact ⟨rfl, s, q, O, sv, rfl, h.quiet hf, hyW.fr0 hf, fun _ h => .inl h, fun _ h => .inl h, hf.mono (fun _ _ h => h.elim)⟩
    have hw := wappend2 w l d m (LM.of sLog Z (I ++ [ps])) (LM.of sLog Z (I ++ [ps])) s (fun s1 => s1 = s) q O sv pv y _ _ p W h hyW HM (by omega) hp (by show Z ≤ _; omega) (of_segs ..) rfl rfl (by show (3 : Nat) ≤ 32; decide) (by rw [ilen]; omega) (by rw [of_plen]; omega) (by omega) (fun s1 e => by
      subst e
      rw [ilen]
      show _ ∧ _ ∧ _ ∧ (s1.F (nm (seg sLog I.length))).b.length ≤ _ ∧ (s1.F (nm (seg sLog I.length))).ps.length ≤ _
      rw [hF]
      exact ⟨hS.good, hS.has (Nat.le_refl _), by omega, by simp only; omega, by simp only; omega⟩)
    rw [of_plen] at hw
    refine hw.mono ?_
    rintro e W' ⟨rfl, s1, q', O', sv', pv', rfl, h1, h2, h3, h4, h5⟩
    rw [ilen] at h1
    refine ⟨rfl, _, q', O', sv', pv', I, ps ++ [p], j, ?_, hS.app p (by omega) hc hV, by rw [List.append_assoc], by rw [if_pos hr], hOurs h2 h4 h5, h3⟩
    rw [of_more]
    exact h1
  · have hne : ps ≠ [] := fun e => by
      subst e
      simp only [fby_nil, List.length_nil] at hr
      omega
    have HM : Calls Tryz.prog 41 #[.pointer (some ⟨l, 0, none⟩), .int .i64 ((12 + p.length : Nat) : Int)] W fun e W' => e = .returned (.int .i64 0) ∧ ∃ s1 q1 O1 sv1, (∃ fb, s1 = (s.syn (nm (seg sLog I.length))).made (nm (seg sLog (I.length + 1))) fb) ∧ WL w W' l d m (LM.of sLog Z ((I ++ [ps]) ++ [[]])) s1 q1 O1 sv1 pv ∧ Src W' y p ∧ (∀ k, O1 k → O k ∨ W.heap.size ≤ k) ∧ (∀ g, sv1.ownBlock = some g → sv.ownBlock = some g ∨ W.heap.size ≤ g) ∧ Fr (fun k => O k ∨ k = l ∨ sv.ownBlock = some k ∨ pv.ownBlock = some k) W W' := by
      obtain ⟨pc2, hfl, _, _⟩ := hS.fl
      have hm := makeRoom_new w l d m (LM.of sLog Z (I ++ [ps])) s q O sv pv _ _ (12 + p.length) W h (of_segs ..) (by rw [ilen]; omega) (by show (3 : Nat) ≤ 32; decide) hS.good.off (by rw [ilen]; exact hS.has (Nat.le_refl _)) (by rw [ilen]; exact hfl.no (Nat.le_refl _) (by omega)) (by rw [hfl.size]; omega) hsl (by omega) (by show Z ≤ _; omega) (by show Z < _; omega)
      rw [ilen] at hm
      refine hm.mono ?_
      rintro e W' ⟨rfl, fb, q1, O1, sv1, h1, h2, h3, h4⟩
      refine ⟨rfl, _, q1, O1, sv1, ⟨fb, rfl⟩, ?_, hyW.fr h4 (fun g o n c e => hyO g o n c e), h2, h3, h4⟩
      have e : LM.of sLog Z ((I ++ [ps]) ++ [[]]) = { LM.of sLog Z (I ++ [ps]) with segs := (LM.of sLog Z (I ++ [ps])).segs ++ [0] } := by simp [LM.of, plc_app, plc, plo, fby]
      rw [e]
      exact h1
    have ilen2 : ((I ++ [ps]).map (fun ps => (fby ps).length)).length = I.length + 1 := by simp
    have hw := wappend2 w l d m (LM.of sLog Z (I ++ [ps])) (LM.of sLog Z ((I ++ [ps]) ++ [[]])) s _ q O sv pv y _ _ p W h hyW HM (by omega) hp (by show Z ≤ _; omega) (of_segs ..) (by simp [LM.of, plc_app, plc, plo]) rfl (by show (3 : Nat) ≤ 32; decide) (by rw [ilen2]; omega) (by rw [of_plen]; omega) (by simp [fby]) (fun s1 ⟨fb, e⟩ => by
      have hS1 := hS.nseg hne fb
      rw [← e] at hS1
      have hl1 := hS1.lim
      have hu1 := hS1.used
      obtain ⟨pc1, hF1, hpc1⟩ := hS1.last
      rw [show (I ++ [ps]).length = I.length + 1 by simp] at hF1
      rw [ilen2]
      show _ ∧ _ ∧ _ ∧ (s1.F (nm (seg sLog (I.length + 1)))).b.length ≤ _ ∧ (s1.F (nm (seg sLog (I.length + 1)))).ps.length ≤ _
      rw [hF1]
      exact ⟨hS1.good, hS1.has (by simp), by omega, by simp [fby], by simp only; omega⟩)
    rw [of_plen] at hw
    refine hw.mono ?_
    rintro e W' ⟨rfl, s1, q', O', sv', pv', ⟨fb, rfl⟩, h1, h2, h3, h4, h5⟩
    rw [ilen2] at h1
    have hS1 := (hS.nseg hne fb).app p (by simp only [fby_nil, List.length_nil]; omega) (by simp only [List.flatten_append, List.length_append, List.flatten_cons, List.flatten_nil, List.append_nil, List.length_nil]; omega) hV
    rw [show (I ++ [ps]).length = I.length + 1 by simp] at hS1
    refine ⟨rfl, _, q', O', sv', pv', I ++ [ps], [p], 0, ?_, hS1, by simp, by rw [if_neg hr], hOurs h2 h4 h5, h3⟩
    have e := of_more sLog Z (I ++ [ps]) [] p
    rw [List.nil_append] at e
    rw [e, show (I ++ [ps]).length = I.length + 1 by simp]
    have e2 : (LM.of sLog Z ((I ++ [ps]) ++ [[]])).pls = (LM.of sLog Z (I ++ [ps])).pls := by simp [LM.of, plc_app, plc, plo]
    rw [e2]
    exact h1
set_option maxRecDepth 100000 in
/-- Open with a name or a size that may not be. -/
theorem open_arg (d : Nat) (name : ByteArray) (z : Int) (W : World) (h : (name.size : Int) < 1 ∨ z < 16) :
    Calls Tryz.prog 10 #[.pointer (some ⟨d, 0, none⟩), .string name, .int .i64 z] W fun e W' => e = .returned (.tuple #[.pointer none, .int .i64 1]) ∧ W' = W := by
  by_cases h1 : (name.size : Int) < 1
  · clear h
    go_enter Tryz.func10, Tryz.ntmps10
    go_wp2_with fail
    go_ret2
    exact ⟨rfl, rfl⟩
  · have h2 : z < 16 := h.resolve_left h1
    clear h
    by_cases h3 : (32 : Int) < (name.size : Int)
    · go_enter Tryz.func10, Tryz.ntmps10
      go_wp2_with fail
      go_ret2
      exact ⟨rfl, rfl⟩
    · go_enter Tryz.func10, Tryz.ntmps10
      go_wp2_with fail
      go_ret2
      exact ⟨rfl, rfl⟩
set_option maxRecDepth 100000 in
/-- Append of a payload that is too long. -/
theorem wap_limit (l d : Nat) (L : LM) (sv pv : Value) (yo : Option Addr) (n c : Nat) (W : World) (h : LgAt W l d L sv pv) (hn : L.size < n + 12) (hz : 12 ≤ L.size) (hz2 : L.size ≤ 1000000) :
    Calls Tryz.prog 13 #[.pointer (some ⟨l, 0, none⟩), .slice yo n c] W fun e W' => e = .returned (.tuple #[.int .i64 0, .int .i64 2]) ∧ W' = W := by
  obtain ⟨c0, c1, c2, c3, c4, fz⟩ := h.cells
  have h1 : IntKind.i64.wrap ((L.size : Int) - 12) = (L.size : Int) - 12 := by rw [IntKind.wrap_i64]; omega
  have h2 : (L.size : Int) - 12 < (n : Int) := by omega
  clear h c0 c1 c3 c4 fz
  go_enter Tryz.func13, Tryz.ntmps13
  go_wp2_with fail
  go_ret2
  exact ⟨rfl, rfl⟩
set_option maxRecDepth 100000 in
/-- At of a place that is not there. -/
theorem wat_bad (l d : Nat) (L : LM) (sv pv : Value) (k : Nat) (W : World) (h : LgAt W l d L sv pv) (hk : L.pls.length ≤ k) :
    Calls Tryz.prog 20 #[.pointer (some ⟨l, 0, none⟩), .int .i64 (k : Nat)] W fun e W' => e = .returned (.tuple #[.slice none 0 0, .int .i64 1]) ∧ W' = W := by
  obtain ⟨c0, c1, c2, c3, c4, fz⟩ := h.cells
  obtain ⟨po, pc, e⟩ := own_formX h.po
  rw [e] at c4
  obtain ⟨PL, hPL⟩ : ∃ PL, PL = L.pls.length := ⟨_, rfl⟩
  rw [← hPL] at c4 hk
  have h1 : (PL : Int) ≤ (k : Int) := by omega
  have h2 : ¬ (k : Int) < 0 := by omega
  clear h c0 c1 c2 c3 fz e hPL
  go_enter Tryz.func20, Tryz.ntmps20
  go_wp2_with fail
  go_ret2
  exact ⟨rfl, rfl⟩
theorem wcrash_off (w : World) (d m : Nat) (keep : Int) (s : DM) (q : DW) (O : Nat → Prop) (Z j V : Nat) (I : List (List (List Nat))) (ps : List (List Nat)) (W : World) (h : DS w W d m s q O) (hS : LS s Z I ps j V) (hkp : keep ≤ 9223372036854775807) :
    Calls Tryz.prog 21 #[.pointer (some ⟨d, 0, none⟩), .int .i64 keep] W fun e W' => e = .returned (.tuple #[]) ∧ ∃ s' q', DkAt W' d m s' q' O ∧ Fr O W W' ∧ s'.off = true ∧ ∃ t, LT { s' with off := false } Z I (ps.take (j + wholes (ps.drop j) (min keep.toNat ((fby ps).length - (fby (ps.take j)).length)))) t V := by
  obtain ⟨pc, hf, hsm, hl⟩ := hS.fl
  have hn := hS.n
  have hz := hS.z
  have hus := hS.used
  have hsg : Segs I.length (LB I ⟨fby ps, (fby (ps.take j)).length, pc⟩) := ⟨fun i hi => by rw [LB_old _ _ hi], fun i hi => by rw [LB_old _ _ hi], by rw [LB_last]; exact hsm, by rw [LB_last]; simp only; omega⟩
  have hal := (hf.allp_sz hsg q).2
  rw [LB_last] at hal
  have hk : ∀ k, Maps.has s.D (.string k) = true → (s.F k).ps.length ≤ 70 ∧ (s.F k).safe + sumP (s.F k).ps = (s.F k).b.length ∧ (s.F k).b.length ≤ 600 := fun k hk => by
    obtain ⟨i, hi, rfl⟩ := hf.key hk
    rw [hf.F i hi]
    by_cases e : i = I.length
    · subst e
      rw [LB_last]
      have := hS.sg ps (by simp)
      exact ⟨by simp only; omega, hsm, by simp only; omega⟩
    · have hi2 : i < I.length := by omega
      rw [LB_old _ _ hi2]
      have := hS.sg (I.getD i []) (by
        rw [List.getD_eq_getElem?_getD, List.getElem?_eq_getElem hi2]
        exact List.mem_append_left _ (List.getElem_mem hi2))
      exact ⟨Nat.zero_le _, rfl, by show (fby (I.getD i [])).length ≤ 600; omega⟩
  refine (crash_any d m keep s q O W h.D (by rw [hal]; simp only; omega) (fun k h => by have := hk k h; omega) hkp (fun k h => by
    have h2 := hk k h
    refine ⟨by omega, fun p hp => ?_⟩
    have := sumP_mem _ p hp
    omega) (fun k h => by have := hk k h; omega) hf.ln (by omega)).mono ?_
  rintro e W' ⟨rfl, L, q', hL, _, hD, _, hfr⟩
  have hq : ∀ i, i < I.length → q.fb (nm (seg sLog i)) ≠ q.fb (nm (seg sLog I.length)) := fun i hi => (h.D.ap _ _ (hf.has (by omega)) (hf.has (by omega)) (fun e => by have := seg_inj (by omega) (by omega) e; omega)).1
  exact ⟨rfl, _, q', hD, hfr, rfl, hS.crash q L keep.toNat hL hq⟩
set_option maxHeartbeats 1000000 in
set_option maxRecDepth 100000 in
/-- At while the disk is off. -/
theorem wat_off (l d m : Nat) (L : LM) (s : DM) (q : DW) (O : Nat → Prop) (sv pv : Value) (k a b c : Nat) (W : World) (hD : DkAt W d m s q O) (hG : LgAt W l d L sv pv) (hk : L.pls[k]? = some (a, b, c)) (hnl : L.name.size ≤ 32) (ha : a < 100) (ho : s.off = true) :
    Calls Tryz.prog 20 #[.pointer (some ⟨l, 0, none⟩), .int .i64 (k : Nat)] W fun e W' => e = .returned (.tuple #[.slice none 0 0, .int .i64 6]) ∧ Fr (fun _ => False) W W' := by
  obtain ⟨g, pc, rfl, hkl, e0, e1, e2⟩ := hG.pay hk
  obtain ⟨c0, c1, c2, c3, c4, fz⟩ := hG.cells
  have hsz := seg_size L.name a ha
  have HFi : Hid (∀ W', Fr (fun _ => False) W W' → Calls Tryz.prog 43 #[.pointer (some ⟨l, 0, none⟩), .int .i64 (a : Nat)] W' fun e W2 => e = .returned (.string (seg L.name a)) ∧ Fr (fun _ => False) W' W2) := fun W' hf =>
    file_any l a L.name W' ha (hG.fr hf (fun e => e) (fun _ _ e => e) (fun _ _ e => e)).cells.2.1 (by omega)
  have HRd : Hid (∀ W', Fr (fun _ => False) W W' → Calls Tryz.prog 16 #[.pointer (some ⟨d, 0, none⟩), .string (seg L.name a), .int .i64 (b : Nat), .int .i64 (c : Nat)] W' fun e W2 => e = .returned (.tuple #[.slice none 0 0, .int .i64 6]) ∧ Fr (fun _ => False) W W2 ∧ Fr (fun _ => False) W' W2) := fun W' hf => by
    refine (read_no d m s q O (seg L.name a) 6 b c W' (hD.fr hf (fun _ _ h => h)) (by simp only [maxLen]; omega) (.inl ⟨ho, rfl⟩)).mono ?_
    rintro e W2 ⟨rfl, rfl⟩
    exact ⟨rfl, hf, Fr.refl _ _⟩
  have HK : Hid (∀ W', Fr (fun _ => False) W W' → W'.cell? ⟨l, 0, none⟩ = some (.pointer (some ⟨d, 0, none⟩))) := fun W' hf => (hG.fr hf (fun e => e) (fun _ _ e => e) (fun _ _ e => e)).cells.1
  obtain ⟨SN, hSN⟩ : ∃ SN, SN = seg L.name a := ⟨_, rfl⟩
  rw [← hSN] at HFi HRd
  obtain ⟨PL, hPL⟩ : ∃ PL, PL = L.pls.length := ⟨_, rfl⟩
  rw [← hPL] at c4 hkl
  clear hD hG hk hSN hPL hnl ho hsz c1 c2 c3 fz
  have hkl' : (k : Int) < (PL : Int) := by omega
  have hkl2 : ¬ ((PL : Int) ≤ (k : Int)) := by omega
  go_enter Tryz.func20, Tryz.ntmps20
  go_wp2_with fail
  obtain ⟨W1, hW1⟩ : ∃ W1, W1 = W.alloc (.cells #[.int .i64 (a : Nat), .int .i64 (b : Nat), .int .i64 (c : Nat)] 93) := ⟨_, rfl⟩
  have hf1 : Fr (fun _ => False) W W1 := by rw [hW1]; exact box1 W _
  have HBx : Hid (∀ W', Fr (fun _ => False) W1 W' → W'.cell? ⟨l, 0, none⟩ = some (.pointer (some ⟨d, 0, none⟩)) ∧ W'.cell? ⟨W.heap.size, 0, none⟩ = some (.int .i64 (a : Nat)) ∧ W'.cell? ⟨W.heap.size, 1, none⟩ = some (.int .i64 (b : Nat)) ∧ W'.cell? ⟨W.heap.size, 2, none⟩ = some (.int .i64 (c : Nat))) := fun W' hf => by
    have hb : W'.heap[W.heap.size]? = some (.cells #[.int .i64 (a : Nat), .int .i64 (b : Nat), .int .i64 (c : Nat)] 93) := by
      have h0 : W1.heap[W.heap.size]? = some (.cells #[.int .i64 (a : Nat), .int .i64 (b : Nat), .int .i64 (c : Nat)] 93) := by rw [hW1]; exact heap_alloc_new W _
      rw [hf.block _ (lt_of_block h0) (fun h => h)]
      exact h0
    refine ⟨(unhide HK) _ (hf1.trans hf (fun _ _ h => h)), ?_, ?_, ?_⟩ <;> simp [World.cell?, hb]
  have HF1 := hide hf1
  rw [← hW1]
  clear hW1 hf1 c0 c4 e0 e1 e2
  go_region_held3 (fun w' => w'.cell? ⟨l, 0, none⟩ = some (.pointer (some ⟨d, 0, none⟩)) ∧ w'.cell? ⟨W.heap.size, 0, none⟩ = some (.int .i64 (a : Nat)) ∧ w'.cell? ⟨W.heap.size, 1, none⟩ = some (.int .i64 (b : Nat)) ∧ w'.cell? ⟨W.heap.size, 2, none⟩ = some (.int .i64 (c : Nat)))
    (first | exact (unhide HBx) _ (Fr.refl _ _).drew | exact (unhide HBx) _ hf2 | exact (unhide HBx) _ hf3)
    (first
      | (go_at_call 43; refine ((unhide HFi) _ (unhide HF1).drew).mono ?_; rintro e w2 ⟨rfl, hf2'⟩; clear HFi; have hf2 : Fr (fun _ => False) W1 w2 := (Fr.refl _ _).drew.trans hf2' (fun _ _ h => h))
      | (go_at_call 16; refine ((unhide HRd) _ ((unhide HF1).trans hf2 (fun _ _ h => h))).mono ?_; rintro e w3 ⟨rfl, hfW, hf3'⟩; clear HRd; have hf3 : Fr (fun _ => False) W1 w3 := hf2.trans hf3' (fun _ _ h => h); have H3 := hide hfW; clear hfW))
  all_goals
    go_wp2_with fail
    go_ret2
    exact ⟨rfl, unhide H3⟩
/-- What a scan finds where a segment that is not the last is cut. -/
theorem scn_cut (name : ByteArray) (Z most : Nat) (B : Nat → List Nat) (N : Nat) (ps : List (List Nat)) (t : List Nat) (hps : ∀ p ∈ ps, p.length ≤ most ∧ p.length < 4294967296) (ht : Tail most t) (h0 : t ≠ []) : ∀ (R A : List (List (List Nat))) (f : Nat), A.length + R.length + 1 < N → R.length + 1 ≤ f → (∀ i, i < R.length → B (A.length + i) = fby (R.getD i [])) → B (A.length + R.length) = fby ps ++ t → (∀ qs ∈ R, ∀ p ∈ qs, p.length ≤ most ∧ p.length < 4294967296) → (scn B N most f (LM.of name Z A)).2 = false
  | [], A, f, hN, hf, _, hB, _ => by
    obtain ⟨g, rfl⟩ : ∃ g, f = g + 1 := ⟨f - 1, by simp only [List.length_nil] at hf; omega⟩
    have hl : (LM.of name Z A).segs.length = A.length := by simp [LM.of]
    simp only [List.length_nil, Nat.add_zero] at hN hB
    rw [scn_go B N most g _ (by rw [hl]; omega), hl, hB, frm_seg most _ ps t hps ht, hl, if_neg h0]
    unfold fin
    simp only [show ¬ (1 : Nat) = 0 by decide, show ¬ (1 : Nat) = 2 by decide, if_false]
    apply decide_eq_false
    rw [List.length_append, hl, List.length_singleton]
    omega
  | qs :: R, A, f, hN, hf, hB, hBl, hR => by
    obtain ⟨g, rfl⟩ : ∃ g, f = g + 1 := ⟨f - 1, by simp only [List.length_cons] at hf; omega⟩
    have hl : (LM.of name Z A).segs.length = A.length := by simp [LM.of]
    simp only [List.length_cons] at hN hf hBl
    have eB : B A.length = fby qs ++ [] := by
      have := hB 0 (by simp)
      simpa using this
    rw [scn_go B N most g _ (by rw [hl]; omega), hl, eB, frm_seg most _ qs [] (hR qs (List.mem_cons_self ..)) (.inl rfl), hl]
    have eo : (⟨(LM.of name Z A).name, (LM.of name Z A).size, (LM.of name Z A).segs ++ [(fby qs).length], (LM.of name Z A).pls ++ plo A.length 0 qs⟩ : LM) = LM.of name Z (A ++ [qs]) := by
      simp [LM.of, plc_app, plc]
    rw [eo]
    unfold fin
    rw [if_pos rfl, if_pos rfl]
    exact scn_cut name Z most B N ps t hps ht h0 R (A ++ [qs]) g (by simp; omega) (by omega) (fun i hi => by
      have := hB (i + 1) (by simp only [List.length_cons]; omega)
      rw [List.length_append, List.length_singleton, show A.length + 1 + i = A.length + (i + 1) by omega, this]
      simp) (by rw [List.length_append, List.length_singleton, show A.length + 1 + R.length = A.length + (R.length + 1) by omega]; exact hBl) (fun q hq => hR q (List.mem_cons_of_mem _ hq))
/-- A segment that is not the last, of one payload, cut. -/
theorem LS.cutBrk {s : DM} {Z : Nat} {I : List (List (List Nat))} {ps : List (List Nat)} {j V : Nat} (h : LS s Z I ps j V) {M n : Nat} {p : List Nat} (hM : M < I.length) (hp : (I ++ [ps]).getD M [] = [p]) (hn0 : 0 < n) (hn : n < p.length + 12) : Brk (s.short (nm (seg sLog M)) n) Z (I.length + 1) := by
  have hu := h.used.1
  have hnn := h.n
  have hlen : (I ++ [ps]).length = I.length + 1 := by simp
  have hb := h.bytes (i := M) (by omega)
  rw [hp] at hb
  have hbl : (s.F (nm (seg sLog M))).b.length = p.length + 12 := by rw [hb, fby_cons, fby_nil, List.append_nil, frame_len]
  obtain ⟨pc, hf, _, _⟩ := h.fl
  have hpay : ∀ qs ∈ I ++ [ps], ∀ p ∈ qs, p.length ≤ Z - 12 ∧ p.length < 4294967296 := fun qs hq p hp => by
    have := h.pay qs hq p hp
    have := h.z
    omega
  have hpp : p.length ≤ Z - 12 ∧ p.length < 4294967296 := hpay _ (h.mem (i := M) (by omega)) p (by rw [hp]; simp)
  refine ⟨h.good.off, ⟨_, hf.short (M := M) (by omega) (by omega) n (by rw [← hf.F M (by omega)]; omega)⟩, by omega, by show s.used - _ ≤ _; omega, h.z, ?_⟩
  have hBi : ∀ i, i < I.length + 1 → i ≠ M → ((s.short (nm (seg sLog M)) n).F (nm (seg sLog i))).b = fby ((I ++ [ps]).getD i []) := fun i hi hne => by
    show (if nm (seg sLog i) = nm (seg sLog M) then _ else _ : FM).b = _
    rw [if_neg (fun e => hne (seg_inj (by omega) (by omega) e))]
    exact h.bytes hi
  have hBM : ((s.short (nm (seg sLog M)) n).F (nm (seg sLog M))).b = fby [] ++ (frame p).take n := by
    show (if nm (seg sLog M) = nm (seg sLog M) then (s.F (nm (seg sLog M))).cut n else _ : FM).b = _
    rw [if_pos rfl]
    show (s.F (nm (seg sLog M))).b.take n = _
    rw [hb, fby_cons, fby_nil, List.append_nil, List.nil_append]
  have htl : ((I ++ [ps]).take M).length = M := by rw [List.length_take]; omega
  have hne : (frame p).take n ≠ [] := fun e => by
    have := congrArg List.length e
    rw [List.length_take, frame_len] at this
    simp only [List.length_nil] at this
    omega
  exact scn_cut sLog Z (Z - 12) (fun i => ((s.short (nm (seg sLog M)) n).F (nm (seg sLog i))).b) (I.length + 1) [] ((frame p).take n) (fun p hp => by cases hp) (.inr ⟨p, n, hpp.1, hpp.2, hn0, by rw [frame_len]; omega, rfl⟩) hne ((I ++ [ps]).take M) [] (I.length + 1) (by rw [htl]; simp; omega) (by rw [htl]; omega) (fun i hi => by
    rw [htl] at hi
    simp only [List.length_nil, Nat.zero_add]
    rw [hBi i (by omega) (by omega), getD_take _ _ _ _ hi]) (by
    rw [htl]
    simp only [List.length_nil, Nat.zero_add]
    exact hBM) (fun qs hq => hpay qs (List.mem_of_mem_take hq))
end Go.Proofs.YtmmaddlphclpnaaGreatDoor

namespace Go.Proofs.YtmmaddlphclpnaaGreatDoor
open Go.RowKit Go.ChangeShapes Go.WideShapes Go.Maps Go.Sort

theorem cell_ltJ {w : World} {a : Addr} {v : Value} (h : w.cell? a = some v) : a.block < w.heap.size := by
  rcases Nat.lt_or_ge a.block w.heap.size with hx | hx
  · exact hx
  · simp [World.cell?, Array.getElem?_eq_none hx] at h
theorem cell_fr0J {w W : World} {g o : Nat} {v : Value} (h : w.cell? ⟨g, o, none⟩ = some v) (hf : Fr (fun _ => False) w W) : W.cell? ⟨g, o, none⟩ = some v := by
  have hb := hf.block g (cell_ltJ h) (fun h => h)
  rw [← h]
  simp only [World.cell?, hb]
set_option maxHeartbeats 1000000 in
set_option maxRecDepth 100000 in
/-- sizes: true. -/
theorem sizes_any (l d : Nat) (L : LM) (sv pv : Value) (ss : List Nat) (x g n c : Nat) (W : World) (h : LgAt W l d L sv pv) (hs : L.segs = ss ++ [x]) (hl : ss.length < 100) (hn : ss.length + 1 = n) (hy : ∀ i, i < n → W.cell? ⟨g, i, none⟩ = some (.int .i64 (((ss ++ [x]).getD i 0 : Nat) : Int))) :
    Calls Tryz.prog 15 #[.pointer (some ⟨l, 0, none⟩), .slice (some ⟨g, 0, none⟩) n c] W fun e W' => e = .returned (.bool true) ∧ Fr (fun _ => False) W W' := by
  have hsa := segments_any l d L sv pv ss x W h hs hl
  rw [hn] at hsa
  have hlen : (ss ++ [x]).length = n := by simp [hn]
  obtain ⟨K, hK⟩ : ∃ K, K = ss ++ [x] := ⟨_, rfl⟩
  rw [← hK] at hsa hy hlen
  have HS := hide hsa
  have HY := hide hy
  have hn0 : 0 < n := by omega
  have HL := hide (And.intro hlen hn0)
  have hne : ((n : Int) != (n : Int)) = false := by simp
  have hnb : n ≤ 200 := by omega
  clear hsa hy h hs hK hlen hn hn0 hl
  go_enter Tryz.func15, Tryz.ntmps15
  go_wp2_with fail
  refine (unhide HS).mono ?_
  rintro e w1 ⟨v, rfl, hv, hf⟩
  obtain ⟨vg, vc, rfl, _, _⟩ := hv.form (unhide HL).2
  have HV : Hid (∀ i, i < n → w1.cell? ⟨vg, i, none⟩ = some (.int .i64 ((K.getD i 0 : Nat) : Int)) ∧ w1.cell? ⟨g, i, none⟩ = some (.int .i64 ((K.getD i 0 : Nat) : Int))) := fun i hi => by
    refine ⟨?_, cell_fr0J ((unhide HY) i hi) hf⟩
    have := hv.cellAt i (by omega)
    rw [this]
    simp only [icells]
    rw [List.getElem?_map, List.getElem?_eq_getElem (by rw [(unhide HL).1]; exact hi), List.getD_eq_getElem?_getD, List.getElem?_eq_getElem (by rw [(unhide HL).1]; exact hi)]
    rfl
  have HF := hide hf
  clear hv hf HS HY
  go_wp2_with fail
  go_loopw [6] (fun i wr => ∃ k q : Nat, k ≤ n ∧ i = .int .i64 k ∧ wr = w1.drewN q) (fun i _ => n - (intOf i).toNat)
  case atStart => exact ⟨0, 0, Nat.zero_le _, rfl, rfl⟩
  case round =>
    obtain ⟨k, q, hk, rfl, rfl⟩ := hrel
    by_cases hlt : k < n
    · obtain ⟨c1, c2⟩ := (unhide HV) k hlt
      have hi1 : (k : Int) < (n : Int) := by omega
      generalize ((K.getD k 0 : Nat) : Int) = Z at c1 c2
      have hq : (Z != Z) = false := by simp
      go_wp2_with fail
      go_quiet (fail)
      go_wp2_with fail
      go_roundw
      case rel => exact ⟨k + 1, q + _, by omega, by go_num, rfl⟩
      case measure => simp [intOf]; omega
    · go_wp2_with fail
      go_ret
      exact ⟨rfl, (unhide HF).drewN _⟩
end Go.Proofs.YtmmaddlphclpnaaGreatDoor

namespace Go.Proofs.YtmmaddlphclpnaaGreatDoor
open Go.RowKit

theorem be_length (n v : Nat) : (be n v).length = n := by simp [be]
theorem make_bytes (n : Nat) (w : World) (hn : n ≤ 8) : ∃ w', (Instr.makeSlice 35 (.int .i64 (n : Int)) (.int .i64 (n : Int))).run Tryz.prog w = .ok (.slice (some ⟨w.heap.size, 0, none⟩) n n) w' ∧
    (∀ j, j < n → w'.cell? ⟨w.heap.size, j, none⟩ = some (.int .u8 0)) ∧ (∀ j, j < n → w'.frozen? ⟨w.heap.size, j, none⟩ = false) ∧ Fr (fun _ => False) w w' ∧ ∃ xs, w'.ownsRow w.heap.size 5 1 (.slice (some ⟨w.heap.size, 0, none⟩) n n) n xs := by
  have hz' : (Tryz.prog.info? 5).bind (·.zero) = some (.int .u8 0) := by kernel_rfl
  have hs' : (Tryz.prog.info? 5).map (·.size) = some 1 := by kernel_rfl
  have hb' : (Tryz.prog.info? 5).map (·.bytes) = some 1 := by kernel_rfl
  obtain ⟨i, hi, hz⟩ := Option.bind_eq_some_iff.1 hz'
  rw [hi] at hs' hb'
  have hs : i.size = 1 := by simpa using hs'
  have hb : i.bytes = 1 := by simpa using hb'
  obtain ⟨w', hr, ho, hg⟩ := run_makeSlice_full (P := Tryz.prog) w w.heap.size 35 5 i (.int .u8 0) 1 Tryz.underlying35 hi hz hs .i64 .i64 n (by omega) (by rw [hb]; omega) (by simp only [maxLen]; omega) (Nat.le_refl _)
  refine ⟨w', hr, fun j hj => ?_, fun j hj => ?_, (Fr.refl _ _).grown hg (fun _ h => by cases h), _, ho⟩
  · have h := ho.cells (g := w.heap.size) rfl j (.int .u8 0) (by simp [madeCells, hj, Value.cells, Nat.mod_one])
    have e : (⟨w.heap.size, 0, none⟩ : Addr).add j = ⟨w.heap.size, 0 + j, none⟩ := by unfold Addr.add; split <;> simp_all
    rw [e, Nat.zero_add] at h
    exact h
  · exact ho.frozenAt j

def NumI (w wr : World) (n v k : Nat) : Prop :=
  (∀ j, j < n → wr.cell? ⟨w.heap.size, j, none⟩ = some (if n - 1 - j < k then B (v / 256 ^ (n - 1 - j)) else .int .u8 0)) ∧ (∀ j, j < n → wr.frozen? ⟨w.heap.size, j, none⟩ = false) ∧ Fr (fun _ => False) w wr ∧ ∃ xs, wr.ownsRow w.heap.size 5 1 (.slice (some ⟨w.heap.size, 0, none⟩) n n) n xs
theorem NumI.step {w wr : World} {m v k : Nat} (h : NumI w wr (m + 1 + k) v k) : NumI w (wr.setCell ⟨w.heap.size, m, none⟩ (B (v / 256 ^ k))) (m + 1 + k) v (k + 1) := by
  obtain ⟨hc, hz, hf, xs, ho⟩ := h
  refine ⟨fun j hj => ?_, fun j hj => by rw [World.frozen?_setCell]; exact hz j hj, Fr.setCell hf (.inr (Nat.le_refl _)) _, _, (ho.stored m _).1⟩
  by_cases e : j = m
  · subst e
    rw [World.cell?_setCell_same _ _ _ (hc j hj), if_pos (by omega), show j + 1 + k - 1 - j = k from by omega]
  · rw [World.cell?_setCell_other _ _ _ _ (by intro h; injection h with _ h2 _; exact e h2.symm), hc j hj]
    by_cases h1 : m + 1 + k - 1 - j < k
    · rw [if_pos h1, if_pos (by omega)]
    · rw [if_neg h1, if_neg (by omega)]
theorem NumI.own {w wr : World} {n v : Nat} (h : NumI w wr n v n) : wr.ownsRow w.heap.size 5 1 (.slice (some ⟨w.heap.size, 0, none⟩) n n) n (cellsOf (be n v)) := by
  obtain ⟨hc, _, _, xs, ho⟩ := h
  have hl : xs.length = n := by simpa using ho.1
  have e : xs = cellsOf (be n v) := by
    apply List.ext_getElem (by rw [hl, cellsOf_length, be_length])
    intro j h1 h2
    have hlt : j < n := by omega
    have a := ho.cells (g := w.heap.size) rfl j xs[j] (List.getElem?_eq_getElem h1)
    have e : (⟨w.heap.size, 0, none⟩ : Addr).add j = ⟨w.heap.size, 0 + j, none⟩ := by unfold Addr.add; split <;> simp_all
    rw [e, Nat.zero_add, hc j hlt, if_pos (by omega)] at a
    rw [← Option.some.inj a]
    simp [cellsOf, be]
  rw [← e]
  exact ho

set_option maxRecDepth 100000 in
theorem gnumber_any (v n : Nat) (w : World) (hn : n ≤ 8) (hv : v < 18446744073709551616) : Calls Tryz.prog 53 #[.int .u64 v, .int .i64 n] w fun e w' => e = .returned (.slice (some ⟨w.heap.size, 0, none⟩) n n) ∧ w'.ownsRow w.heap.size 5 1 (.slice (some ⟨w.heap.size, 0, none⟩) n n) n (cellsOf (be n v)) ∧ Fr (fun _ => False) w w' := by
  obtain ⟨w1, hmk, hc, hz, hf, ho⟩ := make_bytes n w hn
  have H := hide (And.intro hc (And.intro hz (And.intro hf ho)))
  clear hc hz hf ho
  have hwr : IntKind.i64.wrap ((n : Int) - 1) = (n : Int) - 1 := by rw [IntKind.wrap_i64]; omega
  go_enter Tryz.func53, Tryz.ntmps53
  go_wp2_with fail
  go_loopw [0, 6] (fun x i wr => ∃ k : Nat, k ≤ n ∧ i = .int .i64 ((n : Int) - 1 - k) ∧ x = .int .u64 ((v / 256 ^ k : Nat)) ∧ NumI w wr n v k) (fun _ i _ => (intOf i + 1).toNat)
  case atStart => exact ⟨0, Nat.zero_le _, by simp, by simp, fun j hj => by rw [if_neg (by omega)]; exact (unhide H).1 j hj, (unhide H).2.1, (unhide H).2.2.1, (unhide H).2.2.2⟩
  case round =>
    obtain ⟨k, hk, rfl, rfl, hI⟩ := hrel
    rename World => wr
    by_cases hlt : k < n
    · obtain ⟨m, rfl⟩ : ∃ m, n = m + 1 + k := ⟨n - 1 - k, by omega⟩
      have hcell : wr.cell? ⟨w.heap.size, m, none⟩ = some (.int .u8 0) := by rw [hI.1 m (by omega), if_neg (by omega)]
      have hfr := hI.2.1 m (by omega)
      have hy : v / 256 ^ k < 18446744073709551616 := Nat.lt_of_le_of_lt (Nat.div_le_self _ _) hv
      have hst := hI.step
      have hnx : v / 256 ^ (k + 1) = v / 256 ^ k / 256 := by rw [Nat.pow_succ, Nat.div_div_eq_div_mul]
      have HS := hide (And.intro hst hnx)
      clear hst hnx hI
      have hix : ((m + 1 + k : Nat) : Int) - 1 - k = (m : Int) := by omega
      rw [hix]
      generalize hyy : v / 256 ^ k = y at *
      go_wp2
      refine ⟨⟨k + 1, by omega, congrArg (Value.int .i64) (by omega), congrArg (Value.int .u64) (by rw [(unhide HS).2]; omega), ?_⟩, by simp [intOf]⟩
      have h := (unhide HS).1
      rw [show B y = Value.int .u8 ((y : Int) % 256) from by simp [B]] at h
      exact h
    · have hkn : k = n := by omega
      subst hkn
      go_wp2
      go_ret
      exact ⟨rfl, hI.own, hI.2.2.1⟩
/-- The ref's frame. -/
def gfr (p : List Nat) : List Nat := be 4 p.length ++ be 4 (4294967295 - p.length) ++ be 4 (Sm (Sm 0 (be 4 p.length ++ be 4 (4294967295 - p.length))) p) ++ p
theorem own_src0 {w : World} {base n : Nat} {v : Value} {l : List Nat} (h : w.ownsRow base 5 1 v n (cellsOf l)) (hn : n = l.length) : Src w v l := by
  subst hn
  exact own_src h
set_option maxHeartbeats 2000000 in
set_option maxRecDepth 100000 in
theorem gframe_any (y : Value) (p : List Nat) (w : World) (hy : Src w y p) (hp : p.length ≤ 1000) :
    Calls Tryz.prog 18 #[y] w fun e w' => ∃ v, e = .returned v ∧ w'.ownsRow w.heap.size 5 1 v (gfr p).length (cellsOf (gfr p)) ∧ Fr (fun _ => False) w w' := by
  obtain ⟨yo, yc, rfl⟩ := hy.form
  have HY := hide hy
  obtain ⟨PL, hPL⟩ : ∃ PL, PL = p.length := ⟨_, rfl⟩
  have HP := hide (And.intro hPL hp)
  have hwr : IntKind.u64.wrap (PL : Int) = (PL : Int) := by rw [IntKind.wrap_u64]; omega
  have hwr2 : IntKind.u64.wrap (4294967295 - (PL : Int)) = ((4294967295 - PL : Nat) : Int) := by rw [IntKind.wrap_u64]; omega
  rw [← hPL]
  obtain ⟨Q, hQ⟩ : ∃ Q, Q = 4294967295 - PL := ⟨_, rfl⟩
  rw [← hQ] at hwr2
  have HQ := hide hQ
  clear hy hPL hp hQ
  go_enter Tryz.func18, Tryz.ntmps18
  go_wp2_with fail
  refine (gnumber_any PL 4 w (by decide) (by have := (unhide HP).1; have := (unhide HP).2; omega)).mono ?_
  rintro e w1 ⟨rfl, hown1, hf1⟩
  have H1 := hide (And.intro hown1 hf1)
  clear hown1 hf1
  go_wp2_with fail
  refine (gnumber_any Q 4 w1 (by decide) (by have := unhide HQ; omega)).mono ?_
  rintro e w2 ⟨rfl, hown2, hf2⟩
  have hb2 : w2.ownsRow w.heap.size 5 1 (.slice (some ⟨w.heap.size, 0, none⟩) 4 4) 4 (cellsOf (be 4 PL)) := ownsRow_of_block (unhide H1).1 (fun g hg => hf2.block g ((unhide H1).1.lt g hg).2 (fun h => h))
  have hF2 := (unhide H1).2.trans hf2 (fun _ _ h => h)
  obtain ⟨ao3, c3, w3, hr3, hown3, hg3, _⟩ := run_app_sl w2 35 w.heap.size 4 _ _ (cellsOf (be 4 PL)) (be 4 Q) hb2 (own_src0 hown2 (by simp [be])) (by simp [be]) hF2.size
  have hF3 : Fr (fun _ => False) w w3 := hF2.absorb ((Fr.refl _ _).grown hg3 (fun k hk => .inl hk) : Fr (fun k => (Value.slice (some ⟨w.heap.size, 0, none⟩) 4 4).ownBlock = some k) w2 w3) (fun k hk => (hb2.lt k hk).1)
  have l4 : (be 4 Q).length = 4 := by simp [be]
  rw [← cellsOf_append, l4] at hown3
  rw [l4] at hr3
  have HR3 := hide hr3
  have H3 := hide (And.intro hown3 hF3)
  clear hown2 hf2 hb2 hF2 hr3 hown3 hg3 hF3 H1 l4
  go_wp2_with (at_builtin; refine wpList_app rfl _ _ 35 35 rfl _ _ _ rfl rfl (unhide HR3) ?_; clear HR3)
  refine (gup_any 0 _ (be 4 PL ++ be 4 Q) w3 (by decide) (own_src0 (unhide H3).1 (by simp [be])) (by simp [be])).mono ?_
  rintro e w4 ⟨rfl, rfl⟩
  go_wp2_with fail
  refine (gup_any (Sm 0 (be 4 PL ++ be 4 Q)) _ p _ (Sm_lt _ _ (by decide)) (by rw [(unhide HP).1]; exact (unhide HY).fr0 (unhide H3).2) (by have := (unhide HP).2; omega)).mono ?_
  rintro e w5 ⟨rfl, rfl⟩
  obtain ⟨S, hS⟩ : ∃ S, S = Sm (Sm 0 (be 4 PL ++ be 4 Q)) p := ⟨_, rfl⟩
  have hSl : S < 4294967296 := by rw [hS]; exact Sm_lt _ _ (Sm_lt _ _ (by decide))
  rw [← hS]
  have hwS : IntKind.u64.wrap (S : Int) = (S : Int) := by rw [IntKind.wrap_u64]; omega
  have HS := hide (And.intro hS hSl)
  clear hS hSl
  go_wp2_with fail
  refine (gnumber_any S 4 _ (by decide) (by have := (unhide HS).2; omega)).mono ?_
  rintro e w6 ⟨rfl, hown6, hf6⟩
  have hb6 : w6.ownsRow w.heap.size 5 1 (.slice ao3 (4 + 4) c3) (4 + 4) (cellsOf (be 4 PL ++ be 4 Q)) := ownsRow_of_block (unhide H3).1 (fun g hg => hf6.block g ((unhide H3).1.lt g hg).2 (fun h => h))
  have hF6 := (unhide H3).2.trans hf6 (fun _ _ h => h)
  obtain ⟨ao7, c7, w7, hr7, hown7, hg7, _⟩ := run_app_sl w6 35 w.heap.size (4 + 4) _ _ (cellsOf (be 4 PL ++ be 4 Q)) (be 4 S) hb6 (own_src0 hown6 (by simp [be])) (by simp [be]) hF6.size
  have hF7 : Fr (fun _ => False) w w7 := hF6.absorb ((Fr.refl _ _).grown hg7 (fun k hk => .inl hk) : Fr (fun k => (Value.slice ao3 (4 + 4) c3).ownBlock = some k) w6 w7) (fun k hk => (hb6.lt k hk).1)
  have l4 : (be 4 S).length = 4 := by simp [be]
  rw [← cellsOf_append, l4] at hown7
  rw [l4] at hr7
  obtain ⟨ao8, c8, w8, hr8, hown8, hg8, _⟩ := run_app_sl w7 35 w.heap.size (4 + 4 + 4) _ (.slice yo PL yc) (cellsOf (be 4 PL ++ be 4 Q ++ be 4 S)) p hown7 (by rw [(unhide HP).1]; exact (unhide HY).fr0 hF7) (by have := (unhide HP).2; omega) hF7.size
  have hF8 : Fr (fun _ => False) w w8 := hF7.absorb ((Fr.refl _ _).grown hg8 (fun k hk => .inl hk) : Fr (fun k => (Value.slice ao7 (4 + 4 + 4) c7).ownBlock = some k) w7 w8) (fun k hk => (hown7.lt k hk).1)
  rw [← cellsOf_append] at hown8
  have H8 : Hid (w8.ownsRow w.heap.size 5 1 (.slice ao8 (4 + 4 + 4 + PL) c8) (gfr p).length (cellsOf (gfr p)) ∧ Fr (fun _ => False) w w8) := by
    have e : be 4 PL ++ be 4 Q ++ be 4 S ++ p = gfr p := by rw [gfr, ← (unhide HP).1, ← unhide HQ, ← (unhide HS).1]
    have el : 4 + 4 + 4 + p.length = (gfr p).length := by rw [← e]; simp [be]; omega
    rw [e] at hown8
    refine hide ⟨?_, hF8⟩
    rw [(unhide HP).1]
    rw [← el]
    exact hown8
  rw [← (unhide HP).1] at hr8
  have HR7 := hide hr7
  have HR8 := hide hr8
  clear hown6 hf6 hb6 hF6 hr7 hown7 hg7 hF7 hr8 hown8 hg8 hF8 H3 l4
  go_wp2_with (first
    | (at_builtin; refine wpList_app rfl _ _ 35 35 rfl _ _ _ rfl rfl (unhide HR7) ?_; clear HR7)
    | (at_builtin; refine wpList_app rfl _ _ 35 35 rfl _ _ _ rfl rfl (unhide HR8) ?_; clear HR8))
  go_ret
  exact ⟨_, rfl, (unhide H8).1, (unhide H8).2⟩
/-- The head that was read. -/
structure Hd (W : World) (g c : Nat) : Prop where
  src : Src W (.slice (some ⟨g, 0, none⟩) 12 c) ((frame [1, 2, 3]).take 12)
  cells : W.cell? ⟨g, 3, none⟩ = some (.int .u8 3) ∧ W.cell? ⟨g, 7, none⟩ = some (.int .u8 252) ∧ W.cell? ⟨g, 4, none⟩ = some (.int .u8 255)
theorem head_len : 12 = ((frame [1, 2, 3]).take 12).length := by rw [List.length_take, frame_len]; rfl
theorem head_of {W : World} {base g c : Nat} (h : W.ownsRow base 5 1 (.slice (some ⟨g, 0, none⟩) 12 c) 12 (cellsOf ((frame [1, 2, 3]).take 12))) : Hd W g c :=
  ⟨own_src0 h head_len, (h.cellAt 3 (by decide)).trans (by kernel_rfl), (h.cellAt 7 (by decide)).trans (by kernel_rfl), (h.cellAt 4 (by decide)).trans (by kernel_rfl)⟩
theorem Hd.fr {W W' : World} {g c : Nat} (h : Hd W g c) (hf : Fr (fun _ => False) W W') : Hd W' g c :=
  ⟨h.src.fr0 hf, cell_fr0J h.cells.1 hf, cell_fr0J h.cells.2.1 hf, cell_fr0J h.cells.2.2 hf⟩
theorem gfr_len : (gfr [1, 2, 3]).length = 15 := by simp [gfr, be]
theorem gfr_cap {W : World} {base c : Nat} {vo : Option Addr} (h : W.ownsRow base 5 1 (.slice vo (gfr [1, 2, 3]).length c) (gfr [1, 2, 3]).length (cellsOf (gfr [1, 2, 3]))) : (12 : Int) ≤ (c : Int) := by
  have := gfr_len
  rcases h.2 with ⟨e, e0⟩ | ⟨g, c2, cur, e, _, _, hc, _⟩
  · omega
  · simp only [Value.slice.injEq] at e
    omega
theorem gfr_src {W : World} {base c : Nat} {vo : Option Addr} (h : W.ownsRow base 5 1 (.slice vo (gfr [1, 2, 3]).length c) (gfr [1, 2, 3]).length (cellsOf (gfr [1, 2, 3]))) : Src W (.slice vo 12 c) ((gfr [1, 2, 3]).take 12) := (own_src h).takeN 12 (by rw [gfr_len]; decide)
theorem gfr_same : sameB ((frame [1, 2, 3]).take 12) ((gfr [1, 2, 3]).take 12) = true := by decide +kernel
theorem frame_123 : ((frame [1, 2, 3]).take 12).getD 3 0 % 256 = 3 ∧ ((frame [1, 2, 3]).take 12).getD 7 0 % 256 = 252 ∧ ((frame [1, 2, 3]).take 12).getD 4 0 % 256 = 255 := by decide +kernel
end Go.Proofs.YtmmaddlphclpnaaGreatDoor

namespace Go.Proofs.YtmmaddlphclpnaaGreatDoor
open Go.RowKit Go.ChangeShapes Go.WideShapes Go.Maps Go.Sort

/-- WalKnown's log: its segments' payloads. -/
structure KN (w W : World) (l d m : Nat) (I : List (List (List Nat))) (ps : List (List Nat)) (j V : Nat) : Prop where
  ex : ∃ s q O sv pv, WL w W l d m (LM.of sLog 40 (I ++ [ps])) s q O sv pv ∧ LS s 40 I ps j V
theorem KN.quiet {w W W' : World} {l d m : Nat} {I : List (List (List Nat))} {ps : List (List Nat)} {j V : Nat} (h : KN w W l d m I ps j V) (hf : Fr (fun _ => False) W W') : KN w W' l d m I ps j V := by
  obtain ⟨s, q, O, sv, pv, h1, h2⟩ := h.ex
  exact ⟨s, q, O, sv, pv, h1.quiet hf, h2⟩
theorem KN.fr {w W : World} {l d m : Nat} {I : List (List (List Nat))} {ps : List (List Nat)} {j V : Nat} (h : KN w W l d m I ps j V) : Fr (fun _ => False) w W := by
  obtain ⟨s, q, O, sv, pv, h1, h2⟩ := h.ex
  exact h1.fr
theorem KN.start {w wr : World} {l d m fb : Nat} {q : DW} {O : Nat → Prop} {sv : Value} (h : WL w wr l d m ⟨sLog, 40, [0], []⟩ ((DM.new 4096).made (nm (seg sLog 0)) fb) q O sv (.slice none 0 0)) : KN w wr l d m [] [] 0 0 := by
  have hF : Fls (DM.new 4096) sLog 0 (fun _ => ⟨[], 0, []⟩) := ⟨⟨[], rfl⟩, List.Perm.refl _, fun i hi => by omega, rfl⟩
  have hF1 := hF.made (by decide) fb
  refine ⟨_, q, O, sv, _, h, ⟨new_good 4096 fb (by decide) _, by show 80 * 40 ≤ 4096; decide, ⟨[], hF1.congr (fun i hi => ?_), rfl, Nat.le_refl _⟩, Nat.le_refl _, fun qs hq => (by cases hq), by simp, fun qs hq => ?_, fun qs hq p hp => ?_, by decide, Nat.le_refl _⟩⟩
  · obtain rfl : i = 0 := by simp at hi; omega
    rfl
  · simp at hq; subst hq; exact Nat.zero_le _
  · simp at hq; subst hq; cases hp
theorem KN.app {w W0 W : World} {l d m : Nat} {I : List (List (List Nat))} {ps : List (List Nat)} {j V : Nat} (h : KN w W0 l d m I ps j V) (hf : Fr (fun _ => False) W0 W) (y : Value) (p : List Nat) (hy : Src W y p) (hyb : ∀ g o n c, y = .slice (some ⟨g, o, none⟩) n c → W0.heap.size ≤ g) (hp : p.length + 12 ≤ 40) (hc : I.flatten.length + ps.length < 70) (hV : V < 1000) :
    Calls Tryz.prog 13 #[.pointer (some ⟨l, 0, none⟩), y] W fun e W' => e = .returned (.tuple #[.int .i64 ((I.flatten.length + ps.length : Nat) : Int), .int .i64 0]) ∧ ∃ I' ps' j', (I', ps', j') = (if (fby ps).length + (12 + p.length) ≤ 40 then (I, ps ++ [p], j) else (I ++ [ps], [p], 0)) ∧ KN w W' l d m I' ps' j' (V + 1) := by
  obtain ⟨s, q, O, sv, pv, h1, h2⟩ := h.ex
  refine (wap_any3 w l d m s q O sv pv y 40 j V I ps p W (h1.quiet hf) h2 hy (fun g o n c e ho => ?_) hp hc hV).mono ?_
  · have := hyb g o n c e
    have := h1.lt ho
    omega
  · rintro e W' ⟨rfl, s', q', O', sv', pv', I', ps', j', g1, g2, _, g4, _, _⟩
    exact ⟨rfl, I', ps', j', g4, s', q', O', sv', pv', g1, g2⟩
/-- Append of a literal, into the open segment. -/
theorem KN.appF {w W : World} {l d m : Nat} {I : List (List (List Nat))} {ps : List (List Nat)} {j V : Nat} (h : KN w W l d m I ps j V) (cs : Array Value) (p : List Nat) (n : Nat) (z : Int) (hcs : cs.toList = cellsOf p) (hn : p.length = n) (hz : ((I.flatten.length + ps.length : Nat) : Int) = z) (hr : (fby ps).length + (12 + p.length) ≤ 40) (hc : I.flatten.length + ps.length < 70) (hV : V < 1000) :
    Calls Tryz.prog 13 #[.pointer (some ⟨l, 0, none⟩), .slice (some ⟨W.heap.size, 0, none⟩) n n] (W.alloc (.cells cs 5)) fun e W' => e = .returned (.tuple #[.int .i64 z, .int .i64 0]) ∧ KN w W' l d m I (ps ++ [p]) j (V + 1) := by
  subst hn hz
  refine (h.app (box1 W _) _ p (lit_srcW W p cs p.length hcs) (fun g o n c e => by cases e; exact Nat.le_refl _) (by omega) hc hV).mono ?_
  rintro e W' ⟨rfl, I', ps', j', he, hK⟩
  rw [if_pos hr] at he
  simp only [Prod.mk.injEq] at he
  obtain ⟨rfl, rfl, rfl⟩ := he
  exact ⟨rfl, hK⟩
/-- Append of a literal, into a new segment. -/
theorem KN.appN {w W : World} {l d m : Nat} {I : List (List (List Nat))} {ps : List (List Nat)} {j V : Nat} (h : KN w W l d m I ps j V) (cs : Array Value) (p : List Nat) (n : Nat) (z : Int) (hcs : cs.toList = cellsOf p) (hn : p.length = n) (hz : ((I.flatten.length + ps.length : Nat) : Int) = z) (hp : p.length + 12 ≤ 40) (hr : ¬ (fby ps).length + (12 + p.length) ≤ 40) (hc : I.flatten.length + ps.length < 70) (hV : V < 1000) :
    Calls Tryz.prog 13 #[.pointer (some ⟨l, 0, none⟩), .slice (some ⟨W.heap.size, 0, none⟩) n n] (W.alloc (.cells cs 5)) fun e W' => e = .returned (.tuple #[.int .i64 z, .int .i64 0]) ∧ KN w W' l d m (I ++ [ps]) [p] 0 (V + 1) := by
  subst hn hz
  refine (h.app (box1 W _) _ p (lit_srcW W p cs p.length hcs) (fun g o n c e => by cases e; exact Nat.le_refl _) hp hc hV).mono ?_
  rintro e W' ⟨rfl, I', ps', j', he, hK⟩
  rw [if_neg hr] at he
  simp only [Prod.mk.injEq] at he
  obtain ⟨rfl, rfl, rfl⟩ := he
  exact ⟨rfl, hK⟩
/-- Append(nil), into a new segment. -/
theorem KN.app0 {w W : World} {l d m : Nat} {I : List (List (List Nat))} {ps : List (List Nat)} {j V : Nat} (h : KN w W l d m I ps j V) (z : Int) (hz : ((I.flatten.length + ps.length : Nat) : Int) = z) (hr : ¬ (fby ps).length + 12 ≤ 40) (hc : I.flatten.length + ps.length < 70) (hV : V < 1000) :
    Calls Tryz.prog 13 #[.pointer (some ⟨l, 0, none⟩), .slice none 0 0] W fun e W' => e = .returned (.tuple #[.int .i64 z, .int .i64 0]) ∧ KN w W' l d m (I ++ [ps]) [[]] 0 (V + 1) := by
  subst hz
  refine (h.app (Fr.refl _ _) _ [] (.inl ⟨rfl, rfl⟩) (fun g o n c e => by cases e) (by decide) hc hV).mono ?_
  rintro e W' ⟨rfl, I', ps', j', he, hK⟩
  rw [if_neg (by simpa using hr)] at he
  simp only [Prod.mk.injEq] at he
  obtain ⟨rfl, rfl, rfl⟩ := he
  exact ⟨rfl, hK⟩
theorem KN.limit {w W : World} {l d m : Nat} {I : List (List (List Nat))} {ps : List (List Nat)} {j V : Nat} (h : KN w W l d m I ps j V) (o : Obj) (n : Nat) (hn : 28 < n) :
    Calls Tryz.prog 13 #[.pointer (some ⟨l, 0, none⟩), .slice (some ⟨W.heap.size, 0, none⟩) n n] (W.alloc o) fun e W' => e = .returned (.tuple #[.int .i64 0, .int .i64 2]) ∧ KN w W' l d m I ps j V := by
  have h' := h.quiet (box1 W o)
  obtain ⟨s, q, O, sv, pv, h1, h2⟩ := h'.ex
  refine (wap_limit l d _ sv pv _ n n _ h1.G (by show 40 < _; omega) (by show 12 ≤ 40; decide) (by show 40 ≤ _; decide)).mono ?_
  rintro e W' ⟨rfl, rfl⟩
  exact ⟨rfl, h'⟩
theorem KN.len {w W : World} {l d m : Nat} {I : List (List (List Nat))} {ps : List (List Nat)} {j V : Nat} (h : KN w W l d m I ps j V) (z : Int) (hz : ((I.flatten.length + ps.length : Nat) : Int) = z) : Calls Tryz.prog 12 #[.pointer (some ⟨l, 0, none⟩)] W fun e W' => e = .returned (.int .i64 z) ∧ W' = W := by
  obtain ⟨s, q, O, sv, pv, h1, h2⟩ := h.ex
  have := wlen_any l d _ sv pv W h1.G
  rw [of_plen, hz] at this
  exact this
theorem KN.synced {w W : World} {l d m : Nat} {I : List (List (List Nat))} {ps : List (List Nat)} {j V : Nat} (h : KN w W l d m I ps j V) (z : Int) (hz : ((I.flatten.length + j : Nat) : Int) = z) : Calls Tryz.prog 14 #[.pointer (some ⟨l, 0, none⟩)] W fun e W' => e = .returned (.int .i64 z) ∧ Fr (fun _ => False) W W' ∧ KN w W' l d m I ps j V := by
  obtain ⟨s, q, O, sv, pv, h1, h2⟩ := h.ex
  subst hz
  refine (wsyn_of w l d m s q O sv pv 40 j V I ps W h1 h2).mono ?_
  rintro e W' ⟨rfl, hf⟩
  exact ⟨rfl, hf, h.quiet hf⟩
theorem KN.sync {w W : World} {l d m : Nat} {I : List (List (List Nat))} {ps : List (List Nat)} {j V : Nat} (h : KN w W l d m I ps j V) : Calls Tryz.prog 19 #[.pointer (some ⟨l, 0, none⟩)] W fun e W' => e = .returned (.int .i64 0) ∧ KN w W' l d m I ps ps.length V := by
  obtain ⟨s, q, O, sv, pv, h1, h2⟩ := h.ex
  have ilen : (I.map (fun ps => (fby ps).length)).length = I.length := List.length_map _
  have hn := h2.n
  have := wlsync_any w l d m (LM.of sLog 40 (I ++ [ps])) s q O sv pv _ _ W h1 (of_segs ..) (by rw [ilen]; omega) (by show (3 : Nat) ≤ 32; decide) h2.good.off (by rw [ilen]; exact h2.has (Nat.le_refl _))
  rw [ilen] at this
  refine this.mono ?_
  rintro e W' ⟨rfl, q', O', g1, g2, g3⟩
  exact ⟨rfl, _, q', O', sv, pv, g1, h2.sync⟩
theorem KN.at {w W : World} {l d m : Nat} {I : List (List (List Nat))} {ps : List (List Nat)} {j V : Nat} (h : KN w W l d m I ps j V) (k n : Nat) (z : Int) (p : List Nat) (hz : ((k : Nat) : Int) = z) (hk : (I.flatten ++ ps)[k]? = some p) (hn : p.length = n) : Calls Tryz.prog 20 #[.pointer (some ⟨l, 0, none⟩), .int .i64 z] W fun e W' => ∃ vo vc, e = .returned (.tuple #[.slice vo n vc, .int .i64 0]) ∧ Src W' (.slice vo n vc) p ∧ KN w W' l d m I ps j V := by
  obtain ⟨s, q, O, sv, pv, h1, h2⟩ := h.ex
  subst hn hz
  refine (wat_of w l d m s q O sv pv 40 j V I ps k p W h1 h2 hk).mono ?_
  rintro e W' ⟨v, rfl, hv, hf⟩
  obtain ⟨vo, vc, rfl⟩ := own_form hv
  exact ⟨vo, vc, rfl, own_src hv, h.quiet hf⟩
theorem KN.atBad {w W : World} {l d m : Nat} {I : List (List (List Nat))} {ps : List (List Nat)} {j V : Nat} (h : KN w W l d m I ps j V) (k : Nat) (z : Int) (hz : ((k : Nat) : Int) = z) (hk : I.flatten.length + ps.length ≤ k) : Calls Tryz.prog 20 #[.pointer (some ⟨l, 0, none⟩), .int .i64 z] W fun e W' => e = .returned (.tuple #[.slice none 0 0, .int .i64 1]) ∧ W' = W := by
  obtain ⟨s, q, O, sv, pv, h1, h2⟩ := h.ex
  subst hz
  exact wat_bad l d _ sv pv k W h1.G (by rw [of_plen]; exact hk)
theorem KN.names {w W : World} {l d m : Nat} {I : List (List (List Nat))} {ps : List (List Nat)} {j V : Nat} (h : KN w W l d m I ps j V) (N : Nat) (hN : I.length + 1 = N) : Calls Tryz.prog 11 #[.pointer (some ⟨d, 0, none⟩)] W fun e W' => ∃ g c, e = .returned (.slice (some ⟨g, 0, none⟩) N c) ∧ (∀ i, i < N → ∃ M, M < N ∧ W'.cell? ⟨g, i, none⟩ = some (.string (seg sLog M))) ∧ KN w W' l d m I ps j V := by
  obtain ⟨s, q, O, sv, pv, h1, h2⟩ := h.ex
  obtain ⟨pc, hf, _, _⟩ := h2.fl
  have hn := h2.n
  rw [hN] at hf
  refine (wnames d m s q O N _ W h1.D hf (by omega) (by omega)).mono ?_
  rintro e W' ⟨g, c, rfl, _, hc, hfr⟩
  exact ⟨g, c, rfl, hc, h.quiet hfr⟩
theorem seg_0 : seg sLog 0 = ⟨#[108, 111, 103, 46, 48]⟩ := by rw [seg, Lib.decDigits_one (by decide)]; rfl
theorem seg_1 : seg sLog 1 = ⟨#[108, 111, 103, 46, 49]⟩ := by rw [seg, Lib.decDigits_one (by decide)]; rfl
/-- Read of the first twelve bytes of the first segment. -/
theorem KN.read0 {w W : World} {l d m : Nat} {I : List (List (List Nat))} {ps : List (List Nat)} {j V : Nat} (h : KN w W l d m I ps j V) (nme : ByteArray) (hnme : nme = seg sLog 0) (p : List Nat) (hp : (I ++ [ps]).getD 0 [] = [p]) : Calls Tryz.prog 16 #[.pointer (some ⟨d, 0, none⟩), .string nme, .int .i64 0, .int .i64 12] W fun e W' => ∃ g vc, e = .returned (.tuple #[.slice (some ⟨g, 0, none⟩) 12 vc, .int .i64 0]) ∧ W'.ownsRow W.heap.size 5 1 (.slice (some ⟨g, 0, none⟩) 12 vc) 12 (cellsOf ((frame p).take 12)) ∧ KN w W' l d m I ps j V := by
  obtain ⟨s, q, O, sv, pv, h1, h2⟩ := h.ex
  subst hnme
  have hn := h2.n
  have hb := h2.bytes (i := 0) (by omega)
  rw [hp, fby_cons, fby_nil, List.append_nil] at hb
  have hsg := h2.sg _ (h2.mem (i := 0) (by omega))
  rw [hp, fby_cons, fby_nil, List.append_nil] at hsg
  have hsz : (seg sLog 0).size ≤ maxLen := by rw [seg_0]; decide
  refine (read0_at d m 12 s q O (seg sLog 0) W h1.D h2.good.off hsz (h2.has (by omega)) (by rw [hb]; omega) (by rw [hb, frame_len]; omega)).mono ?_
  rintro e W' ⟨v, rfl, hv, hf⟩
  rw [hb] at hv
  obtain ⟨g, c, rfl, _⟩ := hv.form (by decide)
  exact ⟨g, c, rfl, hv, h.quiet hf⟩
theorem KN.sizes {w W : World} {l d m : Nat} {I : List (List (List Nat))} {ps : List (List Nat)} {j V : Nat} (h : KN w W l d m I ps j V) (vs : Array Value) (n : Nat) (hvs : vs.toList = icells ((I ++ [ps]).map fun qs => (fby qs).length)) (hn : I.length + 1 = n) : Calls Tryz.prog 15 #[.pointer (some ⟨l, 0, none⟩), .slice (some ⟨W.heap.size, 0, none⟩) n n] (W.alloc (.cells vs 3)) fun e W' => e = .returned (.bool true) ∧ KN w W' l d m I ps j V := by
  have h' := h.quiet (box1 W (.cells vs 3))
  obtain ⟨s, q, O, sv, pv, h1, h2⟩ := h'.ex
  have hnn := h2.n
  have ilen : (I.map (fun ps => (fby ps).length)).length = I.length := List.length_map _
  have em : (I ++ [ps]).map (fun qs => (fby qs).length) = I.map (fun qs => (fby qs).length) ++ [(fby ps).length] := by simp
  rw [em] at hvs
  refine (sizes_any l d _ sv pv _ _ W.heap.size n n _ h1.G (of_segs ..) (by rw [ilen]; omega) (by rw [ilen]; exact hn) (fun i hi => ?_)).mono ?_
  · rw [World.cell?_alloc_at _ _ _ _ rfl, ← Array.getElem?_toList, hvs]
    have hl : i < (I.map (fun qs => (fby qs).length) ++ [(fby ps).length]).length := by simp; omega
    simp only [icells]
    rw [List.getElem?_map, List.getElem?_eq_getElem hl, List.getD_eq_getElem?_getD, List.getElem?_eq_getElem hl]
    rfl
  · rintro e W' ⟨rfl, hf⟩
    exact ⟨rfl, h'.quiet hf⟩
/-- The disk off, the log still there. -/
structure KO (w W : World) (l d m : Nat) (I0 : List (List (List Nat))) (I : List (List (List Nat))) (ps : List (List Nat)) (t : List Nat) (V : Nat) : Prop where
  ex : ∃ s q O sv pv, DS w W d m s q O ∧ LgAt W l d (LM.of sLog 40 I0) sv pv ∧ s.off = true ∧ LT { s with off := false } 40 I ps t V
structure KT (w W : World) (d m : Nat) (I : List (List (List Nat))) (ps : List (List Nat)) (t : List Nat) (V : Nat) : Prop where
  ex : ∃ s q O, DS w W d m s q O ∧ LT s 40 I ps t V
structure KB (w W : World) (d m : Nat) (I : List (List (List Nat))) (ps : List (List Nat)) (j V M a k : Nat) : Prop where
  ex : ∃ s q O, DS w W d m (s.turned (nm (seg sLog M)) a k) q O ∧ LS s 40 I ps j V ∧ M < I.length + 1 ∧ a < (s.F (nm (seg sLog M))).b.length ∧ k < 8
structure KD (w W : World) (d m : Nat) (I : List (List (List Nat))) (ps : List (List Nat)) (j V : Nat) : Prop where
  ex : ∃ s q O, DS w W d m s q O ∧ LS s 40 I ps j V
structure KC (w W : World) (d m N : Nat) : Prop where
  ex : ∃ s q O, DS w W d m s q O ∧ Brk s 40 N
theorem KN.crash {w W : World} {l d m : Nat} {I : List (List (List Nat))} {ps : List (List Nat)} {j V : Nat} (h : KN w W l d m I ps j V) (keep : Int) (hk : keep ≤ 9223372036854775807) (qs : List (List Nat)) (hq : ps.take (j + wholes (ps.drop j) (min keep.toNat ((fby ps).length - (fby (ps.take j)).length))) = qs) : Calls Tryz.prog 21 #[.pointer (some ⟨d, 0, none⟩), .int .i64 keep] W fun e W' => e = .returned (.tuple #[]) ∧ ∃ t, KO w W' l d m (I ++ [ps]) I qs t V := by
  obtain ⟨s, q, O, sv, pv, h1, h2⟩ := h.ex
  subst hq
  refine (wcrash_off w d m keep s q O 40 j V I ps W h1.ds h2 hk).mono ?_
  rintro e W' ⟨rfl, s', q', hD, hf, ho, t, hT⟩
  exact ⟨rfl, t, s', q', O, sv, pv, ⟨hD, h1.fr.absorb hf h1.o, h1.o⟩, h1.G.fr hf h1.al h1.asv h1.ap, ho, hT⟩
theorem KO.at {w W : World} {l d m : Nat} {I0 I : List (List (List Nat))} {ps : List (List Nat)} {t : List Nat} {V : Nat} (h : KO w W l d m I0 I ps t V) (k a b c : Nat) (z : Int) (hz : ((k : Nat) : Int) = z) (hk : (plc 0 I0)[k]? = some (a, b, c)) (ha : a < 100) : Calls Tryz.prog 20 #[.pointer (some ⟨l, 0, none⟩), .int .i64 z] W fun e W' => e = .returned (.tuple #[.slice none 0 0, .int .i64 6]) ∧ KO w W' l d m I0 I ps t V := by
  obtain ⟨s, q, O, sv, pv, h1, h2, h3, h4⟩ := h.ex
  subst hz
  refine (wat_off l d m _ s q O sv pv k a b c W h1.D h2 hk (by show (3 : Nat) ≤ 32; decide) ha h3).mono ?_
  rintro e W' ⟨rfl, hf⟩
  exact ⟨rfl, s, q, O, sv, pv, h1.quiet hf, h2.fr hf (fun e => e) (fun _ _ e => e) (fun _ _ e => e), h3, h4⟩
theorem KO.start {w W : World} {l d m : Nat} {I0 I : List (List (List Nat))} {ps : List (List Nat)} {t : List Nat} {V : Nat} (h : KO w W l d m I0 I ps t V) : Calls Tryz.prog 22 #[.pointer (some ⟨d, 0, none⟩)] W fun e W' => e = .returned (.tuple #[]) ∧ KT w W' d m I ps t V := by
  obtain ⟨s, q, O, sv, pv, h1, h2, h3, h4⟩ := h.ex
  refine (start_any d m s q O W h1.D).mono ?_
  rintro e W' ⟨rfl, hD, hf⟩
  exact ⟨rfl, _, q, O, h1.upd hD hf, h4⟩
theorem KT.open {w W : World} {d m : Nat} {I : List (List (List Nat))} {ps : List (List Nat)} {t : List Nat} {V : Nat} (h : KT w W d m I ps t V) : Calls Tryz.prog 10 #[.pointer (some ⟨d, 0, none⟩), .string sLog, .int .i64 40] W fun e W' => ∃ l, e = .returned (.tuple #[.pointer (some ⟨l, 0, none⟩), .int .i64 0]) ∧ KN w W' l d m I ps ps.length V := by
  obtain ⟨s, q, O, h1, h2⟩ := h.ex
  refine (wopen_at w d m s q O 40 V I ps t W h1 h2 (by decide)).mono ?_
  rintro e W' ⟨l, rfl, s', q', O', sv, pv, g1, g2, _, _⟩
  exact ⟨l, rfl, s', q', O', sv, pv, g1, g2⟩
theorem segL_size2 {M : Nat} (h : M < 100) : (seg sLog M).size ≤ maxLen := by
  have := (seg_size sLog M h).2
  have e : sLog.size = 3 := by decide
  simp only [maxLen]
  omega
theorem KN.turn {w W : World} {l d m : Nat} {I : List (List (List Nat))} {ps : List (List Nat)} {j V : Nat} (h : KN w W l d m I ps j V) (nme : ByteArray) (M a k : Nat) (za zk : Int) (hza : ((a : Nat) : Int) = za) (hzk : ((k : Nat) : Int) = zk) (hnme : nme = seg sLog M) (hM : M < I.length + 1) (ha : a < (fby ((I ++ [ps]).getD M [])).length) (hk : k < 8) : Calls Tryz.prog 23 #[.pointer (some ⟨d, 0, none⟩), .string nme, .int .i64 za, .int .u64 zk] W fun e W' => e = .returned (.int .i64 0) ∧ KB w W' d m I ps j V M a k := by
  obtain ⟨s, q, O, sv, pv, h1, h2⟩ := h.ex
  subst hnme hza hzk
  have hn := h2.n
  rw [← h2.bytes hM] at ha
  refine (turn_at d m s q O (seg sLog M) a k W h1.D h2.good.off (segL_size2 (by omega)) (h2.has (by omega)) ha hk).mono ?_
  rintro e W' ⟨rfl, q', O', hD, hf, hO⟩
  exact ⟨rfl, s, q', O', h1.ds.step hD hf hO, h2, hM, ha, hk⟩
theorem KB.open {w W : World} {d m : Nat} {I : List (List (List Nat))} {ps : List (List Nat)} {j V M a k : Nat} (h : KB w W d m I ps j V M a k) : Calls Tryz.prog 10 #[.pointer (some ⟨d, 0, none⟩), .string sLog, .int .i64 40] W fun e W' => e = .returned (.tuple #[.pointer none, .int .i64 4]) ∧ KB w W' d m I ps j V M a k := by
  obtain ⟨s, q, O, h1, h2, h3, h4, h5⟩ := h.ex
  refine (wopen_bad w d m _ q O 40 (I.length + 1) W h1 (h2.brk h3 h4 h5) (by decide)).mono ?_
  rintro e W' ⟨rfl, hf⟩
  exact ⟨rfl, s, q, O, h1.quiet hf, h2, h3, h4, h5⟩
theorem KB.back {w W : World} {d m : Nat} {I : List (List (List Nat))} {ps : List (List Nat)} {j V M a k : Nat} (h : KB w W d m I ps j V M a k) (nme : ByteArray) (za zk : Int) (hza : ((a : Nat) : Int) = za) (hzk : ((k : Nat) : Int) = zk) (hnme : nme = seg sLog M) : Calls Tryz.prog 23 #[.pointer (some ⟨d, 0, none⟩), .string nme, .int .i64 za, .int .u64 zk] W fun e W' => e = .returned (.int .i64 0) ∧ KD w W' d m I ps j V := by
  obtain ⟨s, q, O, h1, h2, h3, h4, h5⟩ := h.ex
  subst hnme hza hzk
  have hn := h2.n
  have hh : Maps.has (s.turned (nm (seg sLog M)) a k).D (.string (nm (seg sLog M))) = true := h2.has (i := M) (by omega)
  have hl : a < ((s.turned (nm (seg sLog M)) a k).F (nm (seg sLog M))).b.length := by
    have e : (s.turned (nm (seg sLog M)) a k).F (nm (seg sLog M)) = (s.F (nm (seg sLog M))).turn a k := by simp [DM.turned]
    rw [e]
    show a < ((s.F (nm (seg sLog M))).b.set a _).length
    rw [List.length_set]
    exact h4
  refine (turn_at d m _ q O (seg sLog M) a k W h1.D h2.good.off (segL_size2 (by omega)) hh hl h5).mono ?_
  rintro e W' ⟨rfl, q', O', hD, hf, hO⟩
  exact ⟨rfl, s, q', O', h1.step (hD.back h4 h5) hf hO, h2⟩
theorem KD.cut {w W : World} {d m : Nat} {I : List (List (List Nat))} {ps : List (List Nat)} {j V : Nat} (h : KD w W d m I ps j V) (nme : ByteArray) (M n : Nat) (z : Int) (p : List Nat) (hz : ((n : Nat) : Int) = z) (hnme : nme = seg sLog M) (hM : M < I.length) (hp : (I ++ [ps]).getD M [] = [p]) (hn0 : 0 < n) (hn : n < p.length + 12) : Calls Tryz.prog 24 #[.pointer (some ⟨d, 0, none⟩), .string nme, .int .i64 z] W fun e W' => e = .returned (.int .i64 0) ∧ KC w W' d m (I.length + 1) := by
  obtain ⟨s, q, O, h1, h2⟩ := h.ex
  subst hnme hz
  have hnn := h2.n
  have hu := h2.used.1
  have hb := h2.bytes (i := M) (by omega)
  have hpd : p.length + 12 ≤ 40 := h2.pay _ (h2.mem (i := M) (by omega)) p (by rw [hp]; simp)
  have hbl : (s.F (nm (seg sLog M))).b.length = p.length + 12 := by rw [hb, hp, fby_cons, fby_nil, List.append_nil, frame_len]
  obtain ⟨pc, hf, _, _⟩ := h2.fl
  have hF : s.F (nm (seg sLog M)) = ⟨fby (I.getD M []), (fby (I.getD M [])).length, []⟩ := by rw [hf.F M (by omega), LB_old _ _ hM]
  have hus : (s.F (nm (seg sLog M))).b.length ≤ s.used := by
    have := tot_ge (fun i => (LB I ⟨fby ps, (fby (ps.take j)).length, pc⟩ i).b) (show M < I.length + 1 by omega)
    rw [hf.used, hf.F M (by omega)]
    exact this
  refine (cutn_at d m s q O (seg sLog M) n W h1.D h2.good.off (segL_size2 (by omega)) (h2.has (by omega)) (by omega) (by omega) (by rw [hF]; exact Nat.zero_le _) (fun x hx => by rw [hF] at hx; cases hx) hus (by omega)).mono ?_
  rintro e W' ⟨rfl, q', hD, hfr⟩
  exact ⟨rfl, _, q', O, h1.step hD hfr (fun _ h => .inl h), h2.cutBrk hM hp hn0 hn⟩
theorem KC.open {w W : World} {d m N : Nat} (h : KC w W d m N) : Calls Tryz.prog 10 #[.pointer (some ⟨d, 0, none⟩), .string sLog, .int .i64 40] W fun e W' => e = .returned (.tuple #[.pointer none, .int .i64 4]) ∧ Fr (fun _ => False) w W' := by
  obtain ⟨s, q, O, h1, h2⟩ := h.ex
  refine (wopen_bad w d m _ q O 40 N W h1 h2 (by decide)).mono ?_
  rintro e W' ⟨rfl, hf⟩
  exact ⟨rfl, h1.fr.trans hf (fun _ _ h => h)⟩
end Go.Proofs.YtmmaddlphclpnaaGreatDoor

namespace Go.Proofs.YtmmaddlphclpnaaGreatDoor
open Go.RowKit Go.ChangeShapes Go.WideShapes Go.Maps Go.Sort

set_option maxHeartbeats 8000000 in
set_option maxRecDepth 100000 in
/-- WalKnown. -/
theorem wknown_any (w : World) : Calls Tryz.prog 3 #[] w fun e w' => e = .returned (.bool true) ∧ Fr (fun _ => False) w w' := by
  have hm28 : ∀ W : World, (Instr.makeSlice 35 (.int .i64 28) (.int .i64 28)).run Tryz.prog W = .ok (.slice (some ⟨W.heap.size, 0, none⟩) 28 28) (W.alloc (.cells (madeCells #[.int .u8 0] 28) 5)) := fun W => make_n 28 W (by decide)
  have hm29 : ∀ W : World, (Instr.makeSlice 35 (.int .i64 29) (.int .i64 29)).run Tryz.prog W = .ok (.slice (some ⟨W.heap.size, 0, none⟩) 29 29) (W.alloc (.cells (madeCells #[.int .u8 0] 29) 5)) := fun W => make_n 29 W (by decide)
  go_enter Tryz.func3, Tryz.ntmps3
  go_wp2_with fail
  refine (new_any 4096 w (by decide) (by decide)).mono ?_
  rintro e w1 ⟨d, m, q, O, rfl, hD, hf, hO⟩
  have H1 := hide (DS.mk (w := w) hD hf hO)
  clear hD hf hO
  go_wp2_with fail
  refine (awake9 _).mono ?_
  rintro e w2 ⟨rfl, hf⟩
  have hK := (unhide H1).quiet hf
  clear hf
  have H2 := hide (show DS w w2 d m (DM.new 4096) q O from hK)
  clear hK H1
  go_wp2_with fail
  refine (open_new w d m 40 _ q O sLog w2 (unhide H2) (by decide) (by decide) (by decide) (by decide) rfl rfl (by decide)).mono ?_
  rintro e w3 ⟨l, rfl, fb, q3, O3, sv3, hW⟩
  have hK := KN.start hW
  clear hW
  have H3 := hide (show KN w w3 l d m [] [] 0 0 from hK)
  clear hK H2
  go_wp2_with fail
  refine (open_arg d _ _ _ (.inl (by decide))).mono ?_
  rintro e w4 ⟨rfl, rfl⟩
  go_wp2_with fail
  refine (open_arg d _ _ _ (.inr (by decide))).mono ?_
  rintro e w5 ⟨rfl, rfl⟩
  go_wp2_with fail
  refine ((unhide H3).names 1 rfl).mono ?_
  rintro e w6 ⟨g6, c6, rfl, hc6, hK⟩
  obtain ⟨M6, hM6, hcell6⟩ := hc6 0 (by decide)
  obtain rfl : M6 = 0 := by omega
  rw [seg_0] at hcell6
  clear hc6 hM6
  have H6 := hide (show KN w w6 l d m [] [] 0 0 from hK)
  clear hK H3
  go_wp2_with fail
  refine ((unhide H6).len 0 rfl).mono ?_
  rintro e w7 ⟨rfl, rfl⟩
  clear hcell6
  go_wp2_with fail
  refine ((unhide H6).appF _ [1, 2, 3] 3 0 rfl rfl rfl (by decide) (by decide) (by decide)).mono ?_
  rintro e w8 ⟨rfl, hK⟩
  have H8 := hide (show KN w w8 l d m [] [[1, 2, 3]] 0 1 from hK)
  clear hK H6
  go_wp2_with fail
  refine ((unhide H8).appN _ (Zr 28) 28 1 (made_cells 28) rfl rfl (by decide) (by rw [fby_cons_len]; decide) (by decide) (by decide)).mono ?_
  rintro e w9 ⟨rfl, hK⟩
  have H9 := hide (show KN w w9 l d m [[[1, 2, 3]]] [Zr 28] 0 2 from hK)
  clear hK H8
  go_wp2_with fail
  refine ((unhide H9).limit _ 29 (by decide)).mono ?_
  rintro e w10 ⟨rfl, hK⟩
  have H10 := hide (show KN w w10 l d m [[[1, 2, 3]]] [Zr 28] 0 2 from hK)
  clear hK H9
  go_wp2_with fail
  refine ((unhide H10).synced 1 rfl).mono ?_
  rintro e w11 ⟨rfl, _, hK⟩
  have H11 := hide (show KN w w11 l d m [[[1, 2, 3]]] [Zr 28] 0 2 from hK)
  clear hK H10
  go_wp2_with fail
  refine ((unhide H11).sizes _ 2 (by simp [icells, fby_cons_len, fby_nil, Zr]) rfl).mono ?_
  rintro e w12 ⟨rfl, hK⟩
  have H12 := hide (show KN w w12 l d m [[[1, 2, 3]]] [Zr 28] 0 2 from hK)
  clear hK H11
  go_wp2_with fail
  refine ((unhide H12).read0 _ seg_0.symm [1, 2, 3] rfl).mono ?_
  rintro e w13 ⟨g13, c13, rfl, hrow, hK⟩
  have HR := hide (head_of hrow)
  clear hrow
  have H13 := hide (show KN w w13 l d m [[[1, 2, 3]]] [Zr 28] 0 2 from hK)
  clear hK H12
  go_wp2_with fail
  refine (gframe_any _ [1, 2, 3] _ (lit_srcW w13 [1, 2, 3] _ 3 rfl) (by decide)).mono ?_
  rintro e w14 ⟨v15, rfl, hv, hf⟩
  obtain ⟨vo15, vc15, rfl⟩ := own_form hv
  have hcap : (12 : Int) ≤ (vc15 : Int) := gfr_cap hv
  have HF := hide (((unhide HR).fr (box1 w13 _)).fr hf)
  have HV := hide (gfr_src hv)
  rw [gfr_len]
  have hK := ((unhide H13).quiet (box1 w13 _)).quiet hf
  clear hv hf HR
  have H14 := hide (show KN w w14 l d m [[[1, 2, 3]]] [Zr 28] 0 2 from hK)
  clear hK H13
  go_wp2_with fail
  refine (same_any _ _ _ _ _ (unhide HF).src (unhide HV) (by decide +kernel)).mono ?_
  rintro e w15 ⟨rfl, nd, rfl⟩
  rw [gfr_same]
  obtain ⟨k3, k7, k4⟩ := ((unhide HF).fr ((Fr.refl (fun _ => False) _).drewN nd)).cells
  have hK := (unhide H14).quiet ((Fr.refl (fun _ => False) _).drewN nd)
  clear HF HV hcap
  have H15 := hide (show KN w (w14.drewN nd) l d m [[[1, 2, 3]]] [Zr 28] 0 2 from hK)
  clear hK H14
  go_wp2_with fail
  refine ((unhide H15).app0 2 rfl (by rw [fby_cons_len]; decide) (by decide) (by decide)).mono ?_
  rintro e w16 ⟨rfl, hK⟩
  clear k3 k7 k4
  have H16 := hide (show KN w w16 l d m [[[1, 2, 3]], [Zr 28]] [[]] 0 3 from hK)
  clear hK H15
  go_wp2_with fail
  refine ((unhide H16).sync).mono ?_
  rintro e w17 ⟨rfl, hK⟩
  have H17 := hide (show KN w w17 l d m [[[1, 2, 3]], [Zr 28]] [[]] 1 3 from hK)
  clear hK H16
  go_wp2_with fail
  refine ((unhide H17).at 0 3 0 [1, 2, 3] rfl rfl rfl).mono ?_
  rintro e w18 ⟨vo19, vc19, rfl, hsrc, hK⟩
  have HSR := hide hsrc
  clear hsrc
  have H18 := hide (show KN w w18 l d m [[[1, 2, 3]], [Zr 28]] [[]] 1 3 from hK)
  clear hK H17
  go_wp2_with fail
  refine ((unhide H18).atBad 3 3 rfl (by decide)).mono ?_
  rintro e w19 ⟨rfl, rfl⟩
  go_wp2_with fail
  refine ((unhide H18).len 3 rfl).mono ?_
  rintro e w20 ⟨rfl, rfl⟩
  go_wp2_with fail
  refine ((unhide H18).synced 3 rfl).mono ?_
  rintro e w21 ⟨rfl, hfS, hK⟩
  have HSR2 := hide ((unhide HSR).fr0 hfS)
  clear hfS HSR
  have H21 := hide (show KN w w21 l d m [[[1, 2, 3]], [Zr 28]] [[]] 1 3 from hK)
  clear hK H18
  go_wp2_with fail
  refine (same_any _ _ [1, 2, 3] [1, 2, 3] _ ((unhide HSR2).fr0 (box1 w21 _)) (lit_srcW w21 [1, 2, 3] _ 3 rfl) (by decide)).mono ?_
  rintro e w22 ⟨rfl, nd2, rfl⟩
  rw [show sameB [1, 2, 3] [1, 2, 3] = true by decide]
  have hK := ((unhide H21).quiet (box1 w21 (.cells #[.int .u8 1, .int .u8 2, .int .u8 3] 5))).quiet ((Fr.refl (fun _ => False) _).drewN nd2)
  clear HSR2
  have H22 := hide (show KN w ((w21.alloc (.cells #[.int .u8 1, .int .u8 2, .int .u8 3] 5)).drewN nd2) l d m [[[1, 2, 3]], [Zr 28]] [[]] 1 3 from hK)
  clear hK H21
  go_wp2_with fail
  refine ((unhide H22).names 3 rfl).mono ?_
  rintro e w23 ⟨g24, c24, rfl, _, hK⟩
  have H23 := hide (show KN w w23 l d m [[[1, 2, 3]], [Zr 28]] [[]] 1 3 from hK)
  clear hK H22
  go_wp2_with fail
  refine ((unhide H23).appF _ [7] 1 3 rfl rfl rfl (by rw [fby_cons_len]; decide) (by decide) (by decide)).mono ?_
  rintro e w24 ⟨rfl, hK⟩
  have H24 := hide (show KN w w24 l d m [[[1, 2, 3]], [Zr 28]] [[], [7]] 1 4 from hK)
  clear hK H23
  go_wp2_with fail
  refine ((unhide H24).crash 12 (by decide) [[]] (by simp [fby_cons_len, fby_nil, wholes])).mono ?_
  rintro e w25 ⟨rfl, t26, hK⟩
  have H25 := hide (show KO w w25 l d m ([[[1, 2, 3]], [Zr 28]] ++ [[[], [7]]]) [[[1, 2, 3]], [Zr 28]] [[]] t26 4 from hK)
  clear hK H24
  go_wp2_with fail
  refine ((unhide H25).at 0 0 12 3 0 rfl rfl (by decide)).mono ?_
  rintro e w26 ⟨rfl, hK⟩
  have H26 := hide (show KO w w26 l d m ([[[1, 2, 3]], [Zr 28]] ++ [[[], [7]]]) [[[1, 2, 3]], [Zr 28]] [[]] t26 4 from hK)
  clear hK H25
  go_wp2_with fail
  refine ((unhide H26).start).mono ?_
  rintro e w27 ⟨rfl, hK⟩
  have H27 := hide (show KT w w27 d m [[[1, 2, 3]], [Zr 28]] [[]] t26 4 from hK)
  clear hK H26
  go_wp2_with fail
  refine ((unhide H27).open).mono ?_
  rintro e w28 ⟨l2, rfl, hK⟩
  have H28 := hide (show KN w w28 l2 d m [[[1, 2, 3]], [Zr 28]] [[]] 1 4 from hK)
  clear hK H27
  go_wp2_with fail
  refine ((unhide H28).len 3 rfl).mono ?_
  rintro e w29 ⟨rfl, rfl⟩
  go_wp2_with fail
  refine ((unhide H28).sizes _ 3 (by simp [icells, fby_cons_len, fby_nil, Zr]) rfl).mono ?_
  rintro e w30 ⟨rfl, hK⟩
  have H30 := hide (show KN w w30 l2 d m [[[1, 2, 3]], [Zr 28]] [[]] 1 4 from hK)
  clear hK H28
  go_wp2_with fail
  refine ((unhide H30).turn _ 1 20 3 20 3 rfl rfl seg_1.symm (by decide) (by show 20 < (fby [Zr 28]).length; rw [fby_cons_len]; decide) (by decide)).mono ?_
  rintro e w31 ⟨rfl, hK⟩
  have H31 := hide (show KB w w31 d m [[[1, 2, 3]], [Zr 28]] [[]] 1 4 1 20 3 from hK)
  clear hK H30
  go_wp2_with fail
  refine ((unhide H31).open).mono ?_
  rintro e w32 ⟨rfl, hK⟩
  have H32 := hide (show KB w w32 d m [[[1, 2, 3]], [Zr 28]] [[]] 1 4 1 20 3 from hK)
  clear hK H31
  go_wp2_with fail
  refine ((unhide H32).back _ 20 3 rfl rfl seg_1.symm).mono ?_
  rintro e w33 ⟨rfl, hK⟩
  have H33 := hide (show KD w w33 d m [[[1, 2, 3]], [Zr 28]] [[]] 1 4 from hK)
  clear hK H32
  go_wp2_with fail
  refine ((unhide H33).cut _ 1 39 39 (Zr 28) rfl seg_1.symm (by decide) rfl (by decide) (by decide)).mono ?_
  rintro e w34 ⟨rfl, hK⟩
  have H34 := hide (show KC w w34 d m 3 from hK)
  clear hK H33
  go_wp2_with fail
  refine ((unhide H34).open).mono ?_
  rintro e w35 ⟨rfl, hK⟩
  have H35 := hide (show Fr (fun _ => False) w w35 from hK)
  clear hK H34
  go_wp2_with fail
  go_ret
  exact ⟨rfl, unhide H35⟩
end Go.Proofs.YtmmaddlphclpnaaGreatDoor

namespace Go.Proofs.YtmmaddlphclpnaaGreatDoor
open Go.ChangeShapes Go.WideShapes Go.ChangeAt Go.RowKit
set_option maxRecDepth 100000

theorem Tryz.ownKnob : ownKnob Tryz.prog.godebug = none := by kernel_rfl
theorem Tryz.cellsU8 : Tryz.prog.cellsOf 5 = 1 := by kernel_rfl
theorem Tryz.bytesU8 : Tryz.prog.bytesOf 5 = 1 := by kernel_rfl
theorem Fr.below {w w' : World} (h : Fr (fun _ => False) w w') : Below w.heap.size w w' := ⟨h.os, h.tape, h.output, h.size, fun k hk => h.block k hk (fun x => x)⟩
theorem nat_u32 {a : Int} (h : (Lit.int .u32 a).wf = true) : ∃ n : Nat, a = n ∧ n < 4294967296 := ⟨a.toNat, by have := bounds_u32 h; omega, by have := bounds_u32 h; omega⟩
theorem bulk_lits {H : Type} (zs : List Int) : Rows.uptoBulkAll (lits .u8 zs : List (DataW H)) = zs.length := by
  induction zs with
  | nil => rfl
  | cons z r ih =>
    have e : (lits .u8 (z :: r) : List (DataW H)) = .lit (.int .u8 z) :: lits .u8 r := rfl
    rw [e, Rows.uptoBulkAll, ih, Rows.uptoBulk, List.length_cons]
    · omega
    · intro bytes h; cases h
/-- A slice of bytes that came in. -/
theorem src_of_reading {H : Type} {enc : TypeId × Value → H} {W : World} {base : Nat} {v : Value} {d : DataW H} {p : List MemPlace} (hval : Value.okWide Tryz.prog W .any base 35 v) (h : DataW.Trod enc Tryz.prog W 0 (fun _ => true) true 35 v d p) :
    ∃ l : List Nat, Src W v l ∧ (∀ ao n c, v = .slice ao n c → n ≤ c) ∧ l.length ≤ Rows.uptoBulk d ∧ (l = [] ∨ ∃ es sp, d = .slice es sp ∧ l.length ≤ es.length) := by
  obtain ⟨a0, len, cap, rfl⟩ := okWide_slice Tryz.underlying35 hval
  obtain ⟨fuel, hf⟩ := h
  rcases open_ints Tryz.underlying35 Tryz.underlying5 Tryz.cellsU8 hf with ⟨hcs, hx⟩ | ⟨a, len', cap', zs, hcs, _, hl, hm, hz, hx, hcell, hwz⟩
  · simp [Value.cells] at hcs
    obtain ⟨rfl, rfl, rfl⟩ := hcs
    exact ⟨[], .inl ⟨rfl, rfl⟩, fun _ _ _ e => by cases e; exact Nat.le_refl _, Nat.zero_le _, .inl rfl⟩
  · simp [Value.cells] at hcs
    obtain ⟨rfl, rfl, rfl⟩ := hcs
    simp only [Prod.mk.injEq] at hx
    obtain ⟨rfl, -⟩ := hx
    simp only [if_true] at hz
    have hlen : ((zs.take len).map Int.toNat).length = len := by simp; omega
    have hbulk : len ≤ Rows.uptoBulk (DataW.slice (lits .u8 (zs.take len)) (lits .u8 (zs.drop len)) : DataW H) := by
      have h1 := bulk_lits (H := H) (zs.take len)
      have h2 : (zs.take len).length = len := by simp; omega
      simp only [Rows.uptoBulk]
      omega
    by_cases h0 : len = 0
    · subst h0
      exact ⟨[], .inr (.inr ⟨a, cap, rfl, rfl⟩), fun _ _ _ e => by cases e; exact Nat.zero_le _, Nat.zero_le _, .inl rfl⟩
    · obtain ⟨b, off, rfl, hc⟩ := ints_at hcell (show 0 < zs.length by omega)
      refine ⟨(zs.take len).map Int.toNat, .inr (.inl ⟨b, off, cap, by rw [hlen], fun j v hv => ?_⟩), fun _ _ _ e => by cases e; omega, by rw [hlen]; exact hbulk, .inr ⟨_, _, rfl, by simp [lits]⟩⟩
      have hj : j < len := by
        have := (List.getElem?_eq_some_iff.1 hv).1
        simp [cellsOf] at this; omega
      rw [hc j (by omega)]
      have hw := bounds_u8 (hwz (zs.getD j 0) (by simp [List.getD, show j < zs.length by omega]))
      rw [← hv]
      simp [cellsOf, B, hj, show j < zs.length by omega] at hw ⊢
      omega
end Go.Proofs.YtmmaddlphclpnaaGreatDoor

namespace Go.Proofs.YtmmaddlphclpnaaGreatDoor
open Go.ChangeShapes Go.WideShapes Go.ChangeAt Go.RowKit
set_option maxRecDepth 100000

noncomputable def yWorld (os : Os) : World :=
  let w0 := World.holding Tryz.prog os ⟨#[], #[], []⟩
  { w0 with heap := (((w0.heap.modify 2 fun
      | .cells _ t frozen => .cells (Lib.deBruijn64tab.map fun n : Nat => Value.int .u8 (n : Int)).toArray t frozen
      | o => o).modify 1 fun
      | .cells _ t frozen => .cells (Lib.deBruijn32tab.map fun n : Nat => Value.int .u8 (n : Int)).toArray t frozen
      | o => o).modify 0 fun
      | .cells _ t frozen => .cells (Lib.pow10Tab.map fun n : Int => Value.int .u64 n).toArray t frozen
      | o => o) }
theorem yknown_contract (H : Type) (enc : TypeId × Value → H) (W : World) (args : Array Value) (ds gs : List (DataW H)) (before : List MemPlace)
    (hW : DataW.Whole enc Tryz.prog Tryz.f3.params.toList Rows.walKnownSpec.vars false W args.toList ds gs before) (_hL : laidMetH Tryz.prog Rows.walKnownRow.laid W) (_hsh : W.ShapedOpen Tryz.prog) :
    Calls Tryz.prog 3 args W fun e W' => ∃ v, e = .returned v ∧ Rows.walKnownSpec.post enc Tryz.prog Tryz.f3 false true false false W args v W' := by
  have hW' := hW
  obtain ⟨p, q, hA0, hV, rfl, hfz, hnd⟩ := hW
  have hA : DataW.TrodAll enc Tryz.prog W 0 (fun _ => true) true Tryz.f3.params.toList args.toList ds p := hA0
  rw [Tryz.params3] at hA
  obtain ⟨hargs, rfl, rfl⟩ := trodAll_nil hA
  obtain rfl : args = #[] := by cases args; simp_all
  obtain ⟨rfl, rfl⟩ := trodVars_none hV
  refine (wknown_any W).mono fun e W' ⟨he, hf⟩ => ?_
  subst he
  have hb := hf.below
  refine ⟨_, rfl, _, _, _, [], [], [], hW', ?_, ?_, ?_, hb.frame _, fun h => by cases h⟩
  · exact trodAll_cons_mk (shut_bool Tryz.underlying4 true) trodAll_mk0
  · exact trodAll_mk0
  · rfl

theorem yknown_laid_met (os : Os) : laidMetH Tryz.prog Rows.walKnownRow.laid ((yWorld os).forCall (fun _ _ => 0) ⟨#[], #[], []⟩).memory :=
  laidMetH_of_parts (laidMet_of_run' 8 (by kernel_rfl) (by kernel_rfl)) (by kernel_rfl)
theorem yknown_reads (os : Os) {H : Type} (enc : TypeId × Value → H) : ∃ places, DataW.whole enc Tryz.prog ((yWorld os).forCall (fun _ _ => 0) ⟨#[], #[], []⟩).memory Tryz.f3.params.toList Rows.walKnownSpec.vars false (#[] : Array Value).toList 8 = some ([], [], places) :=
  ⟨[], by kernel_rfl⟩

theorem yknown_lifted (os : Os) (started : os.Started) (H : Type) (enc : TypeId × Value → H) (F : Stop.Interp) :
    ReturnsInHanded {} Tryz.checked os 3 .any ((OpenSpec.ofChange Rows.walKnownSpec).preRow enc Tryz.prog Tryz.f3 Rows.walKnownRow.domain false Rows.walKnownRow.laid) (((OpenSpec.ofChange Rows.walKnownSpec).at F).post enc Tryz.prog Tryz.f3 false true false false) := by
  obtain ⟨places, hx⟩ := yknown_reads os enc
  refine returnsInHanded_of_row (C := Tryz.checked) (s := OpenSpec.ofChange Rows.walKnownSpec) Tryz.ownKnob started (by kernel_rfl) Tryz.func3
    (witness_row_atRef (enc := enc) (C := Tryz.checked) false (yWorld os) #[] rfl (by kernel_rfl) (by kernel_rfl) (by kernel_rfl)
      (OpenSpec.preRow_of_cond 8 hx (by kernel_rfl) (fun k hk => by cases hk) (by kernel_rfl) (yknown_laid_met os))) ?_
  intro W base args ds gs before _ hW _ _ _ hL hsh _
  exact yknown_contract H enc W args ds gs before hW hL hsh

theorem yknown_said : Rows.WalKnownSaid :=
  OpenClaim.holds_of_cond 3 Tryz.f3 rfl rfl rfl rfl rfl rfl rfl ⟨rfl, rfl, rfl, rfl, rfl⟩ rfl rfl rfl rfl rfl (by kernel_rfl) Tryz.func3 (by kernel_rfl)
    (of_decide_eq_true (by kernel_rfl)) (by unfold Func.isWrapper; first | (rw [if_pos (by decide +kernel)]; kernel_rfl) | (rw [if_neg (by decide +kernel)]; exact ⟨rfl, rfl⟩))
    (fun os started H enc _ F => by rw [OpenClaim.pre_eq_preRow]; exact yknown_lifted os started H enc F)

theorem yknown_plain (f : FuncId) (fn : Func) (hf : Tryz.pinned.checked.prog.funcNamed Rows.walKnownRow.func = some f) (hfn : Tryz.pinned.checked.prog.funcs[f]? = some fn) :
    false = Tryz.pinned.checked.prog.looks [] ∧ ∀ (j : Nat) t, fn.params[j]? = some t → Tryz.pinned.checked.prog.wantsStandIn t = false := by
  obtain rfl : f = 3 := Option.some.inj ((show Tryz.prog.funcNamed Rows.walKnownRow.func = some 3 by kernel_rfl).symm.trans hf) |>.symm
  obtain rfl : fn = Tryz.f3 := (Option.some.inj (Tryz.func3.symm.trans hfn)).symm
  refine ⟨by kernel_rfl, fun j t ht => ?_⟩
  rw [Tryz.params3] at ht
  simp at ht

/-- THE FIRST FORM's CARD. -/
theorem yknown_card : Rows.WalKnownCardSaid :=
  Claim7.holds_tied_plain_at .later [] _ _ _ _ yknown_said (fun _ h => by cases h) (by kernel_rfl) (fun _ h => by cases h) walKnown_row_tie rfl ⟨rfl, rfl⟩ (by kernel_rfl) rfl yknown_plain (by kernel_rfl)
#print axioms yknown_card
end Go.Proofs.YtmmaddlphclpnaaGreatDoor

