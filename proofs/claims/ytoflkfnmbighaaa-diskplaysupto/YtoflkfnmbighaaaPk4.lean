import Derived.Test.YtoflkfnmbighaaaPk3
import Derived.Test.YtoflkfnmbighaaaPk1
namespace Go.Proofs.Ytoflkfnmbighaaa
open Go.RowKit Go.ChangeShapes Go.WideShapes Go.Maps

def RD.createR (r : RD) (n : ByteArray) : RD × Int := if r.off then (r, 6) else if n.size < 1 ∨ 64 < n.size then (r, 1) else match nix r.fs n with
  | some _ => (r, 1)
  | none => if 256 ≤ r.fs.length then (r, 2) else ({ r with fs := r.fs ++ [⟨n, []⟩] }, 0)
/-- What is done to a file that is there. -/
def RD.withF (r : RD) (n : ByteArray) (g : Nat → RFl → RD × Int) : RD × Int := if r.off then (r, 6) else match nix r.fs n with
  | none => (r, 15)
  | some k => match r.fs[k]? with
    | none => (r, 15)
    | some f => g k f
def RD.syncR (r : RD) (n : ByteArray) : RD × Int := r.withF n fun k f => ({ r with fs := r.fs.set k ⟨f.name, f.rb.map fun b => { b with s := true }⟩ }, 0)
def RD.cutR (r : RD) (n : ByteArray) (z : Int) : RD × Int := r.withF n fun k f => if z < 0 ∨ (f.rb.length : Int) < z then (r, 1) else ({ r with fs := r.fs.set k ⟨f.name, f.rb.take z.toNat⟩ }, 0)
def RD.removeR (r : RD) (n : ByteArray) : RD × Int := r.withF n fun k _ => ({ r with fs := r.fs.eraseIdx k }, 0)
def RD.turnR (r : RD) (n : ByteArray) (z b : Int) : RD × Int := r.withF n fun k f => if z < 0 ∨ (f.rb.length : Int) ≤ z ∨ 7 < b then (r, 1) else match f.rb[z.toNat]? with
  | none => (r, 1)
  | some y => ({ r with fs := r.fs.set k ⟨f.name, f.rb.set z.toNat { y with v := (y.v % 256) ^^^ 2 ^ b.toNat }⟩ }, 0)
def RD.used (r : RD) : Nat := (r.fs.map fun f => f.rb.length).sum
/-- How many bytes of a write come through. -/
def RD.come (r : RD) (n : Nat) : Nat := if r.armed = 1 ∧ r.tear < (n : Int) then r.tear.toNat else n
def RD.appendR (r : RD) (n : ByteArray) (l : List Nat) : RD × Int := r.withF n fun k f => if r.full = true ∨ r.limit < r.used + l.length then (r, 5) else
  ({ r with born := r.born + r.come l.length, writes := r.writes + 1, armed := if 0 < r.armed then r.armed - 1 else r.armed, off := decide (r.armed = 1), fs := r.fs.set k ⟨f.name, f.rb ++ nB l r.born (r.come l.length)⟩ }, if r.armed = 1 then 6 else 0)
/-- What a call of the program leaves. -/
def PR (W : World) (d m : Nat) (O : Nat → Prop) (x : RD × Int) (e : Ending) (W' : World) : Prop := e = .returned (.int .i64 x.2) ∧ ∃ s' q' O', DkAt W' d m s' q' O' ∧ Rel s' x.1 ∧ Fr O W W' ∧ ∀ k, O' k → O k ∨ W.heap.size ≤ k
theorem PR.same {W W' : World} {d m : Nat} {s : DM} {q : DW} {O : Nat → Prop} {r : RD} {c : Int} (h : DkAt W d m s q O) (hR : Rel s r) (hf : Fr (fun _ => False) W W') : PR W d m O (r, c) (.returned (.int .i64 c)) W' :=
  ⟨rfl, s, q, O, h.fr hf (fun _ _ h => h), hR, hf.mono (fun _ _ h => h.elim), fun _ hk => .inl hk⟩
theorem withF_no {r : RD} (n : ByteArray) (hne : ¬ (r.found n).2 = 0) (g : Nat → RFl → RD × Int) : r.withF n g = (r, (r.found n).2) := by
  unfold RD.withF RD.found at *
  cases ho : r.off with
  | true => simp
  | false =>
    rw [ho] at hne
    simp only [Bool.false_eq_true, if_false] at hne ⊢
    cases hk : nix r.fs n with
    | none => rfl
    | some k => rw [hk] at hne; exact absurd rfl hne
theorem withF_ok {r : RD} {n : ByteArray} {k : Nat} {f : RFl} (ho : r.off = false) (hk : nix r.fs n = some k) (hf : r.fs[k]? = some f) (g : Nat → RFl → RD × Int) : r.withF n g = g k f := by
  unfold RD.withF
  rw [ho, hk]
  simp [hf]
set_option maxRecDepth 100000 in
theorem create_full (d m : Nat) (s : DM) (q : DW) (O : Nat → Prop) (name : ByteArray) (w : World) (h : DkAt w d m s q O) (ho : s.off = false) (hn0 : 1 ≤ name.size) (hn : name.size ≤ 64) (hh : Maps.has s.D (.string (nm name)) = false) (hs : 256 ≤ Maps.size s.D) :
    Calls Try.prog 9 #[.pointer (some ⟨d, 0, none⟩), .string name] w fun e w' => e = .returned (.int .i64 2) ∧ Fr (fun _ => False) w w' := by
  have hnm : name.size ≤ maxLen := by simp only [maxLen]; omega
  obtain ⟨c0, c1, c2, c3, c4, c5, c6, c7, fz⟩ := h.cells
  rw [ho] at c4
  clear c0 c2 c3 c5 c6 c7 fz
  have hl0 : (Instr.lookup 46 (.map (some m)) (.string name) false).run Try.prog w = .ok (.pointer none) w := by
    obtain ⟨v, ps, hr, hv⟩ := h.map.lookup Try.sK (t := 46) Try.underlying46 (Try.zeroF w) Rp_nil (key_nm name hnm)
    rw [Maps.atKey_of_not_has hh] at hv
    rcases Rp_inv hv with ⟨rfl, _⟩ | ⟨b, _, hb⟩
    · exact hr
    · cases hb
  have hlen := h.map.len (t := 46) Try.underlying46 3
  have hs' : (Maps.size s.D : Int) ≥ 256 := by omega
  clear h hh ho
  go_enter Try.func9, Try.ntmps9
  go_wp2_with fail
  go_ret
  exact ⟨rfl, Fr.refl _ _⟩
variable {W : World} {d m : Nat} {s : DM} {q : DW} {O : Nat → Prop} {r : RD}
theorem pcreate (h : DkAt W d m s q O) (hR : Rel s r) (n : ByteArray) : Calls Try.prog 9 #[.pointer (some ⟨d, 0, none⟩), .string n] W (PR W d m O (r.createR n)) := by
  unfold RD.createR
  by_cases ho : r.off = true
  · rw [if_pos ho]
    refine (create_off d m s q O n W h (hR.off ▸ ho)).mono ?_
    rintro e w' ⟨rfl, rfl⟩
    exact PR.same h hR (Fr.refl _ _)
  · rw [if_neg ho]
    have ho' : s.off = false := by rw [← hR.off]; simpa using ho
    by_cases hb : n.size < 1 ∨ 64 < n.size
    · rw [if_pos hb]
      refine (create_bad d m s q O n W h ho' hb).mono ?_
      rintro e w' ⟨rfl, hf⟩
      exact PR.same h hR hf
    · rw [if_neg hb]
      cases hk : nix r.fs n with
      | some k =>
        refine (create_twice d m s q O n W h ho' (by omega) (by omega) (rel_has hR hk)).mono ?_
        rintro e w' ⟨rfl, hf⟩
        exact PR.same h hR hf
      | none =>
        dsimp only
        by_cases h2 : 256 ≤ r.fs.length
        · rw [if_pos h2]
          refine (create_full d m s q O n W h ho' (by omega) (by omega) (rel_hasnt hR hk) (by rw [rel_size hR]; exact h2)).mono ?_
          rintro e w' ⟨rfl, hf⟩
          exact PR.same h hR hf
        · rw [if_neg h2]
          refine (create_ok d m s q O n W h ho' (by omega) (by omega) (rel_hasnt hR hk) (by rw [rel_size hR]; omega)).mono ?_
          rintro e w' ⟨rfl, fb, q', O', hD, hf, hO⟩
          exact ⟨rfl, _, q', O', hD, hR.made n fb (by omega) (by omega) (rel_hasnt hR hk) (by omega), hf, hO⟩
theorem psync (h : DkAt W d m s q O) (hR : Rel s r) (n : ByteArray) (hn : n.size ≤ maxLen) : Calls Try.prog 38 #[.pointer (some ⟨d, 0, none⟩), .string n] W (PR W d m O (r.syncR n)) := by
  unfold RD.syncR
  by_cases hne : (r.found n).2 = 0
  · obtain ⟨k, f, ho, hk, _, hf, en⟩ := found_ok hne
    rw [withF_ok ho hk hf]
    refine (sync_at d m s q O n W h (hR.off ▸ ho) hn (rel_has hR hk)).mono ?_
    rintro e w' ⟨rfl, q', O', hD, hfr, hO⟩
    rw [← en] at hD
    exact ⟨rfl, _, q', O', hD, hR.sync hf, hfr, hO⟩
  · rw [withF_no n hne]
    refine (sync_no d m s q O n _ W h hn (rel_no hR hne)).mono ?_
    rintro e w' ⟨rfl, rfl⟩
    exact PR.same h hR (Fr.refl _ _)
theorem pcut (h : DkAt W d m s q O) (hR : Rel s r) (n : ByteArray) (z : Int) (hn : n.size ≤ maxLen) (hw : s.writes ≤ 1000000) : Calls Try.prog 40 #[.pointer (some ⟨d, 0, none⟩), .string n, .int .i64 z] W (PR W d m O (r.cutR n z)) := by
  unfold RD.cutR
  by_cases hne : (r.found n).2 = 0
  · obtain ⟨k, f, ho, hk, _, hf, en⟩ := found_ok hne
    have hfm := List.mem_of_getElem? hf
    rw [withF_ok ho hk hf]
    have hl : (s.F (nm n)).b.length = f.rb.length := by rw [← en]; exact rel_blen hR f hfm
    by_cases hz : z < 0 ∨ (f.rb.length : Int) < z
    · rw [if_pos hz]
      refine (cut_bad d m s q O n z W h (hR.off ▸ ho) hn (rel_has hR hk) (by rw [hl]; exact hz)).mono ?_
      rintro e w' ⟨rfl, hfr⟩
      exact PR.same h hR hfr
    · rw [if_neg hz]
      obtain ⟨z', rfl⟩ : ∃ z' : Nat, z = z' := ⟨z.toNat, by omega⟩
      have h1 := rel_len hR f hfm
      have h2 := hR.ul
      have h3 := hR.lim1
      have h4 := rel_ps hR f hfm
      have h5 := rel_sz hR f hfm
      rw [en] at h4 h5
      refine (cutn_at d m s q O n z' W h (hR.off ▸ ho) hn (rel_has hR hk) (by omega) (by omega) (by omega) h5 (by omega) (by omega)).mono ?_
      rintro e w' ⟨rfl, q', hD, hfr⟩
      rw [← en] at hD
      exact ⟨rfl, _, q', O, hD, hR.cut hf z' (by omega), hfr, fun _ hk => .inl hk⟩
  · rw [withF_no n hne]
    refine (cut_no d m s q O n _ z W h hn (rel_no hR hne)).mono ?_
    rintro e w' ⟨rfl, rfl⟩
    exact PR.same h hR (Fr.refl _ _)
theorem premove (h : DkAt W d m s q O) (hR : Rel s r) (n : ByteArray) (hn : n.size ≤ maxLen) (hw : s.writes ≤ 1000000) : Calls Try.prog 42 #[.pointer (some ⟨d, 0, none⟩), .string n] W (PR W d m O (r.removeR n)) := by
  unfold RD.removeR
  by_cases hne : (r.found n).2 = 0
  · obtain ⟨k, f, ho, hk, _, hf, en⟩ := found_ok hne
    have hfm := List.mem_of_getElem? hf
    rw [withF_ok ho hk hf]
    have hl : (s.F (nm n)).b.length = f.rb.length := by rw [← en]; exact rel_blen hR f hfm
    have h1 := rel_len hR f hfm
    have h2 := hR.ul
    have h3 := hR.lim1
    have h4 := rel_ps hR f hfm
    have h5 := rel_sz hR f hfm
    rw [en] at h4 h5
    refine (remove_at d m s q O n W h (hR.off ▸ ho) hn (rel_has hR hk) (by omega) (by omega) h5 (by omega) (by omega)).mono ?_
    rintro e w' ⟨rfl, q', hD, hfr⟩
    rw [← en] at hD
    exact ⟨rfl, _, q', O, hD, hR.gone hf, hfr, fun _ hk => .inl hk⟩
  · rw [withF_no n hne]
    refine (remove_no d m s q O n _ W h hn (rel_no hR hne)).mono ?_
    rintro e w' ⟨rfl, rfl⟩
    exact PR.same h hR (Fr.refl _ _)
theorem pturn (h : DkAt W d m s q O) (hR : Rel s r) (n : ByteArray) (z b : Int) (hb0 : 0 ≤ b) (hn : n.size ≤ maxLen) : Calls Try.prog 46 #[.pointer (some ⟨d, 0, none⟩), .string n, .int .i64 z, .int .u64 b] W (PR W d m O (r.turnR n z b)) := by
  unfold RD.turnR
  by_cases hne : (r.found n).2 = 0
  · obtain ⟨k, f, ho, hk, _, hf, en⟩ := found_ok hne
    have hfm := List.mem_of_getElem? hf
    rw [withF_ok ho hk hf]
    have hl : (s.F (nm n)).b.length = f.rb.length := by rw [← en]; exact rel_blen hR f hfm
    by_cases hz : z < 0 ∨ (f.rb.length : Int) ≤ z ∨ 7 < b
    · rw [if_pos hz]
      refine (turn_bad d m s q O n z b W h (hR.off ▸ ho) hn (rel_has hR hk) (by rw [hl]; exact hz)).mono ?_
      rintro e w' ⟨rfl, hfr⟩
      exact PR.same h hR hfr
    · rw [if_neg hz]
      obtain ⟨z', rfl⟩ : ∃ z' : Nat, z = z' := ⟨z.toNat, by omega⟩
      obtain ⟨b', rfl⟩ : ∃ b' : Nat, b = b' := ⟨b.toNat, by omega⟩
      have hlt : z' < f.rb.length := by omega
      simp only [Int.toNat_natCast, List.getElem?_eq_getElem hlt]
      refine (turn_at d m s q O n z' b' W h (hR.off ▸ ho) hn (rel_has hR hk) (by omega) (by omega)).mono ?_
      rintro e w' ⟨rfl, q', O', hD, hfr, hO⟩
      rw [← en] at hD
      exact ⟨rfl, _, q', O', hD, hR.turn hf z' b' _ (List.getElem?_eq_getElem hlt), hfr, hO⟩
  · rw [withF_no n hne]
    refine (turn_no d m s q O n _ z b W h hn (rel_no hR hne)).mono ?_
    rintro e w' ⟨rfl, rfl⟩
    exact PR.same h hR (Fr.refl _ _)
theorem count_come (hR : Rel s r) (n : Nat) : (s.count n).2 = r.come n ∧ (s.count n).1.left = (if 0 < r.armed then r.armed - 1 else r.armed) ∧ ((s.count n).1.left ≠ 0 → r.tear = s.tear) ∧ (s.off = false → (s.count n).1.off = decide (r.armed = 1)) := by
  have ha := hR.arm
  have hl := hR.l0
  have ht := hR.t0
  have htr := hR.tear
  unfold DM.count RD.come
  rw [ha]
  by_cases h0 : s.left = 0
  · have h1 : ¬ s.left = 1 := by omega
    have h2 : ¬ 0 < s.left := by omega
    rw [if_pos h0]
    simp only [h1, h2, false_and, if_false, decide_false]
    exact ⟨trivial, trivial, fun h => absurd h0 h, fun h => h⟩
  · rw [if_neg h0]
    have htr' := htr h0
    by_cases h1 : 1 < s.left
    · have h2 : ¬ s.left = 1 := by omega
      have h3 : 0 < s.left := by omega
      rw [if_pos h1]
      simp only [h2, h3, false_and, if_false, if_true, decide_false]
      exact ⟨trivial, trivial, fun _ => htr', fun h => h⟩
    · have h2 : s.left = 1 := by omega
      rw [if_neg h1]
      simp only [h2, true_and, decide_true]
      refine ⟨?_, by decide, fun _ => htr', fun _ => trivial⟩
      rw [htr']
      by_cases h3 : s.tear < (n : Int)
      · rw [if_pos h3]; congr 1; omega
      · rw [if_neg h3]; omega
theorem pappend (h : DkAt W d m s q O) (hR : Rel s r) (n : ByteArray) (xo : Option Addr) (xc : Nat) (l : List Nat) (hn : n.size ≤ maxLen) (hw : s.writes ≤ 1000000) (hx : Src W (.slice xo l.length xc) l) (hxO : l = [] ∨ ∀ g o k c, Value.slice xo l.length xc = .slice (some ⟨g, o, none⟩) k c → ¬ O g) (hxc : l.length ≤ xc) : Calls Try.prog 10 #[.pointer (some ⟨d, 0, none⟩), .string n, .slice xo l.length xc] W (PR W d m O (r.appendR n l)) := by
  unfold RD.appendR
  by_cases hne : (r.found n).2 = 0
  · obtain ⟨k, f, ho, hk, _, hf, en⟩ := found_ok hne
    have hfm := List.mem_of_getElem? hf
    rw [withF_ok ho hk hf]
    have ho' : s.off = false := hR.off ▸ ho
    have hl : (s.F (nm n)).b.length = f.rb.length := by rw [← en]; exact rel_blen hR f hfm
    have h1 := rel_len hR f hfm
    have h2 := hR.ul
    have h3 := hR.lim1
    have h4 := rel_ps hR f hfm
    rw [en] at h4
    have hus : r.used = s.used := hR.used.symm
    by_cases hz0 : r.full = true ∨ r.limit < r.used + l.length
    · rw [if_pos hz0]
      have hz : s.full = true ∨ s.limit < s.used + l.length := by rw [← hR.full, ← hus, ← hR.lim]; exact hz0
      refine (append_full d m s q O n xo l.length xc W h ho' hn (rel_has hR hk) hz h3 (by omega)).mono ?_
      rintro e w' ⟨rfl, hfr⟩
      exact PR.same h hR hfr
    · rw [if_neg hz0]
      have hz : ¬ (s.full = true ∨ s.limit < s.used + l.length) := by rw [← hR.full, ← hus, ← hR.lim]; exact hz0
      have hfu : s.full = false := by cases h9 : s.full; rfl; exact absurd (.inl h9) hz
      obtain ⟨c1, c2, c3, c4⟩ := count_come hR l.length
      refine (append_okE d m s q O n _ l W h ho' hn (rel_has hR hk) hfu hx hxO (fun xo' k' c' e => by simp only [Value.slice.injEq] at e; omega) (by omega) h3 (by omega) hR.l0.1 hR.l0.2 hR.t0.1 hR.t0.2 (by omega) (by omega)).mono ?_
      rintro e w' ⟨rfl, q', O', hD, hfr, hO⟩
      rw [← en] at hD
      refine ⟨?_, _, q', O', hD, hR.app hf l (by omega) _ rfl rfl (by rw [c1]) c2.symm c3 (c4 ho').symm hR.full (by rw [c1]), hfr, hO⟩
      unfold DM.code
      rw [c4 ho']
      by_cases h9 : r.armed = 1
      · simp [h9]
      · simp [h9]
  · rw [withF_no n hne]
    refine (append_no d m s q O n _ _ W h hn (rel_no hR hne)).mono ?_
    rintro e w' ⟨rfl, rfl⟩
    exact PR.same h hR (Fr.refl _ _)
end Go.Proofs.Ytoflkfnmbighaaa

namespace Go.Proofs.Ytoflkfnmbighaaa
open Go.RowKit Go.ChangeShapes Go.WideShapes Go.Maps

set_option maxHeartbeats 1000000 in
set_option maxRecDepth 100000 in
/-- Cut, out of range. -/
theorem gCut_bad1 (r : RD) (ao : Option Addr) (c : Nat) (Fs : List GF) (T : Nat → Prop) (n : ByteArray) (z : Int) (K : Nat) (x : GF) (W : World) (h : GAt W (.slice ao Fs.length c) Fs T) (hfs : Fs.map Prod.fst = r.fs) (hl : Fs.length ≤ 256) (hF : r.found n = ((K : Int), 0)) (hx : Fs[K]? = some x) (hz : z < 0) :
    Calls Try.prog 41 #[r.agg (.slice ao Fs.length c), .string n, .int .i64 z] W fun e w' => e = .returned (.tuple #[r.agg (.slice ao Fs.length c), .int .i64 1]) ∧ Fr (fun _ => False) W w' := by
  obtain ⟨⟨xn, rb⟩, bv⟩ := x
  (try dsimp only at *)
  obtain ⟨bo', bc, hbv⟩ := h.form hx
  dsimp only at hbv
  subst hbv
  obtain ⟨w, hw⟩ : ∃ w, w = (W.alloc (.cells (r.cells (.slice ao Fs.length c)) 30)).alloc (.cells zero8 30) := ⟨_, rfl⟩
  have hB : B2 W w (r.cells (.slice ao Fs.length c)) := by rw [hw]; exact B2.new _ _
  have HC := hide (gfound_any r ao c Fs T n w (h.fr0 hB.f) hfs hl)
  rw [hF] at HC
  have HB := hide (And.intro hB h)
  have hKl : (K : Int) < (Fs.length : Int) := by have := (List.getElem?_eq_some_iff.1 hx).1; omega
  clear hB h hfs hF
  obtain ⟨li, bo, wt, fs, ar, te, off, fu⟩ := r
  dsimp only at HC ⊢
  unfold RD.agg at HC ⊢
  unfold RD.cells zero8 at hw
  go_enter Try.func41, Try.ntmps41
  go_wp2_with fail
  rw [← hw]
  refine (unhide HC).mono ?_
  rintro e' w2 ⟨rfl, hf2⟩
  have hB2 := (unhide HB).1.fr0 hf2
  have hG2 := (unhide HB).2.fr0 hB2.f
  have hWl : W.heap.size ≤ w2.heap.size := hB2.f.size
  have HW := hide (unhide HB).2
  clear hf2 HB HC hw
  obtain ⟨c0, c1, c2, c3, c4, c5, c6, c7, _⟩ := cells_of8 hB2.d
  obtain ⟨g, rfl, hTg, d0, d1, hfz⟩ := hG2.at_ hx
  dsimp only at d0 d1
  obtain ⟨V, hrV, hgV, hfV⟩ := gbox hB2.z ⟨li, bo, wt, fs, ar, te, off, fu⟩ (some ⟨g, 0, none⟩) Fs.length c
  unfold RD.agg at hrV
  have HV := hide hrV
  have HE := hide (And.intro hgV (hB2.f.trans hfV (fun i hi e => by have e' : i = W.heap.size + 1 := e; omega)))
  clear hrV hgV hfV hB2 hG2 HW hx
  go_wp2_with (refine wpList_stN rfl 30 _ _ rfl _ _ rfl rfl (unhide HV) ?_)
  (try simp only [Exit.inBlock, Exit.then])
  refine bodyPost_ret (results_cellt rfl _ _ (W.heap.size + 1) 0 _ _ _ rfl rfl (unhide HE).1 Try.underlying30 rfl (by kernel_rfl)) rfl ?_
  exact ⟨rfl, (unhide HE).2⟩
set_option maxHeartbeats 1000000 in
set_option maxRecDepth 100000 in
/-- Cut, out of range. -/
theorem gCut_bad2 (r : RD) (ao : Option Addr) (c : Nat) (Fs : List GF) (T : Nat → Prop) (n : ByteArray) (z : Int) (K : Nat) (x : GF) (W : World) (h : GAt W (.slice ao Fs.length c) Fs T) (hfs : Fs.map Prod.fst = r.fs) (hl : Fs.length ≤ 256) (hF : r.found n = ((K : Int), 0)) (hx : Fs[K]? = some x) (hz : ¬ z < 0) (hz2 : (x.1.rb.length : Int) < z) :
    Calls Try.prog 41 #[r.agg (.slice ao Fs.length c), .string n, .int .i64 z] W fun e w' => e = .returned (.tuple #[r.agg (.slice ao Fs.length c), .int .i64 1]) ∧ Fr (fun _ => False) W w' := by
  have hz3 : z > (x.1.rb.length : Int) := hz2
  obtain ⟨⟨xn, rb⟩, bv⟩ := x
  (try dsimp only at *)
  obtain ⟨bo', bc, hbv⟩ := h.form hx
  dsimp only at hbv
  subst hbv
  obtain ⟨w, hw⟩ : ∃ w, w = (W.alloc (.cells (r.cells (.slice ao Fs.length c)) 30)).alloc (.cells zero8 30) := ⟨_, rfl⟩
  have hB : B2 W w (r.cells (.slice ao Fs.length c)) := by rw [hw]; exact B2.new _ _
  have HC := hide (gfound_any r ao c Fs T n w (h.fr0 hB.f) hfs hl)
  rw [hF] at HC
  have HB := hide (And.intro hB h)
  have hKl : (K : Int) < (Fs.length : Int) := by have := (List.getElem?_eq_some_iff.1 hx).1; omega
  clear hB h hfs hF
  obtain ⟨li, bo, wt, fs, ar, te, off, fu⟩ := r
  dsimp only at HC ⊢
  unfold RD.agg at HC ⊢
  unfold RD.cells zero8 at hw
  go_enter Try.func41, Try.ntmps41
  go_wp2_with fail
  rw [← hw]
  refine (unhide HC).mono ?_
  rintro e' w2 ⟨rfl, hf2⟩
  have hB2 := (unhide HB).1.fr0 hf2
  have hG2 := (unhide HB).2.fr0 hB2.f
  have hWl : W.heap.size ≤ w2.heap.size := hB2.f.size
  have HW := hide (unhide HB).2
  clear hf2 HB HC hw
  obtain ⟨c0, c1, c2, c3, c4, c5, c6, c7, _⟩ := cells_of8 hB2.d
  obtain ⟨g, rfl, hTg, d0, d1, hfz⟩ := hG2.at_ hx
  dsimp only at d0 d1
  obtain ⟨V, hrV, hgV, hfV⟩ := gbox hB2.z ⟨li, bo, wt, fs, ar, te, off, fu⟩ (some ⟨g, 0, none⟩) Fs.length c
  unfold RD.agg at hrV
  have HV := hide hrV
  have HE := hide (And.intro hgV (hB2.f.trans hfV (fun i hi e => by have e' : i = W.heap.size + 1 := e; omega)))
  clear hrV hgV hfV hB2 hG2 HW hx
  go_wp2_with (refine wpList_stN rfl 30 _ _ rfl _ _ rfl rfl (unhide HV) ?_)
  (try simp only [Exit.inBlock, Exit.then])
  refine bodyPost_ret (results_cellt rfl _ _ (W.heap.size + 1) 0 _ _ _ rfl rfl (unhide HE).1 Try.underlying30 rfl (by kernel_rfl)) rfl ?_
  exact ⟨rfl, (unhide HE).2⟩
set_option maxHeartbeats 1000000 in
set_option maxRecDepth 100000 in
/-- Turn, out of range. -/
theorem gTurn_bad1 (r : RD) (ao : Option Addr) (c : Nat) (Fs : List GF) (T : Nat → Prop) (n : ByteArray) (z b : Int) (K : Nat) (x : GF) (W : World) (h : GAt W (.slice ao Fs.length c) Fs T) (hfs : Fs.map Prod.fst = r.fs) (hl : Fs.length ≤ 256) (hF : r.found n = ((K : Int), 0)) (hx : Fs[K]? = some x) (hz : z < 0) :
    Calls Try.prog 47 #[r.agg (.slice ao Fs.length c), .string n, .int .i64 z, .int .u64 b] W fun e w' => e = .returned (.tuple #[r.agg (.slice ao Fs.length c), .int .i64 1]) ∧ Fr (fun _ => False) W w' := by
  obtain ⟨⟨xn, rb⟩, bv⟩ := x
  (try dsimp only at *)
  obtain ⟨bo', bc, hbv⟩ := h.form hx
  dsimp only at hbv
  subst hbv
  obtain ⟨w, hw⟩ : ∃ w, w = (W.alloc (.cells (r.cells (.slice ao Fs.length c)) 30)).alloc (.cells zero8 30) := ⟨_, rfl⟩
  have hB : B2 W w (r.cells (.slice ao Fs.length c)) := by rw [hw]; exact B2.new _ _
  have HC := hide (gfound_any r ao c Fs T n w (h.fr0 hB.f) hfs hl)
  rw [hF] at HC
  have HB := hide (And.intro hB h)
  have hKl : (K : Int) < (Fs.length : Int) := by have := (List.getElem?_eq_some_iff.1 hx).1; omega
  clear hB h hfs hF
  obtain ⟨li, bo, wt, fs, ar, te, off, fu⟩ := r
  dsimp only at HC ⊢
  unfold RD.agg at HC ⊢
  unfold RD.cells zero8 at hw
  go_enter Try.func47, Try.ntmps47
  go_wp2_with fail
  rw [← hw]
  refine (unhide HC).mono ?_
  rintro e' w2 ⟨rfl, hf2⟩
  have hB2 := (unhide HB).1.fr0 hf2
  have hG2 := (unhide HB).2.fr0 hB2.f
  have hWl : W.heap.size ≤ w2.heap.size := hB2.f.size
  have HW := hide (unhide HB).2
  clear hf2 HB HC hw
  obtain ⟨c0, c1, c2, c3, c4, c5, c6, c7, _⟩ := cells_of8 hB2.d
  obtain ⟨g, rfl, hTg, d0, d1, hfz⟩ := hG2.at_ hx
  dsimp only at d0 d1
  obtain ⟨V, hrV, hgV, hfV⟩ := gbox hB2.z ⟨li, bo, wt, fs, ar, te, off, fu⟩ (some ⟨g, 0, none⟩) Fs.length c
  unfold RD.agg at hrV
  have HV := hide hrV
  have HE := hide (And.intro hgV (hB2.f.trans hfV (fun i hi e => by have e' : i = W.heap.size + 1 := e; omega)))
  clear hrV hgV hfV hB2 hG2 HW hx
  go_wp2_with (refine wpList_stN rfl 30 _ _ rfl _ _ rfl rfl (unhide HV) ?_)
  (try simp only [Exit.inBlock, Exit.then])
  refine bodyPost_ret (results_cellt rfl _ _ (W.heap.size + 1) 0 _ _ _ rfl rfl (unhide HE).1 Try.underlying30 rfl (by kernel_rfl)) rfl ?_
  exact ⟨rfl, (unhide HE).2⟩
set_option maxHeartbeats 1000000 in
set_option maxRecDepth 100000 in
/-- Turn, out of range. -/
theorem gTurn_bad2 (r : RD) (ao : Option Addr) (c : Nat) (Fs : List GF) (T : Nat → Prop) (n : ByteArray) (z b : Int) (K : Nat) (x : GF) (W : World) (h : GAt W (.slice ao Fs.length c) Fs T) (hfs : Fs.map Prod.fst = r.fs) (hl : Fs.length ≤ 256) (hF : r.found n = ((K : Int), 0)) (hx : Fs[K]? = some x) (hz : ¬ z < 0) (hz2 : (x.1.rb.length : Int) ≤ z) :
    Calls Try.prog 47 #[r.agg (.slice ao Fs.length c), .string n, .int .i64 z, .int .u64 b] W fun e w' => e = .returned (.tuple #[r.agg (.slice ao Fs.length c), .int .i64 1]) ∧ Fr (fun _ => False) W w' := by
  have hz3 : z ≥ (x.1.rb.length : Int) := hz2
  obtain ⟨⟨xn, rb⟩, bv⟩ := x
  (try dsimp only at *)
  obtain ⟨bo', bc, hbv⟩ := h.form hx
  dsimp only at hbv
  subst hbv
  obtain ⟨w, hw⟩ : ∃ w, w = (W.alloc (.cells (r.cells (.slice ao Fs.length c)) 30)).alloc (.cells zero8 30) := ⟨_, rfl⟩
  have hB : B2 W w (r.cells (.slice ao Fs.length c)) := by rw [hw]; exact B2.new _ _
  have HC := hide (gfound_any r ao c Fs T n w (h.fr0 hB.f) hfs hl)
  rw [hF] at HC
  have HB := hide (And.intro hB h)
  have hKl : (K : Int) < (Fs.length : Int) := by have := (List.getElem?_eq_some_iff.1 hx).1; omega
  clear hB h hfs hF
  obtain ⟨li, bo, wt, fs, ar, te, off, fu⟩ := r
  dsimp only at HC ⊢
  unfold RD.agg at HC ⊢
  unfold RD.cells zero8 at hw
  go_enter Try.func47, Try.ntmps47
  go_wp2_with fail
  rw [← hw]
  refine (unhide HC).mono ?_
  rintro e' w2 ⟨rfl, hf2⟩
  have hB2 := (unhide HB).1.fr0 hf2
  have hG2 := (unhide HB).2.fr0 hB2.f
  have hWl : W.heap.size ≤ w2.heap.size := hB2.f.size
  have HW := hide (unhide HB).2
  clear hf2 HB HC hw
  obtain ⟨c0, c1, c2, c3, c4, c5, c6, c7, _⟩ := cells_of8 hB2.d
  obtain ⟨g, rfl, hTg, d0, d1, hfz⟩ := hG2.at_ hx
  dsimp only at d0 d1
  obtain ⟨V, hrV, hgV, hfV⟩ := gbox hB2.z ⟨li, bo, wt, fs, ar, te, off, fu⟩ (some ⟨g, 0, none⟩) Fs.length c
  unfold RD.agg at hrV
  have HV := hide hrV
  have HE := hide (And.intro hgV (hB2.f.trans hfV (fun i hi e => by have e' : i = W.heap.size + 1 := e; omega)))
  clear hrV hgV hfV hB2 hG2 HW hx
  go_wp2_with (refine wpList_stN rfl 30 _ _ rfl _ _ rfl rfl (unhide HV) ?_)
  (try simp only [Exit.inBlock, Exit.then])
  refine bodyPost_ret (results_cellt rfl _ _ (W.heap.size + 1) 0 _ _ _ rfl rfl (unhide HE).1 Try.underlying30 rfl (by kernel_rfl)) rfl ?_
  exact ⟨rfl, (unhide HE).2⟩
set_option maxHeartbeats 1000000 in
set_option maxRecDepth 100000 in
/-- Turn, out of range. -/
theorem gTurn_bad3 (r : RD) (ao : Option Addr) (c : Nat) (Fs : List GF) (T : Nat → Prop) (n : ByteArray) (z b : Int) (K : Nat) (x : GF) (W : World) (h : GAt W (.slice ao Fs.length c) Fs T) (hfs : Fs.map Prod.fst = r.fs) (hl : Fs.length ≤ 256) (hF : r.found n = ((K : Int), 0)) (hx : Fs[K]? = some x) (hz : ¬ z < 0) (hz2 : ¬ (x.1.rb.length : Int) ≤ z) (hz4 : b > 7) :
    Calls Try.prog 47 #[r.agg (.slice ao Fs.length c), .string n, .int .i64 z, .int .u64 b] W fun e w' => e = .returned (.tuple #[r.agg (.slice ao Fs.length c), .int .i64 1]) ∧ Fr (fun _ => False) W w' := by
  have hz3 : ¬ z ≥ (x.1.rb.length : Int) := hz2
  obtain ⟨⟨xn, rb⟩, bv⟩ := x
  (try dsimp only at *)
  obtain ⟨bo', bc, hbv⟩ := h.form hx
  dsimp only at hbv
  subst hbv
  obtain ⟨w, hw⟩ : ∃ w, w = (W.alloc (.cells (r.cells (.slice ao Fs.length c)) 30)).alloc (.cells zero8 30) := ⟨_, rfl⟩
  have hB : B2 W w (r.cells (.slice ao Fs.length c)) := by rw [hw]; exact B2.new _ _
  have HC := hide (gfound_any r ao c Fs T n w (h.fr0 hB.f) hfs hl)
  rw [hF] at HC
  have HB := hide (And.intro hB h)
  have hKl : (K : Int) < (Fs.length : Int) := by have := (List.getElem?_eq_some_iff.1 hx).1; omega
  clear hB h hfs hF
  obtain ⟨li, bo, wt, fs, ar, te, off, fu⟩ := r
  dsimp only at HC ⊢
  unfold RD.agg at HC ⊢
  unfold RD.cells zero8 at hw
  go_enter Try.func47, Try.ntmps47
  go_wp2_with fail
  rw [← hw]
  refine (unhide HC).mono ?_
  rintro e' w2 ⟨rfl, hf2⟩
  have hB2 := (unhide HB).1.fr0 hf2
  have hG2 := (unhide HB).2.fr0 hB2.f
  have hWl : W.heap.size ≤ w2.heap.size := hB2.f.size
  have HW := hide (unhide HB).2
  clear hf2 HB HC hw
  obtain ⟨c0, c1, c2, c3, c4, c5, c6, c7, _⟩ := cells_of8 hB2.d
  obtain ⟨g, rfl, hTg, d0, d1, hfz⟩ := hG2.at_ hx
  dsimp only at d0 d1
  obtain ⟨V, hrV, hgV, hfV⟩ := gbox hB2.z ⟨li, bo, wt, fs, ar, te, off, fu⟩ (some ⟨g, 0, none⟩) Fs.length c
  unfold RD.agg at hrV
  have HV := hide hrV
  have HE := hide (And.intro hgV (hB2.f.trans hfV (fun i hi e => by have e' : i = W.heap.size + 1 := e; omega)))
  clear hrV hgV hfV hB2 hG2 HW hx
  go_wp2_with (refine wpList_stN rfl 30 _ _ rfl _ _ rfl rfl (unhide HV) ?_)
  (try simp only [Exit.inBlock, Exit.then])
  refine bodyPost_ret (results_cellt rfl _ _ (W.heap.size + 1) 0 _ _ _ rfl rfl (unhide HE).1 Try.underlying30 rfl (by kernel_rfl)) rfl ?_
  exact ⟨rfl, (unhide HE).2⟩
end Go.Proofs.Ytoflkfnmbighaaa

namespace Go.Proofs.Ytoflkfnmbighaaa
open Go.RowKit Go.ChangeShapes Go.WideShapes Go.Maps

theorem pow8 (j : Nat) (h : j < 7) : 2 ^ (j + 1) = 2 ^ j * 2 ∧ 2 ^ j * 2 < 256 := by
  have := Nat.pow_le_pow_right (n := 2) (by decide) (show j + 1 ≤ 7 by omega)
  rw [Nat.pow_succ] at this ⊢
  exact ⟨rfl, by omega⟩
set_option maxHeartbeats 1000000 in
set_option maxRecDepth 100000 in
/-- Turn. -/
theorem gTurn_ok (r : RD) (ao : Option Addr) (c : Nat) (Fs : List GF) (T : Nat → Prop) (n : ByteArray) (z b : Nat) (K : Nat) (x : GF) (W : World) (h : GAt W (.slice ao Fs.length c) Fs T) (hfs : Fs.map Prod.fst = r.fs) (hl : Fs.length ≤ 256) (hF : r.found n = ((K : Int), 0)) (hx : Fs[K]? = some x) (y : RB) (hy : x.1.rb[z]? = some y) (hb7 : b < 8) :
    Calls Try.prog 47 #[r.agg (.slice ao Fs.length c), .string n, .int .i64 (z : Nat), .int .u64 (b : Nat)] W fun e w' => e = .returned (.tuple #[r.agg (.slice ao Fs.length c), .int .i64 0]) ∧ GAt w' (.slice ao Fs.length c) (Fs.set K (⟨x.1.name, x.1.rb.set z { y with v := (y.v % 256) ^^^ 2 ^ b }⟩, x.2)) T ∧ Fr T W w' := by
  obtain ⟨⟨xn, rb⟩, bv⟩ := x
  (try dsimp only at *)
  obtain ⟨bo', bc, hbv⟩ := h.form hx
  dsimp only at hbv
  subst hbv
  obtain ⟨w, hw⟩ : ∃ w, w = (W.alloc (.cells (r.cells (.slice ao Fs.length c)) 30)).alloc (.cells zero8 30) := ⟨_, rfl⟩
  have hB : B2 W w (r.cells (.slice ao Fs.length c)) := by rw [hw]; exact B2.new _ _
  have HC := hide (gfound_any r ao c Fs T n w (h.fr0 hB.f) hfs hl)
  rw [hF] at HC
  have HB := hide (And.intro hB h)
  have hKl : (K : Int) < (Fs.length : Int) := by have := (List.getElem?_eq_some_iff.1 hx).1; omega
  clear hB h hfs hF
  obtain ⟨li, bo, wt, fs, ar, te, off, fu⟩ := r
  dsimp only at HC ⊢
  unfold RD.agg at HC ⊢
  unfold RD.cells zero8 at hw
  go_enter Try.func47, Try.ntmps47
  go_wp2_with fail
  rw [← hw]
  refine (unhide HC).mono ?_
  rintro e' w2 ⟨rfl, hf2⟩
  have hB2 := (unhide HB).1.fr0 hf2
  have hG2 := (unhide HB).2.fr0 hB2.f
  have hWl : W.heap.size ≤ w2.heap.size := hB2.f.size
  have HW := hide (unhide HB).2
  clear hf2 HB HC hw
  obtain ⟨c0, c1, c2, c3, c4, c5, c6, c7, _⟩ := cells_of8 hB2.d
  obtain ⟨g, rfl, hTg, d0, d1, hfz⟩ := hG2.at_ hx
  dsimp only at d0 d1
  have hzl := (List.getElem?_eq_some_iff.1 hy).1
  have hz3 : ¬ (z : Int) ≥ (rb.length : Int) := by omega
  have hz4 : ¬ (b : Int) > 7 := by omega
  have hz5 : ¬ (z : Int) < 0 := by omega
  have hr2 := hG2.b _ (List.mem_of_getElem? hx)
  dsimp only at hr2
  obtain ⟨g2, rfl, _, hcap, hg2, e0, _, _, e3⟩ := row_at hr2 hy
  have HX := hide (And.intro hB2 (And.intro hG2 (And.intro hx (And.intro hr2 hy))))
  clear hB2 hG2 hr2 hx hy
  go_wp2_with fail
  go_loopw [12, 13] (fun ov iv wr => ∃ j : Nat, j ≤ b ∧ iv = .int .u64 (j : Nat) ∧ ov = .int .u8 ((2 ^ j : Nat) : Int) ∧ wr = w2) (fun _ iv _ => b - (intOf iv).toNat)
  case atStart => exact ⟨0, Nat.zero_le _, rfl, rfl, rfl⟩
  case round =>
    obtain ⟨j, hj, rfl, rfl, rfl⟩ := hrel
    by_cases hlt : j < b
    · have hkl : (j : Int) < (b : Int) := by omega
      have hj7 : j < 7 := by omega
      have hp := pow8 j hj7
      have hp2 : 2 ^ j < 256 := by have := Nat.pow_le_pow_right (n := 2) (by decide) (show j ≤ 7 by omega); omega
      have HP := hide hp.1
      have hp3 := hp.2
      clear hp
      generalize hq : 2 ^ j = q at *
      go_wp2_with fail
      exact ⟨⟨j + 1, hlt, by go_num, by rw [unhide HP]; go_num, trivial⟩, by simp [intOf]; omega⟩
    · have hkl : ¬ (j : Int) < (b : Int) := by omega
      obtain rfl : j = b := by omega
      have hp2 : 2 ^ j < 256 := by have := Nat.pow_le_pow_right (n := 2) (by decide) (show j ≤ 7 by omega); omega
      have hv2 : y.v % 256 < 256 := Nat.mod_lt _ (by decide)
      generalize hq : 2 ^ j = q at *
      generalize hvv : y.v % 256 = v0 at *
      go_wp2_with fail
      go_region
      have hxor : bits .xor .u8 (v0 : Int) (q : Int) = ((v0 ^^^ q : Nat) : Int) := u8_xor_nat v0 q hv2 hp2
      rw [hxor]
      have hx8 : v0 ^^^ q < 256 := Nat.xor_lt_two_pow (n := 8) hv2 hp2
      obtain ⟨hB2, hG2, hx, hr2, hy⟩ := unhide HX
      obtain ⟨w3, hw3⟩ : ∃ w3, w3 = (wr.setCell ⟨g2, z * 3, none⟩ (.int .u8 ((v0 ^^^ q : Nat) : Int))).drew := ⟨_, rfl⟩
      have hf3 : Fr (fun k => k = g2) wr w3 := by rw [hw3]; exact ((Fr.refl (fun k => k = g2) wr).setCell (p := ⟨g2, z * 3, none⟩) (.inl rfl) _).drew
      have hg2W := (unhide HW).lt g2 ((unhide HW).tb _ (List.mem_of_getElem? hx) g2 rfl)
      have hb3 : w3.ownsRow 0 89 3 (.slice (some ⟨g2, 0, none⟩) rb.length bc) (rb.set z { y with v := v0 ^^^ q }).length (bcells (rb.set z { y with v := v0 ^^^ q })) := by
        rw [List.length_set]
        have h1 := (hr2.stored (z * 3) (.int .u8 ((v0 ^^^ q : Nat) : Int))).1
        rw [show z * 3 = z * 3 + 0 from rfl, bcells_set rb z y hy 0 _ { y with v := v0 ^^^ q } (by decide) (by simp [bc3, Nat.mod_eq_of_lt hx8])] at h1
        exact ownsRow_of_block h1 (fun k _ => by rw [hw3]; rfl)
      have hG3 := hG2.bytes hx (rb.set z { y with v := v0 ^^^ q }) (hf3.mono (fun k _ e => by rw [e]; rfl)) hb3
      have hd : w3.heap[W.heap.size]? = _ := (hf3.block _ (lt_of_block hB2.d) (fun e => by have e' : W.heap.size = g2 := e; omega)).trans hB2.d
      have hz3' : w3.heap[W.heap.size + 1]? = _ := (hf3.block _ (lt_of_block hB2.z) (fun e => by have e' : W.heap.size + 1 = g2 := e; omega)).trans hB2.z
      rw [← hw3]
      clear c0 c1 c2 c3 c4 c5 c6 c7
      obtain ⟨c0, c1, c2, c3, c4, c5, c6, c7, _⟩ := cells_of8 hd
      obtain ⟨V, hrV, hgV, hfV⟩ := gbox hz3' ⟨li, bo, wt, fs, ar, te, off, fu⟩ (some ⟨g, 0, none⟩) Fs.length c
      have hfin := hG3.fr hfV (fun k hk e => by have e' : k = W.heap.size + 1 := e; have := (unhide HW).lt k hk; omega)
      have hTT : Fr T W V := ((hB2.f.mono (fun _ _ h => h.elim)).trans hf3 (fun i hi e => by have e' : i = g2 := e; rw [e']; exact (unhide HW).tb _ (List.mem_of_getElem? hx) g2 rfl)).trans hfV (fun i hi e => by have e' : i = W.heap.size + 1 := e; omega)
      unfold RD.agg at hrV
      have HV := hide hrV
      have HE := hide (And.intro hgV (And.intro hfin hTT))
      clear hrV hgV hfV hfin hTT hG3 hG2 hB2 hx hr2 hd hz3' hb3 hf3 hw3 HW d0 d1 e0 e3 HX hy
      go_wp2_with (refine wpList_stN rfl 30 _ _ rfl _ _ rfl rfl (unhide HV) ?_)
      (try simp only [Exit.inBlock, Exit.then])
      refine bodyPost_ret (results_cellt rfl _ _ (W.heap.size + 1) 0 _ _ _ rfl rfl (unhide HE).1 Try.underlying30 rfl (by kernel_rfl)) rfl ?_
      have hE := (unhide HE).2
      refine ⟨rfl, ?_, hE.2⟩
      have hE1 := hE.1
      rw [← hvv, ← hq] at hE1
      first
        | exact hE1
        | (rw [hvv] at hE1; exact hE1)
        | (rw [hq] at hE1; exact hE1)
        | (rw [hvv, hq] at hE1; exact hE1)
end Go.Proofs.Ytoflkfnmbighaaa

namespace Go.Proofs.Ytoflkfnmbighaaa
open Go.RowKit Go.ChangeShapes Go.WideShapes Go.Maps

set_option maxHeartbeats 1000000 in
set_option maxRecDepth 100000 in
/-- Create, off. -/
theorem gCreate_off (li bo wt : Nat) (fs : List RFl) (ar te : Int) (fu : Bool) (ao : Option Addr) (m c : Nat) (n : ByteArray)  (W : World) :
    Calls Try.prog 36 #[(RD.mk li bo wt fs ar te true fu).agg (.slice ao m c), .string n] W fun e w' => e = .returned (.tuple #[(RD.mk li bo wt fs ar te true fu).agg (.slice ao m c), .int .i64 6]) ∧ Fr (fun _ => False) W w' := by
  obtain ⟨w, hw⟩ : ∃ w, w = (W.alloc (.cells ((RD.mk li bo wt fs ar te true fu).cells (.slice ao m c)) 30)).alloc (.cells zero8 30) := ⟨_, rfl⟩
  have hB : B2 W w ((RD.mk li bo wt fs ar te true fu).cells (.slice ao m c)) := by rw [hw]; exact B2.new _ _
  obtain ⟨V, hrV, hgV, hfV⟩ := gbox hB.z (RD.mk li bo wt fs ar te true fu) ao m c
  have HE := hide (And.intro hgV (hB.f.trans hfV (fun i hi e => by have e' : i = W.heap.size + 1 := e; omega)))
  clear hgV hfV hB
  unfold RD.cells zero8 at hw
  simp only [RD.agg] at hrV ⊢
  rw [hw] at hrV
  have HV := hide hrV
  clear hrV hw
  go_enter Try.func36, Try.ntmps36
  go_wp2_with (refine wpList_stN rfl 30 _ _ rfl _ _ rfl rfl (unhide HV) ?_)
  (try simp only [Exit.inBlock, Exit.then])
  refine bodyPost_ret (results_cellt rfl _ _ (W.heap.size + 1) 0 _ _ _ rfl rfl (unhide HE).1 Try.underlying30 rfl (by kernel_rfl)) rfl ?_
  exact ⟨rfl, (unhide HE).2⟩
set_option maxHeartbeats 1000000 in
set_option maxRecDepth 100000 in
/-- Create, no name. -/
theorem gCreate_bad1 (li bo wt : Nat) (fs : List RFl) (ar te : Int) (fu : Bool) (ao : Option Addr) (m c : Nat) (n : ByteArray) (h1 : (n.size : Int) < 1) (W : World) :
    Calls Try.prog 36 #[(RD.mk li bo wt fs ar te false fu).agg (.slice ao m c), .string n] W fun e w' => e = .returned (.tuple #[(RD.mk li bo wt fs ar te false fu).agg (.slice ao m c), .int .i64 1]) ∧ Fr (fun _ => False) W w' := by
  obtain ⟨w, hw⟩ : ∃ w, w = (W.alloc (.cells ((RD.mk li bo wt fs ar te false fu).cells (.slice ao m c)) 30)).alloc (.cells zero8 30) := ⟨_, rfl⟩
  have hB : B2 W w ((RD.mk li bo wt fs ar te false fu).cells (.slice ao m c)) := by rw [hw]; exact B2.new _ _
  obtain ⟨V, hrV, hgV, hfV⟩ := gbox hB.z (RD.mk li bo wt fs ar te false fu) ao m c
  have HE := hide (And.intro hgV (hB.f.trans hfV (fun i hi e => by have e' : i = W.heap.size + 1 := e; omega)))
  clear hgV hfV hB
  unfold RD.cells zero8 at hw
  simp only [RD.agg] at hrV ⊢
  rw [hw] at hrV
  have HV := hide hrV
  clear hrV hw
  go_enter Try.func36, Try.ntmps36
  go_wp2_with (refine wpList_stN rfl 30 _ _ rfl _ _ rfl rfl (unhide HV) ?_)
  (try simp only [Exit.inBlock, Exit.then])
  refine bodyPost_ret (results_cellt rfl _ _ (W.heap.size + 1) 0 _ _ _ rfl rfl (unhide HE).1 Try.underlying30 rfl (by kernel_rfl)) rfl ?_
  exact ⟨rfl, (unhide HE).2⟩
set_option maxHeartbeats 1000000 in
set_option maxRecDepth 100000 in
/-- Create, too long. -/
theorem gCreate_bad2 (li bo wt : Nat) (fs : List RFl) (ar te : Int) (fu : Bool) (ao : Option Addr) (m c : Nat) (n : ByteArray) (h1 : ¬ (n.size : Int) < 1) (h2 : (n.size : Int) > 64) (W : World) :
    Calls Try.prog 36 #[(RD.mk li bo wt fs ar te false fu).agg (.slice ao m c), .string n] W fun e w' => e = .returned (.tuple #[(RD.mk li bo wt fs ar te false fu).agg (.slice ao m c), .int .i64 1]) ∧ Fr (fun _ => False) W w' := by
  obtain ⟨w, hw⟩ : ∃ w, w = (W.alloc (.cells ((RD.mk li bo wt fs ar te false fu).cells (.slice ao m c)) 30)).alloc (.cells zero8 30) := ⟨_, rfl⟩
  have hB : B2 W w ((RD.mk li bo wt fs ar te false fu).cells (.slice ao m c)) := by rw [hw]; exact B2.new _ _
  obtain ⟨V, hrV, hgV, hfV⟩ := gbox hB.z (RD.mk li bo wt fs ar te false fu) ao m c
  have HE := hide (And.intro hgV (hB.f.trans hfV (fun i hi e => by have e' : i = W.heap.size + 1 := e; omega)))
  clear hgV hfV hB
  unfold RD.cells zero8 at hw
  simp only [RD.agg] at hrV ⊢
  rw [hw] at hrV
  have HV := hide hrV
  clear hrV hw
  go_enter Try.func36, Try.ntmps36
  go_wp2_with (refine wpList_stN rfl 30 _ _ rfl _ _ rfl rfl (unhide HV) ?_)
  (try simp only [Exit.inBlock, Exit.then])
  refine bodyPost_ret (results_cellt rfl _ _ (W.heap.size + 1) 0 _ _ _ rfl rfl (unhide HE).1 Try.underlying30 rfl (by kernel_rfl)) rfl ?_
  exact ⟨rfl, (unhide HE).2⟩
set_option maxHeartbeats 1000000 in
set_option maxRecDepth 100000 in
/-- Create, a file of that name is there. -/
theorem gCreate_has (li bo wt : Nat) (fs : List RFl) (ar te : Int) (fu : Bool) (ao : Option Addr) (c : Nat) (Fs : List GF) (T : Nat → Prop) (n : ByteArray) (W : World) (h : GAt W (.slice ao Fs.length c) Fs T) (hfs : Fs.map Prod.fst = fs) (hl : Fs.length ≤ 256) (h1 : ¬ (n.size : Int) < 1) (h2 : ¬ (n.size : Int) > 64) (k : Nat) (hk : nix fs n = some k) :
    Calls Try.prog 36 #[(RD.mk li bo wt fs ar te false fu).agg (.slice ao Fs.length c), .string n] W fun e w' => e = .returned (.tuple #[(RD.mk li bo wt fs ar te false fu).agg (.slice ao Fs.length c), .int .i64 1]) ∧ Fr (fun _ => False) W w' := by
  obtain ⟨w, hw⟩ : ∃ w, w = (W.alloc (.cells ((RD.mk li bo wt fs ar te false fu).cells (.slice ao Fs.length c)) 30)).alloc (.cells zero8 30) := ⟨_, rfl⟩
  have hB : B2 W w ((RD.mk li bo wt fs ar te false fu).cells (.slice ao Fs.length c)) := by rw [hw]; exact B2.new _ _
  have HC := hide (gfind_any (RD.mk li bo wt fs ar te false fu) ao c Fs T n w (h.fr0 hB.f) hl)
  rw [hfs] at HC
  have HB := hide (And.intro hB h)
  clear hB h hfs
  unfold RD.agg at HC ⊢
  dsimp only at HC ⊢
  unfold RD.cells zero8 at hw
  rw [hk] at HC
  have hk0 : (fixO (some k)) ≥ 0 := by simp [fixO]
  clear hk
  generalize fixO (some k) = z at *
  go_enter Try.func36, Try.ntmps36
  go_wp2_with fail
  rw [← hw]
  refine (unhide HC).mono ?_
  rintro e' w2 ⟨rfl, hf2⟩
  have hB2 := (unhide HB).1.fr0 hf2
  have hG2 := (unhide HB).2.fr0 hB2.f
  have HW := hide (unhide HB).2
  clear hf2 HB HC hw
  obtain ⟨c0, c1, c2, c3, c4, c5, c6, c7, z7⟩ := cells_of8 hB2.d
  obtain ⟨V, hrV, hgV, hfV⟩ := gbox hB2.z (RD.mk li bo wt fs ar te false fu) ao Fs.length c
  have HE := hide (And.intro hgV (hB2.f.trans hfV (fun i hi e => by have e' : i = W.heap.size + 1 := e; omega)))
  simp only [RD.agg] at hrV
  have HV := hide hrV
  clear hrV hgV hfV hB2 hG2 HW z7
  go_wp2_with (refine wpList_stN rfl 30 _ _ rfl _ _ rfl rfl (unhide HV) ?_)
  (try simp only [Exit.inBlock, Exit.then])
  refine bodyPost_ret (results_cellt rfl _ _ (W.heap.size + 1) 0 _ _ _ rfl rfl (unhide HE).1 Try.underlying30 rfl (by kernel_rfl)) rfl ?_
  exact ⟨rfl, (unhide HE).2⟩
set_option maxHeartbeats 1000000 in
set_option maxRecDepth 100000 in
/-- Create, too many. -/
theorem gCreate_full (li bo wt : Nat) (fs : List RFl) (ar te : Int) (fu : Bool) (ao : Option Addr) (c : Nat) (Fs : List GF) (T : Nat → Prop) (n : ByteArray) (W : World) (h : GAt W (.slice ao Fs.length c) Fs T) (hfs : Fs.map Prod.fst = fs) (hl : Fs.length ≤ 256) (h1 : ¬ (n.size : Int) < 1) (h2 : ¬ (n.size : Int) > 64) (hk : nix fs n = none) (h256 : (Fs.length : Int) ≥ 256) :
    Calls Try.prog 36 #[(RD.mk li bo wt fs ar te false fu).agg (.slice ao Fs.length c), .string n] W fun e w' => e = .returned (.tuple #[(RD.mk li bo wt fs ar te false fu).agg (.slice ao Fs.length c), .int .i64 2]) ∧ Fr (fun _ => False) W w' := by
  obtain ⟨w, hw⟩ : ∃ w, w = (W.alloc (.cells ((RD.mk li bo wt fs ar te false fu).cells (.slice ao Fs.length c)) 30)).alloc (.cells zero8 30) := ⟨_, rfl⟩
  have hB : B2 W w ((RD.mk li bo wt fs ar te false fu).cells (.slice ao Fs.length c)) := by rw [hw]; exact B2.new _ _
  have HC := hide (gfind_any (RD.mk li bo wt fs ar te false fu) ao c Fs T n w (h.fr0 hB.f) hl)
  rw [hfs] at HC
  have HB := hide (And.intro hB h)
  clear hB h hfs
  unfold RD.agg at HC ⊢
  dsimp only at HC ⊢
  unfold RD.cells zero8 at hw
  rw [hk] at HC
  have hk0 : ¬ (fixO none) ≥ 0 := by simp [fixO]
  clear hk
  generalize fixO none = z at *
  go_enter Try.func36, Try.ntmps36
  go_wp2_with fail
  rw [← hw]
  refine (unhide HC).mono ?_
  rintro e' w2 ⟨rfl, hf2⟩
  have hB2 := (unhide HB).1.fr0 hf2
  have hG2 := (unhide HB).2.fr0 hB2.f
  have HW := hide (unhide HB).2
  clear hf2 HB HC hw
  obtain ⟨c0, c1, c2, c3, c4, c5, c6, c7, z7⟩ := cells_of8 hB2.d
  obtain ⟨V, hrV, hgV, hfV⟩ := gbox hB2.z (RD.mk li bo wt fs ar te false fu) ao Fs.length c
  have HE := hide (And.intro hgV (hB2.f.trans hfV (fun i hi e => by have e' : i = W.heap.size + 1 := e; omega)))
  simp only [RD.agg] at hrV
  have HV := hide hrV
  clear hrV hgV hfV hB2 hG2 HW z7
  go_wp2_with (refine wpList_stN rfl 30 _ _ rfl _ _ rfl rfl (unhide HV) ?_)
  (try simp only [Exit.inBlock, Exit.then])
  refine bodyPost_ret (results_cellt rfl _ _ (W.heap.size + 1) 0 _ _ _ rfl rfl (unhide HE).1 Try.underlying30 rfl (by kernel_rfl)) rfl ?_
  exact ⟨rfl, (unhide HE).2⟩
set_option maxHeartbeats 1000000 in
set_option maxRecDepth 100000 in
/-- Create, done. -/
theorem gCreate_ok (li bo wt : Nat) (fs : List RFl) (ar te : Int) (fu : Bool) (ao : Option Addr) (c : Nat) (Fs : List GF) (T : Nat → Prop) (n : ByteArray) (W : World) (h : GAt W (.slice ao Fs.length c) Fs T) (hfs : Fs.map Prod.fst = fs) (hl : Fs.length ≤ 256) (h1 : ¬ (n.size : Int) < 1) (h2 : ¬ (n.size : Int) > 64) (hk : nix fs n = none) (h256 : ¬ (Fs.length : Int) ≥ 256) :
    Calls Try.prog 36 #[(RD.mk li bo wt fs ar te false fu).agg (.slice ao Fs.length c), .string n] W fun e w' => ∃ ao' c', e = .returned (.tuple #[(RD.mk li bo wt fs ar te false fu).agg (.slice ao' (Fs.length + 1) c'), .int .i64 0]) ∧ (∃ T', GAt w' (.slice ao' (Fs.length + 1) c') (Fs ++ [(⟨n, []⟩, .slice none 0 0)]) T' ∧ ∀ k, T' k → T k ∨ W.heap.size ≤ k) ∧ Fr T W w' := by
  obtain ⟨w, hw⟩ : ∃ w, w = (W.alloc (.cells ((RD.mk li bo wt fs ar te false fu).cells (.slice ao Fs.length c)) 30)).alloc (.cells zero8 30) := ⟨_, rfl⟩
  have hB : B2 W w ((RD.mk li bo wt fs ar te false fu).cells (.slice ao Fs.length c)) := by rw [hw]; exact B2.new _ _
  have HC := hide (gfind_any (RD.mk li bo wt fs ar te false fu) ao c Fs T n w (h.fr0 hB.f) hl)
  rw [hfs] at HC
  have HB := hide (And.intro hB h)
  clear hB h hfs
  unfold RD.agg at HC ⊢
  dsimp only at HC ⊢
  unfold RD.cells zero8 at hw
  rw [hk] at HC
  have hk0 : ¬ (fixO none) ≥ 0 := by simp [fixO]
  clear hk
  generalize fixO none = z at *
  go_enter Try.func36, Try.ntmps36
  go_wp2_with fail
  rw [← hw]
  refine (unhide HC).mono ?_
  rintro e' w2 ⟨rfl, hf2⟩
  have hB2 := (unhide HB).1.fr0 hf2
  have hG2 := (unhide HB).2.fr0 hB2.f
  have HW := hide (unhide HB).2
  clear hf2 HB HC hw
  obtain ⟨c0, c1, c2, c3, c4, c5, c6, c7, z7⟩ := cells_of8 hB2.d
  obtain ⟨a3, k3, w3, hr3, ho3, hf3, hn3⟩ := app_fi w2 0 (.slice ao Fs.length c) Fs (⟨n, []⟩, .slice none 0 0) hG2.row rfl (by omega) (Nat.zero_le _)
  dsimp only at hr3
  have hvW : ∀ k, (Value.slice ao Fs.length c).ownBlock = some k → k < W.heap.size := fun k hk => (unhide HW).lt k ((unhide HW).tr k hk)
  have hd3 : w3.heap[W.heap.size]? = _ := (hf3.block _ (lt_of_block hB2.d) (fun e => absurd (hvW _ e) (Nat.lt_irrefl _))).trans hB2.d
  have hz3 : w3.heap[W.heap.size + 1]? = _ := (hf3.block _ (lt_of_block hB2.z) (fun e => by have := hvW _ e; omega)).trans hB2.z
  obtain ⟨w4, hw4⟩ : ∃ w4, w4 = w3.setCell ⟨W.heap.size, 3, none⟩ (.slice a3 (Fs.length + 1) k3) := ⟨_, rfl⟩
  have hf4 : Fr (fun k => k = W.heap.size) w3 w4 := by rw [hw4]; exact (Fr.refl (fun k => k = W.heap.size) w3).setCell (p := ⟨W.heap.size, 3, none⟩) (.inl rfl) _
  have hz4 : w4.heap[W.heap.size + 1]? = _ := (hf4.block _ (lt_of_block hz3) (by show ¬ W.heap.size + 1 = W.heap.size; omega)).trans hz3
  obtain ⟨V, hrV, hgV, hfV⟩ := gbox hz4 (RD.mk li bo wt fs ar te false fu) a3 (Fs.length + 1) k3
  have hsz : W.heap.size + 1 < w2.heap.size := lt_of_block hB2.z
  have hfin : GAt V (.slice a3 (Fs.length + 1) k3) (Fs ++ [(⟨n, []⟩, .slice none 0 0)]) (fun k => T k ∨ (Value.slice a3 (Fs.length + 1) k3).ownBlock = some k) := by
    have hVk : ∀ k, k < w3.heap.size → k ≠ W.heap.size → k ≠ W.heap.size + 1 → V.heap[k]? = w3.heap[k]? := fun k hk h1 h2 => (hfV.block k (Nat.lt_of_lt_of_le hk hf4.size) h2).trans (hf4.block k hk h1)
    have hn : ∀ k, (Value.slice a3 (Fs.length + 1) k3).ownBlock = some k → k ≠ W.heap.size ∧ k ≠ W.heap.size + 1 := fun k hk => by
      rcases hn3 k hk with e | e
      · have := hvW k e; omega
      · omega
    refine ⟨?_, fun x hx => ?_, fun i j x y hx hy hij g hg hg' => ?_, fun g hg => .inr hg, fun x hx g hg => ?_, fun g hg => ?_⟩
    · rw [List.length_append]
      exact ownsRow_of_block ho3 (fun k hk => hVk k (ho3.lt k hk).2 (hn k hk).1 (hn k hk).2)
    · rcases List.mem_append.mp hx with hx | hx
      · refine ownsRow_of_block (hG2.b x hx) (fun k hk => ?_)
        have h1 := (unhide HW).lt k ((unhide HW).tb x hx k hk)
        have h2 : w3.heap[k]? = w2.heap[k]? := hf3.block k ((hG2.b x hx).lt k hk).2 (fun e => row_blk hG2.row e (hG2.b x hx) (by decide) hk)
        exact (hVk k (Nat.lt_of_lt_of_le ((hG2.b x hx).lt k hk).2 hf3.size) (by omega) (by omega)).trans h2
      · simp at hx
        subst hx
        exact World.ownsRow_nil _ _ _ _
    · by_cases hi : i < Fs.length
      · rw [List.getElem?_append_left hi] at hx
        by_cases hj : j < Fs.length
        · rw [List.getElem?_append_left hj] at hy
          exact hG2.ap i j x y hx hy hij g hg hg'
        · rw [List.getElem?_append_right (by omega)] at hy
          have : y = (⟨n, []⟩, .slice none 0 0) := by
            rcases hjj : j - Fs.length with _ | q
            · rw [hjj] at hy; simpa using hy.symm
            · rw [hjj] at hy; simp at hy
          subst this
          cases hg'
      · rw [List.getElem?_append_right (by omega)] at hx
        have : x = (⟨n, []⟩, .slice none 0 0) := by
          rcases hjj : i - Fs.length with _ | q
          · rw [hjj] at hx; simpa using hx.symm
          · rw [hjj] at hx; simp at hx
        subst this
        cases hg
    · rcases List.mem_append.mp hx with hx | hx
      · exact .inl (hG2.tb x hx g hg)
      · simp at hx
        subst hx
        cases hg
    · have hs : w2.heap.size ≤ V.heap.size := Nat.le_trans hf3.size (Nat.le_trans hf4.size hfV.size)
      rcases hg with hg | hg
      · exact Nat.lt_of_lt_of_le (hG2.lt g hg) hs
      · exact Nat.lt_of_lt_of_le (ho3.lt g hg).2 (Nat.le_trans hf4.size hfV.size)
  have hTT : Fr T W V := (((hB2.f.mono (fun _ _ h => h.elim)).trans hf3 (fun i hi e => (unhide HW).tr i e)).trans hf4 (fun i hi e => by have e' : i = W.heap.size := e; omega)).trans hfV (fun i hi e => by have e' : i = W.heap.size + 1 := e; omega)
  have hT2 : ∀ k, (T k ∨ (Value.slice a3 (Fs.length + 1) k3).ownBlock = some k) → T k ∨ W.heap.size ≤ k := fun k hk => by
    rcases hk with hk | hk
    · exact .inl hk
    · rcases hn3 k hk with e | e
      · exact .inl ((unhide HW).tr k e)
      · exact .inr (by omega)
  simp only [RD.agg] at hrV
  rw [hw4] at hrV
  have HV := hide hrV
  have HR3 := hide hr3
  have HE := hide (And.intro hgV (And.intro hfin (And.intro hT2 hTT)))
  have C3 := hide c3
  clear hrV hgV hfV hfin hTT hT2 hf4 hw4 hz4 hz3 ho3 hn3 hf3 hr3 hG2 hB2 HW hvW hsz z7 c0 c1 c2 c4 c5 c6 c7
  obtain ⟨k0, k1, k2, k3', k4, k5, k6, k7, z3⟩ := cells_of8 hd3
  clear hd3
  go_wp2_with (first | (at_builtin; refine wpList_app rfl _ _ 28 28 rfl _ _ _ rfl rfl (unhide HR3) ?_) | (refine wpList_stN rfl 30 _ _ rfl _ _ rfl rfl (unhide HV) ?_))
  (try simp only [Exit.inBlock, Exit.then])
  refine bodyPost_ret (results_cellt rfl _ _ (W.heap.size + 1) 0 _ _ _ rfl rfl (unhide HE).1 Try.underlying30 rfl (by kernel_rfl)) rfl ?_
  exact ⟨a3, k3, rfl, ⟨_, (unhide HE).2.1, (unhide HE).2.2.1⟩, (unhide HE).2.2.2⟩
end Go.Proofs.Ytoflkfnmbighaaa

