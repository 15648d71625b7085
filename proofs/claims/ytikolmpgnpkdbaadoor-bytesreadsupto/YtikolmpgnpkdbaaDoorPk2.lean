import Derived.Test.YtikolmpgnpkdbaaDoorPk1
import Derived.RegionDies
import Derived.Deep.QuietTactic
import Derived.BigQuiet
namespace Go.Proofs.YtikolmpgnpkdbaaDoor
open Go.RowKit

theorem Adv.far {w w' : World} {b o : Nat} {sv sv' : Value} {l : List Nat} (h : Adv w w' b o sv sv' l) {p : Addr} {v : Value} (hp : w.cell? p = some v) (hn : ¬ (p.block = b ∨ sv.ownBlock = some p.block)) : w'.cell? p = some v :=
  (h.fr.cell (lt_of_cell hp) hn).trans hp

theorem Adv.not_row {w w' : World} {b o k : Nat} {sv sv' : Value} {l : List Nat} (h : Adv w w' b o sv sv' l) (hk : k < w.heap.size) (hn : ¬ (k = b ∨ sv.ownBlock = some k)) : some k ≠ sv'.ownBlock := fun e => by
  rcases h.row k e.symm with hx | hx
  · exact hn hx
  · omega
theorem own_drew {w : World} {base e size n : Nat} {v : Value} {xs : List Value} (h : w.ownsRow base e size v n xs) : w.drew.ownsRow base e size v n xs := h

set_option maxRecDepth 100000 in
theorem wText_clo (b : Nat) (s : ByteArray) (most : Int) (p0 p1 p2 ea : Addr) (sv : Value) (l : List Nat) (w : World) (hn : (s.size : Int) ≤ most) (hmax : s.size < 4294967296)
    (he : w.cell? ⟨4, 0, none⟩ = some (.iface 147 (.pointer (some ea))))
    (hp0 : w.cell? p0 = some (.pointer (some ⟨b, 0, none⟩))) (hp1 : w.cell? p1 = some (.string s)) (hp2 : w.cell? p2 = some (.int .i64 most))
    (n0 : ¬ (p0.block = b ∨ sv.ownBlock = some p0.block)) (n1 : ¬ (p1.block = b ∨ sv.ownBlock = some p1.block))
    (h2 : w.cell? ⟨b, 2, none⟩ = some sv) (f2 : w.frozen? ⟨b, 2, none⟩ = false) (ho : w.ownsRow (b + 1) 5 1 sv l.length (cellsOf l)) (hl : l.length + 4 + s.size ≤ 140737488355328) :
    Calls Tryd.prog 77 #[.pointer (some p0), .pointer (some p1), .pointer (some p2)] w fun e w' => e = .returned (.tuple #[]) ∧ ∃ sv', Adv w w' b 2 sv sv' (l ++ (be 4 s.size ++ bytesOf s)) := by
  have HO := hide ho
  have N0 := hide n0
  have N1 := hide n1
  clear ho n0 n1
  go_enter Tryd.func77, Tryd.ntmps77
  go_wp2_with fail
  refine (wcount_ok b s.size most sv l ea _ hn hmax he h2 f2 (unhide HO) (by omega)).mono ?_
  rintro e w1 ⟨rfl, sv1, hA⟩
  have q0 := hA.far hp0 (unhide N0)
  have q1 := hA.far hp1 (unhide N1)
  have c2 := hA.c2
  have z2 := (hA.fz 2).trans f2
  have hb1 : b < w1.heap.size := lt_of_cell c2
  have hlen : (l ++ be 4 s.size).length = l.length + 4 := by simp [be_length]
  obtain ⟨ao, cap, w2, hr, hown, hgrow, hat⟩ := run_app_str w1.drew 25 (b + 1) _ sv1 _ s (own_drew hA.own) (by rw [hlen]; omega) hb1
  generalize (l ++ be 4 s.size).length + s.size = nn at hr hown hat
  clear hlen
  have hne : some b ≠ sv1.ownBlock := fun e => by have := hA.own.lt b e.symm; omega
  have k0 : w2.cell? ⟨b, 2, none⟩ = some sv1 := (hgrow.cell_far ⟨b, 2, none⟩ hb1 hne).trans c2
  have e0 : w2.frozen? ⟨b, 2, none⟩ = false := (hgrow.frozen_far ⟨b, 2, none⟩ hb1 hne).trans z2
  have m0 : w2.cell? p0 = some (.pointer (some ⟨b, 0, none⟩)) := (hgrow.cell_far p0 (lt_of_cell q0) (hA.not_row (lt_of_cell hp0) (unhide N0))).trans q0
  have HR := hide hr
  have HA := hide (And.intro hown (And.intro hgrow hat))
  clear hr hown hgrow hat hp0 hp1 h2 f2 he
  go_wp2_with fail
  go_region_law (refine step_app rfl (.tmp 12) (.tmp 13) 25 9 rfl sv1 (.string s) _ (by simp [Act.eval]) (by simp [Act.eval]) (unhide HR) ?_)
  all_goals
    go_wp2
    go_end0
    obtain ⟨hown, hgrow, hat⟩ := unhide HA
    exact ⟨rfl, _, hA.stepv (wa := w1.drew) ((Fr.refl _ _).drew) hgrow hown (by rw [← List.append_assoc, cellsOf_append _ (bytesOf s)]) hat⟩

set_option maxRecDepth 100000 in
theorem wBytes_clo (b : Nat) (x : Value) (s : List Nat) (most : Int) (p0 p1 p2 ea : Addr) (sv : Value) (l : List Nat) (w : World) (hx : Src w x s) (hn : (s.length : Int) ≤ most) (hmax : s.length < 4294967296)
    (he : w.cell? ⟨4, 0, none⟩ = some (.iface 147 (.pointer (some ea))))
    (hp0 : w.cell? p0 = some (.pointer (some ⟨b, 0, none⟩))) (hp1 : w.cell? p1 = some x) (hp2 : w.cell? p2 = some (.int .i64 most))
    (n0 : ¬ (p0.block = b ∨ sv.ownBlock = some p0.block)) (n1 : ¬ (p1.block = b ∨ sv.ownBlock = some p1.block)) (nx : ∀ g o m c, x = .slice (some ⟨g, o, none⟩) m c → ¬ (g = b ∨ sv.ownBlock = some g))
    (h2 : w.cell? ⟨b, 2, none⟩ = some sv) (f2 : w.frozen? ⟨b, 2, none⟩ = false) (ho : w.ownsRow (b + 1) 5 1 sv l.length (cellsOf l)) (hl : l.length + 4 + s.length ≤ 140737488355328) :
    Calls Tryd.prog 55 #[.pointer (some p0), .pointer (some p1), .pointer (some p2)] w fun e w' => e = .returned (.tuple #[]) ∧ ∃ sv', Adv w w' b 2 sv sv' (l ++ (be 4 s.length ++ s)) := by
  have HO := hide ho
  have N0 := hide n0
  have N1 := hide n1
  have NX := hide nx
  have HX := hide hx
  obtain ⟨xo, xc, rfl⟩ := hx.form
  clear ho n0 n1 nx hx
  go_enter Tryd.func55, Tryd.ntmps55
  go_wp2_with fail
  refine (wcount_ok b s.length most sv l ea _ hn hmax he h2 f2 (unhide HO) (by omega)).mono ?_
  rintro e w1 ⟨rfl, sv1, hA⟩
  have q0 := hA.far hp0 (unhide N0)
  have q1 := hA.far hp1 (unhide N1)
  have c2 := hA.c2
  have z2 := (hA.fz 2).trans f2
  have hb1 : b < w1.heap.size := lt_of_cell c2
  have hlen : (l ++ be 4 s.length).length = l.length + 4 := by simp [be_length]
  have hx1 : Src w1.drew (.slice xo s.length xc) s := (unhide HX).fr (hA.fr.drew) (unhide NX)
  obtain ⟨ao, cap, w2, hr, hown, hgrow, hat⟩ := run_app_sl w1.drew 25 (b + 1) _ sv1 _ _ s (own_drew hA.own) hx1 (by rw [hlen]; omega) hb1
  generalize (l ++ be 4 s.length).length + s.length = nn at hr hown hat
  clear hlen hx1
  have hne : some b ≠ sv1.ownBlock := fun e => by have := hA.own.lt b e.symm; omega
  have k0 : w2.cell? ⟨b, 2, none⟩ = some sv1 := (hgrow.cell_far ⟨b, 2, none⟩ hb1 hne).trans c2
  have e0 : w2.frozen? ⟨b, 2, none⟩ = false := (hgrow.frozen_far ⟨b, 2, none⟩ hb1 hne).trans z2
  have m0 : w2.cell? p0 = some (.pointer (some ⟨b, 0, none⟩)) := (hgrow.cell_far p0 (lt_of_cell q0) (hA.not_row (lt_of_cell hp0) (unhide N0))).trans q0
  have HR := hide hr
  have HA := hide (And.intro hown (And.intro hgrow hat))
  clear hr hown hgrow hat hp0 hp1 h2 f2 he
  go_wp2_with fail
  go_region_law (refine step_app rfl (.tmp 12) (.tmp 13) 25 25 rfl sv1 (.slice xo s.length xc) _ (by simp [Act.eval]) (by simp [Act.eval]) (unhide HR) ?_)
  all_goals
    go_wp2
    go_end0
    obtain ⟨hown, hgrow, hat⟩ := unhide HA
    exact ⟨rfl, _, hA.stepv (wa := w1.drew) ((Fr.refl _ _).drew) hgrow hown (by rw [← List.append_assoc, cellsOf_append _ s]) hat⟩

theorem wText_clo_bad (b : Nat) (s : ByteArray) (most : Int) (p0 p1 p2 ea : Addr) (nm : ByteArray) (ao : Option Addr) (n cap : Nat) (w : World) (hn : most < ((s.size : Nat) : Int) ∨ 4294967295 < s.size) (hm : s.size < 9223372036854775808)
    (he : w.cell? ⟨4, 0, none⟩ = some (.iface 147 (.pointer (some ea))))
    (hp0 : w.cell? p0 = some (.pointer (some ⟨b, 0, none⟩))) (hp1 : w.cell? p1 = some (.string s)) (hp2 : w.cell? p2 = some (.int .i64 most))
    (h0 : w.cell? ⟨b, 0, none⟩ = some (.string nm)) (h2 : w.cell? ⟨b, 2, none⟩ = some (.slice ao n cap)) :
    Calls Tryd.prog 77 #[.pointer (some p0), .pointer (some p1), .pointer (some p2)] w fun e w' => ∃ fa, e = .panicked [thrown fa] ∧ Bad w w' fa nm n ea := by
  have HN := hide hn
  clear hn
  go_enter Tryd.func77, Tryd.ntmps77
  go_wp2_with fail
  refine (wcount_bad b s.size most n cap ao nm ea _ (unhide HN) hm he h0 h2).mono ?_
  rintro e w1 ⟨fa, rfl, hB⟩
  exact ⟨rfl, fa, rfl, hB⟩
theorem wBytes_clo_bad (b : Nat) (xo : Option Addr)(len xc : Nat) (most : Int) (p0 p1 p2 ea : Addr) (nm : ByteArray) (ao : Option Addr) (n cap : Nat) (w : World) (hn : most < ((len : Nat) : Int) ∨ 4294967295 < len) (hm : len < 9223372036854775808)
    (he : w.cell? ⟨4, 0, none⟩ = some (.iface 147 (.pointer (some ea))))
    (hp0 : w.cell? p0 = some (.pointer (some ⟨b, 0, none⟩))) (hp1 : w.cell? p1 = some (.slice xo len xc)) (hp2 : w.cell? p2 = some (.int .i64 most))
    (h0 : w.cell? ⟨b, 0, none⟩ = some (.string nm)) (h2 : w.cell? ⟨b, 2, none⟩ = some (.slice ao n cap)) :
    Calls Tryd.prog 55 #[.pointer (some p0), .pointer (some p1), .pointer (some p2)] w fun e w' => ∃ fa, e = .panicked [thrown fa] ∧ Bad w w' fa nm n ea := by
  have HN := hide hn
  clear hn
  go_enter Tryd.func55, Tryd.ntmps55
  go_wp2_with fail
  refine (wcount_bad b len most n cap ao nm ea _ (unhide HN) hm he h0 h2).mono ?_
  rintro e w1 ⟨fa, rfl, hB⟩
  exact ⟨rfl, fa, rfl, hB⟩
end Go.Proofs.YtikolmpgnpkdbaaDoor

namespace Go.Proofs.YtikolmpgnpkdbaaDoor
open Go.RowKit

def Wst.putB (s : Wst) (x : List Nat) : Wst := if s.f = none then { s with l := s.l ++ x } else s
def Wst.fail (s : Wst) (ea : Addr) : Wst := if s.f = none then { s with f := some (s.nm, s.l.length, ea) } else s

theorem W.sv {w : World} {b : Nat} {F : Nat → Prop} {s : Wst} (h : W w b F s) (hn : s.f = none) : ∃ ao cap, w.cell? ⟨b, 2, none⟩ = some (.slice ao s.l.length cap) := by
  rcases h.st with ⟨h1, h2, sv, h3, h4, h5⟩ | ⟨what, place, ea, fb, h1, _⟩
  · obtain ⟨ao, cap, rfl⟩ := own_form h4
    exact ⟨ao, cap, h3⟩
  · rw [hn] at h1; cases h1

theorem Gl.fr0 {w w' : World} {E : Nat → Addr} (h : Gl w E) (hf : Fr (fun _ => False) w w') : Gl w' E := h.fr hf (fun _ h => h.elim)

theorem c30 (w : World) (v : Value) (t : TypeId) (o1 o2 : Obj) : (((w.alloc (.cells #[v] t)).alloc o1).alloc o2).cell? ⟨w.heap.size, 0, none⟩ = some v := by
  rw [World.cell?_alloc_past _ _ _ (by simp <;> omega), World.cell?_alloc_past _ _ _ (by simp), World.cell?_alloc_at _ _ _ _ rfl]; rfl
theorem c31 (w : World) (v : Value) (t : TypeId) (o1 o2 : Obj) : (((w.alloc o1).alloc (.cells #[v] t)).alloc o2).cell? ⟨w.heap.size + 1, 0, none⟩ = some v := by
  rw [World.cell?_alloc_past _ _ _ (by simp <;> omega), World.cell?_alloc_at _ _ _ _ (by simp)]; rfl
theorem c32 (w : World) (v : Value) (t : TypeId) (o1 o2 : Obj) : (((w.alloc o1).alloc o2).alloc (.cells #[v] t)).cell? ⟨w.heap.size + 1 + 1, 0, none⟩ = some v := by
  rw [World.cell?_alloc_at _ _ _ _ (by simp)]; rfl

set_option maxRecDepth 100000 in
theorem wText_any (b : Nat) (x : ByteArray) (most : Int) (F : Nat → Prop) (s : Wst) (E : Nat → Addr) (w : World) (hg : Gl w E) (h : W w b F s) (hx : x.size < 9223372036854775808) (hl : s.l.length + 4 + x.size ≤ 140737488355328) :
    Calls Tryd.prog 35 #[.pointer (some ⟨b, 0, none⟩), .string x, .int .i64 most] w fun e w' => e = .returned (.tuple #[]) ∧ ∃ F', W w' b F' (if (x.size : Int) ≤ most ∧ x.size < 4294967296 then s.putB (be 4 x.size ++ bytesOf x) else s.fail (E 2)) ∧ Ch w w' F F' := by
  have hb := h.lt b h.fb
  have hmf := mf
  have HG := hide hg
  clear hg
  have HX := hide hx
  clear hx
  by_cases hn : s.f = none
  · have HN := hide hn
    by_cases hc : (x.size : Int) ≤ most ∧ x.size < 4294967296
    · rw [if_pos hc, Wst.putB, if_pos hn]
      have HC := hide hc
      clear hn hc
      go_enter Tryd.func35, Tryd.ntmps35
      go_wp2_with fail
      refine (att_ok (w := w) (be 4 x.size ++ bytesOf x) h (unhide HN) (box3 _ _ _ _) (enters Tryd.func77 (by kernel_rfl) (by kernel_rfl) _) (fun wk sv hk h2 f2 ho hF => wText_clo b x most ⟨w.heap.size, 0, none⟩ ⟨w.heap.size + 1, 0, none⟩ ⟨w.heap.size + 1 + 1, 0, none⟩ (E 2) sv s.l wk (unhide HC).1 (unhide HC).2 (((unhide HG).fr0 ((box3 _ _ _ _).trans hk (fun _ _ h => h))).e2) ((hk.cell (by simp <;> omega) (fun h => h)).trans (c30 _ _ _ _ _)) ((hk.cell (by simp <;> omega) (fun h => h)).trans (c31 _ _ _ _ _)) ((hk.cell (by simp <;> omega) (fun h => h)).trans (c32 _ _ _ _ _)) (fun hk => by have := h.lt _ (hF _ hk); simp at this) (fun hk => by have := h.lt _ (hF _ hk); simp at this; omega) h2 f2 ho hl)).mono ?_
      rintro e w' ⟨rfl, hr⟩
      go_wp2_with fail
      go_end0
      exact ⟨rfl, hr⟩
    · rw [if_neg hc, Wst.fail, if_pos hn]
      have HC : Hid (most < ((x.size : Nat) : Int) ∨ 4294967295 < x.size) := by simp only [Hid]; omega
      clear hn hc
      go_enter Tryd.func35, Tryd.ntmps35
      go_wp2_with fail
      refine (att_bad (w := w) s.l.length (E 2) h (unhide HN) (box3 _ _ _ _) (enters Tryd.func77 (by kernel_rfl) (by kernel_rfl) _) (fun wk hk hW => by
        obtain ⟨ao, cap, h2⟩ := hW.sv (unhide HN)
        exact wText_clo_bad b x most ⟨w.heap.size, 0, none⟩ ⟨w.heap.size + 1, 0, none⟩ ⟨w.heap.size + 1 + 1, 0, none⟩ (E 2) s.nm ao s.l.length cap wk (unhide HC) (unhide HX) (((unhide HG).fr0 ((box3 _ _ _ _).trans hk (fun _ _ h => h))).e2) ((hk.cell (by simp <;> omega) (fun h => h)).trans (c30 _ _ _ _ _)) ((hk.cell (by simp <;> omega) (fun h => h)).trans (c31 _ _ _ _ _)) ((hk.cell (by simp <;> omega) (fun h => h)).trans (c32 _ _ _ _ _)) hW.c0 h2)).mono ?_
      rintro e w' ⟨rfl, hr⟩
      go_wp2_with fail
      go_end0
      exact ⟨rfl, hr⟩
  · have HN := hide hn
    have e : (if (x.size : Int) ≤ most ∧ x.size < 4294967296 then s.putB (be 4 x.size ++ bytesOf x) else s.fail (E 2)) = s := by simp [Wst.putB, Wst.fail, hn]
    rw [e]
    clear hn e
    go_enter Tryd.func35, Tryd.ntmps35
    go_wp2_with fail
    refine (att_given (w := w) h (unhide HN) (box3 _ _ _ _)).mono ?_
    rintro e w' ⟨rfl, hr⟩
    go_wp2_with fail
    go_end0
    exact ⟨rfl, hr⟩
set_option maxRecDepth 100000 in
theorem wBytes_any (b : Nat) (x : Value) (l : List Nat) (most : Int) (F : Nat → Prop) (s : Wst) (E : Nat → Addr) (w : World) (hg : Gl w E) (h : W w b F s) (hsrc : Src w x l) (nx : ∀ g o m c, x = .slice (some ⟨g, o, none⟩) m c → ¬ F g) (hx : l.length < 9223372036854775808) (hl : s.l.length + 4 + l.length ≤ 140737488355328) :
    Calls Tryd.prog 22 #[.pointer (some ⟨b, 0, none⟩), x, .int .i64 most] w fun e w' => e = .returned (.tuple #[]) ∧ ∃ F', W w' b F' (if (l.length : Int) ≤ most ∧ l.length < 4294967296 then s.putB (be 4 l.length ++ l) else s.fail (E 2)) ∧ Ch w w' F F' := by
  have hb := h.lt b h.fb
  have hmf := mf
  have HG := hide hg
  clear hg
  have HX := hide hx
  have HS := hide hsrc
  have NX := hide nx
  clear hx nx
  obtain ⟨xo, xc, rfl⟩ := hsrc.form
  clear hsrc
  by_cases hn : s.f = none
  · have HN := hide hn
    by_cases hc : (l.length : Int) ≤ most ∧ l.length < 4294967296
    · rw [if_pos hc, Wst.putB, if_pos hn]
      have HC := hide hc
      clear hn hc
      go_enter Tryd.func22, Tryd.ntmps22
      go_wp2_with fail
      refine (att_ok (w := w) (be 4 l.length ++ l) h (unhide HN) (box3 _ _ _ _) (enters Tryd.func55 (by kernel_rfl) (by kernel_rfl) _) (fun wk sv hk h2 f2 ho hF => wBytes_clo b (.slice xo l.length xc) l most ⟨w.heap.size, 0, none⟩ ⟨w.heap.size + 1, 0, none⟩ ⟨w.heap.size + 1 + 1, 0, none⟩ (E 2) sv s.l wk ((unhide HS).fr ((box3 _ _ _ _).trans hk (fun _ _ h => h)) (fun _ _ _ _ _ h => h)) (unhide HC).1 (unhide HC).2 (((unhide HG).fr0 ((box3 _ _ _ _).trans hk (fun _ _ h => h))).e2) ((hk.cell (by simp <;> omega) (fun h => h)).trans (c30 _ _ _ _ _)) ((hk.cell (by simp <;> omega) (fun h => h)).trans (c31 _ _ _ _ _)) ((hk.cell (by simp <;> omega) (fun h => h)).trans (c32 _ _ _ _ _)) (fun hk => by have := h.lt _ (hF _ hk); simp at this) (fun hk => by have := h.lt _ (hF _ hk); simp at this; omega) (fun g o m c e hk => (unhide NX) g o m c e (hF _ hk)) h2 f2 ho hl)).mono ?_
      rintro e w' ⟨rfl, hr⟩
      go_wp2_with fail
      go_end0
      exact ⟨rfl, hr⟩
    · rw [if_neg hc, Wst.fail, if_pos hn]
      have HC : Hid (most < ((l.length : Nat) : Int) ∨ 4294967295 < l.length) := by simp only [Hid]; omega
      clear hn hc
      go_enter Tryd.func22, Tryd.ntmps22
      go_wp2_with fail
      refine (att_bad (w := w) s.l.length (E 2) h (unhide HN) (box3 _ _ _ _) (enters Tryd.func55 (by kernel_rfl) (by kernel_rfl) _) (fun wk hk hW => by
        obtain ⟨ao, cap, h2⟩ := hW.sv (unhide HN)
        exact wBytes_clo_bad b xo l.length xc most ⟨w.heap.size, 0, none⟩ ⟨w.heap.size + 1, 0, none⟩ ⟨w.heap.size + 1 + 1, 0, none⟩ (E 2) s.nm ao s.l.length cap wk (unhide HC) (unhide HX) (((unhide HG).fr0 ((box3 _ _ _ _).trans hk (fun _ _ h => h))).e2) ((hk.cell (by simp <;> omega) (fun h => h)).trans (c30 _ _ _ _ _)) ((hk.cell (by simp <;> omega) (fun h => h)).trans (c31 _ _ _ _ _)) ((hk.cell (by simp <;> omega) (fun h => h)).trans (c32 _ _ _ _ _)) hW.c0 h2)).mono ?_
      rintro e w' ⟨rfl, hr⟩
      go_wp2_with fail
      go_end0
      exact ⟨rfl, hr⟩
  · have HN := hide hn
    have e : (if (l.length : Int) ≤ most ∧ l.length < 4294967296 then s.putB (be 4 l.length ++ l) else s.fail (E 2)) = s := by simp [Wst.putB, Wst.fail, hn]
    rw [e]
    clear hn e
    go_enter Tryd.func22, Tryd.ntmps22
    go_wp2_with fail
    refine (att_given (w := w) h (unhide HN) (box3 _ _ _ _)).mono ?_
    rintro e w' ⟨rfl, hr⟩
    go_wp2_with fail
    go_end0
    exact ⟨rfl, hr⟩
/-- Name. -/
theorem wName_any (b : Nat) (x : ByteArray) (F : Nat → Prop) (s : Wst) (w : World) (h : W w b F s) :
    Calls Tryd.prog 39 #[.pointer (some ⟨b, 0, none⟩), .string x] w fun e w' => e = .returned (.tuple #[]) ∧ W w' b F { s with nm := x } ∧ Ch w w' F F := by
  have h0 := h.c0
  have z0 := h.fz 0
  go_enter Tryd.func39, Tryd.ntmps39
  go_wp2
  go_end0
  refine ⟨rfl, ?_, (Fr.refl _ _).setCell (.inl h.fb) _, fun _ hk => .inl hk⟩
  have hc : ∀ i, i ≠ 0 → (w.setCell ⟨b, 0, none⟩ (.string x)).cell? ⟨b, i, none⟩ = w.cell? ⟨b, i, none⟩ := fun i hi => World.cell?_setCell_other _ _ _ _ (by intro h; injection h with _ h2 _; exact hi h2.symm)
  refine ⟨fun k hk => by rw [World.size_setCell]; exact h.lt k hk, h.lo, h.fb, World.cell?_setCell_same _ _ _ h0, fun i => by rw [World.frozen?_setCell]; exact h.fz i, ?_⟩
  rcases h.st with ⟨h1, h2, sv, h3, h4, h5⟩ | ⟨what, place, ea, fb, h1, h2, h3, h4⟩
  · exact .inl ⟨h1, (hc 1 (by decide)).trans h2, sv, (hc 2 (by decide)).trans h3, ownsRow_setCell_below h4 (Nat.lt_succ_self b) _, h5⟩
  · refine .inr ⟨what, place, ea, fb, h1, (hc 1 (by decide)).trans h2, h3, ?_⟩
    rw [Below.heap_setCell _ _ _ _ (fun e => ?_)]
    · exact h4
    · have e' : fb = b := e
      subst e'
      simp [World.cell?, h4, faultObj] at h2

/-- NewWriter. -/
theorem newWriter_any (w : World) (hw : 9 ≤ w.heap.size) :
    Calls Tryd.prog 11 #[] w fun e w' => e = .returned (.pointer (some ⟨w.heap.size, 0, none⟩)) ∧ W w' w.heap.size (fun k => k = w.heap.size) ⟨ByteArray.empty, [], none⟩ ∧ Fr (fun _ => False) w w' := by
  go_enter Tryd.func11, Tryd.ntmps11
  go_wp2
  go_ret
  refine ⟨rfl, ⟨?_, ?_, rfl, ?_, ?_, .inl ⟨rfl, ?_, .slice none 0 0, ?_, ?_, ?_⟩⟩, (Fr.refl _ _).alloc _⟩
  · intro k hk; simp [hk]
  · intro k hk; omega
  · simp; rfl
  · intro i; simp
  · simp
  · simp
  · exact World.ownsRow_nil _ _ _ _
  · intro k hk; cases hk
end Go.Proofs.YtikolmpgnpkdbaaDoor

namespace Go.Proofs.YtikolmpgnpkdbaaDoor
open Go.RowKit

theorem wpList_app {P : Program} {w w' : World} {ops : Array Oper} {rest : List Oper} {o : Oper} {a : Act} {Q : Exit → Act → World → Prop} (hgd : o.guard = none) (s x : Operand) (t u : TypeId)
    (ho : o.op = .call { callee := .builtin .append, args := #[s, x], argTypes := #[t, u] }) (vs vx v' : Value) (hs : a.eval s = vs) (hx : a.eval x = vx) (hr : (Builtin.append_ #[t, u] o.type #[vs, vx]).run P w = .ok v' w')
    (h : wpList P ops Q rest (a.put o.dst v') w') : wpList P ops Q (o :: rest) a w := by
  refine wpList_plain hgd fun K hK => ?_
  unfold Oper.wp execOp
  simp only [ho, resolve, invoke, builtin, Sem.run_bind, Sem.run_pure, Result.andThen_ok, List.map_toArray, List.map_cons, List.map_nil, hs, hx, hr]
  exact hK _ _ h

theorem Tryd.nn0 (w : World) : (binOp .eql 25 (.slice none 0 0) (.slice none 0 0)).run Tryd.prog w = .ok (.bool true) w := by kernel_rfl
theorem Tryd.nn1 (a : Addr) (n c : Nat) (w : World) : (binOp .eql 25 (.slice (some a) n c) (.slice none 0 0)).run Tryd.prog w = .ok (.bool false) w := by kernel_rfl

set_option maxRecDepth 100000 in
/-- bytes.Clone. -/
theorem clone_any (x : Value) (l : List Nat) (w : World) (hx : Src w x l) (hl : l.length ≤ 140737488355328) :
    Calls Tryd.prog 41 #[x] w fun e w' => ∃ v, e = .returned v ∧ w'.ownsRow w.heap.size 5 1 v l.length (cellsOf l) ∧ Fr (fun _ => False) w w' := by
  obtain ⟨rfl, rfl⟩ | ⟨a, c, rfl⟩ : (x = .slice none 0 0 ∧ l = []) ∨ ∃ a c, x = .slice (some a) l.length c := by
    rcases hx with h | ⟨g, o, c, rfl, _⟩ | ⟨a, c, rfl, rfl⟩
    · exact .inl h
    · exact .inr ⟨_, c, rfl⟩
    · exact .inr ⟨_, c, rfl⟩
  · have n0 := Tryd.nn0
    go_enter Tryd.func41, Tryd.ntmps41
    go_wp2
    go_ret
    exact ⟨_, rfl, World.ownsRow_nil _ _ _ _, Fr.refl _ _⟩
  · have hx1 : Src (w.alloc (.cells #[] 5)) (.slice (some a) l.length c) l := hx.fr ((Fr.refl (fun _ => False) _).alloc _) (fun _ _ _ _ _ h => h)
    obtain ⟨ao, cap, w2, hr, hown, hgrow, hat⟩ := run_app_sl (w.alloc (.cells #[] 5)) 25 w.heap.size 0 (.slice (some ⟨w.heap.size, 0, none⟩) 0 0) _ [] l (World.ownsRow_made w #[] 0 (Nat.le_refl _) (Nat.zero_le _) rfl) hx1 (by omega) (by simp)
    have HR := hide hr
    have HA := hide (And.intro hown hgrow)
    clear hr hown hgrow hat hx hx1
    have n1 := Tryd.nn1
    go_enter Tryd.func41, Tryd.ntmps41
    go_wp2_with (at_builtin; refine wpList_app rfl (.tmp 5) (.tmp 6) 25 25 rfl _ _ _ rfl rfl (unhide HR) ?_)
    go_ret
    obtain ⟨hown, hgrow⟩ := unhide HA
    exact ⟨_, rfl, by simpa using hown, ((Fr.refl _ _).alloc _).grown hgrow (fun k hk => .inr (by simp [Value.ownBlock] at hk; omega))⟩

theorem told_none (b : Nat) (w : World) (h1 : w.cell? ⟨b, 1, none⟩ = some (.pointer none)) :
    Calls Tryd.prog 40 #[.pointer (some ⟨b, 0, none⟩)] w fun e w' => e = .returned .nilIface ∧ w' = w := by
  go_enter Tryd.func40, Tryd.ntmps40
  go_wp2
  go_ret
  exact ⟨rfl, rfl⟩

theorem told_some (b fb place : Nat) (nm : ByteArray) (ea : Addr) (w : World) (h1 : w.cell? ⟨b, 1, none⟩ = some (.pointer (some ⟨fb, 0, none⟩))) (hf : w.heap[fb]? = some (faultObj nm place ea)) :
    Calls Tryd.prog 40 #[.pointer (some ⟨b, 0, none⟩)] w fun e w' => e = .returned (.iface 64 (.pointer (some ⟨w.heap.size, 0, none⟩))) ∧ w' = w.alloc (faultObj nm place ea) := by
  have hc : ∀ i, w.cell? ⟨fb, i, none⟩ = #[Value.string nm, .int .i64 place, .iface 147 (.pointer (some ea))][i]? := fun i => cell_of_row w fb i _ _ _ hf
  have c0 := hc 0
  have c1 := hc 1
  have c2 := hc 2
  simp at c0 c1 c2
  clear hc
  have HF := hide hf
  clear hf
  go_enter Tryd.func40, Tryd.ntmps40
  go_wp2
  go_ret
  exact ⟨rfl, rfl⟩

theorem W.src {w : World} {b : Nat} {F : Nat → Prop} {s : Wst} (h : W w b F s) (hn : s.f = none) : ∃ sv, w.cell? ⟨b, 2, none⟩ = some sv ∧ Src w sv s.l := by
  rcases h.st with ⟨h1, h2, sv, h3, h4, h5⟩ | ⟨what, place, ea, fb, h1, _⟩
  · refine ⟨sv, h3, ?_⟩
    rcases h4.2 with ⟨rfl, e⟩ | ⟨g, cap, cur, rfl, hb, hg, hc⟩
    · exact .inl ⟨rfl, List.eq_nil_of_length_eq_zero e⟩
    · refine .inr (.inl ⟨g, 0, cap, rfl, fun j v hv => ?_⟩)
      have := h4.cells (g := g) rfl j v hv
      have e : (⟨g, 0, none⟩ : Addr).add j = ⟨g, 0 + j, none⟩ := by unfold Addr.add; split <;> simp_all
      rw [e] at this; exact this
  · rw [hn] at h1; cases h1

set_option maxRecDepth 100000 in
theorem wDone_ok (b : Nat) (F : Nat → Prop) (s : Wst) (w : World) (h : W w b F s) (hn : s.f = none) (hl : s.l.length ≤ 140737488355328) :
    Calls Tryd.prog 14 #[.pointer (some ⟨b, 0, none⟩)] w fun e w' => ∃ v, e = .returned (.tuple #[v, .nilIface]) ∧ w'.ownsRow w.heap.size 5 1 v s.l.length (cellsOf s.l) ∧ Fr (fun _ => False) w w' := by
  obtain ⟨sv, h2, hsrc⟩ := h.src hn
  have h1 : w.cell? ⟨b, 1, none⟩ = some (.pointer none) := by
    rcases h.st with ⟨_, h2, _⟩ | ⟨what, place, ea, fb, h1, _⟩
    · exact h2
    · rw [hn] at h1; cases h1
  have HS := hide hsrc
  clear hsrc hn h
  go_enter Tryd.func14, Tryd.ntmps14
  go_wp2_with (go_at_call 41; refine (clone_any sv s.l _ (unhide HS) hl).mono ?_; rintro e w' ⟨v, rfl, hv, hf⟩)
  go_ret2
  exact ⟨v, rfl, hv, hf⟩

theorem wDone_bad (b : Nat) (F : Nat → Prop) (s : Wst) (what : ByteArray) (place : Nat) (ea : Addr) (w : World) (h : W w b F s) (hn : s.f = some (what, place, ea)) :
    Calls Tryd.prog 14 #[.pointer (some ⟨b, 0, none⟩)] w fun e w' => e = .returned (.tuple #[.slice none 0 0, .iface 64 (.pointer (some ⟨w.heap.size, 0, none⟩))]) ∧ w' = w.alloc (faultObj what place ea) := by
  rcases h.st with ⟨h1, _⟩ | ⟨what', place', ea', fb, h1, h2, h3, h4⟩
  · rw [hn] at h1; cases h1
  · rw [hn] at h1
    cases h1
    have H4 := hide h4
    clear h4 h hn
    go_enter Tryd.func14, Tryd.ntmps14
    go_wp2_with (go_at_call 40; refine (told_some b fb place what ea _ h2 (unhide H4)).mono ?_; rintro e w' ⟨rfl, rfl⟩)
    go_ret2
    exact ⟨rfl, rfl⟩
end Go.Proofs.YtikolmpgnpkdbaaDoor

namespace Go.Proofs.YtikolmpgnpkdbaaDoor
open Go.RowKit

/-- The package's ErrRange. -/
def Rg (w : World) (er : Addr) : Prop := w.cell? ⟨1, 0, none⟩ = some (.iface 147 (.pointer (some er)))
theorem Rg.fr {w w' : World} {er : Addr} {S : Nat → Prop} (h : Rg w er) (hf : Fr S w w') (hS : ∀ k, S k → 9 ≤ k) : Rg w' er :=
  (hf.cell (lt_of_cell h) (fun hs => by have := hS _ hs; simp at this)).trans h
theorem Rg.fr0 {w w' : World} {er : Addr} (h : Rg w er) (hf : Fr (fun _ => False) w w') : Rg w' er := h.fr hf (fun _ h => h.elim)

theorem wCount_clo_neg (b : Nat) (n : Int) (p0 p1 p2 er : Addr) (nm : ByteArray) (ao : Option Addr) (ln cap : Nat) (w : World) (hn : n < 0) (he : Rg w er)
    (hp0 : w.cell? p0 = some (.pointer (some ⟨b, 0, none⟩))) (hp1 : w.cell? p1 = some (.int .i64 n)) (h0 : w.cell? ⟨b, 0, none⟩ = some (.string nm)) (h2 : w.cell? ⟨b, 2, none⟩ = some (.slice ao ln cap)) :
    Calls Tryd.prog 78 #[.pointer (some p0), .pointer (some p1), .pointer (some p2)] w fun e w' => ∃ fa, e = .panicked [thrown fa] ∧ Bad w w' fa nm ln er := by
  have hd : decide (n < 0) = true := by simp; omega
  unfold Rg at he
  go_enter Tryd.func78, Tryd.ntmps78
  go_wp2_with fail
  refine (wrefuse_yes b ln cap ao nm er _ h0 h2).mono ?_
  rintro e w1 ⟨rfl, rfl⟩
  exact ⟨rfl, _, rfl, bad_of w nm ln er⟩

theorem wCount_clo (b n : Nat) (most : Int) (p0 p1 p2 ea er : Addr) (sv : Value) (l : List Nat) (w : World) (hn : (n : Int) ≤ most) (hmax : n < 4294967296) (hr : Rg w er)
    (he : w.cell? ⟨4, 0, none⟩ = some (.iface 147 (.pointer (some ea))))
    (hp0 : w.cell? p0 = some (.pointer (some ⟨b, 0, none⟩))) (hp1 : w.cell? p1 = some (.int .i64 n)) (hp2 : w.cell? p2 = some (.int .i64 most))
    (h2 : w.cell? ⟨b, 2, none⟩ = some sv) (f2 : w.frozen? ⟨b, 2, none⟩ = false) (ho : w.ownsRow (b + 1) 5 1 sv l.length (cellsOf l)) (hl : l.length + 4 ≤ 140737488355328) :
    Calls Tryd.prog 78 #[.pointer (some p0), .pointer (some p1), .pointer (some p2)] w fun e w' => e = .returned (.tuple #[]) ∧ ∃ sv', Adv w w' b 2 sv sv' (l ++ be 4 n) := by
  have HO := hide ho
  clear ho
  unfold Rg at hr
  have hd : decide ((n : Int) < 0) = false := by simp
  go_enter Tryd.func78, Tryd.ntmps78
  go_wp2_with fail
  refine (wrefuse_no _ _ _).mono ?_
  rintro e w1 ⟨rfl, rfl⟩
  go_wp2_with fail
  refine (wcount_ok b n most sv l ea _ hn hmax he h2 f2 (unhide HO) hl).mono ?_
  rintro e w1 ⟨rfl, hA⟩
  go_wp2_with fail
  go_end0
  exact ⟨rfl, hA⟩

theorem wCount_clo_long (b n : Nat) (most : Int) (p0 p1 p2 ea er : Addr) (nm : ByteArray) (ao : Option Addr) (ln cap : Nat) (w : World) (hn : most < (n : Int) ∨ 4294967295 < n) (hm : n < 9223372036854775808) (hr : Rg w er)
    (he : w.cell? ⟨4, 0, none⟩ = some (.iface 147 (.pointer (some ea))))
    (hp0 : w.cell? p0 = some (.pointer (some ⟨b, 0, none⟩))) (hp1 : w.cell? p1 = some (.int .i64 n)) (hp2 : w.cell? p2 = some (.int .i64 most))
    (h0 : w.cell? ⟨b, 0, none⟩ = some (.string nm)) (h2 : w.cell? ⟨b, 2, none⟩ = some (.slice ao ln cap)) :
    Calls Tryd.prog 78 #[.pointer (some p0), .pointer (some p1), .pointer (some p2)] w fun e w' => ∃ fa, e = .panicked [thrown fa] ∧ Bad w w' fa nm ln ea := by
  have HN := hide hn
  clear hn
  unfold Rg at hr
  have hd : decide ((n : Int) < 0) = false := by simp
  go_enter Tryd.func78, Tryd.ntmps78
  go_wp2_with fail
  refine (wrefuse_no _ _ _).mono ?_
  rintro e w1 ⟨rfl, rfl⟩
  go_wp2_with fail
  refine (wcount_bad b n most ln cap ao nm ea _ (unhide HN) hm he h0 h2).mono ?_
  rintro e w1 ⟨fa, rfl, hB⟩
  exact ⟨rfl, fa, rfl, hB⟩

/-- What Count makes of a writer. -/
def Wst.cnt (s : Wst) (n most : Int) (ea er : Addr) : Wst := if n < 0 then s.fail er else if n ≤ most ∧ n < 4294967296 then s.putB (be 4 n.toNat) else s.fail ea

set_option maxRecDepth 100000 in
theorem wCount_any (b : Nat) (n most : Int) (F : Nat → Prop) (s : Wst) (E : Nat → Addr) (er : Addr) (w : World) (hg : Gl w E) (hr : Rg w er) (h : W w b F s) (hx : n < 9223372036854775808) (hl : s.l.length + 4 ≤ 140737488355328) :
    Calls Tryd.prog 36 #[.pointer (some ⟨b, 0, none⟩), .int .i64 n, .int .i64 most] w fun e w' => e = .returned (.tuple #[]) ∧ ∃ F', W w' b F' (s.cnt n most (E 2) er) ∧ Ch w w' F F' := by
  have hb := h.lt b h.fb
  have hmf := mf
  have HG := hide (And.intro hg hr)
  clear hg hr
  by_cases hn : s.f = none
  · have HN := hide hn
    by_cases h0 : n < 0
    · rw [Wst.cnt, if_pos h0, Wst.fail, if_pos hn]
      clear hn
      go_enter Tryd.func36, Tryd.ntmps36
      go_wp2_with fail
      refine (att_bad (w := w) s.l.length er h (unhide HN) (box3 _ _ _ _) (enters Tryd.func78 (by kernel_rfl) (by kernel_rfl) _) (fun wk hk hW => by
        obtain ⟨ao, cap, h2⟩ := hW.sv (unhide HN)
        exact wCount_clo_neg b n ⟨w.heap.size, 0, none⟩ ⟨w.heap.size + 1, 0, none⟩ ⟨w.heap.size + 1 + 1, 0, none⟩ er s.nm ao s.l.length cap wk h0 ((unhide HG).2.fr0 ((box3 _ _ _ _).trans hk (fun _ _ h => h))) ((hk.cell (by simp <;> omega) (fun h => h)).trans (c30 _ _ _ _ _)) ((hk.cell (by simp <;> omega) (fun h => h)).trans (c31 _ _ _ _ _)) hW.c0 h2)).mono ?_
      rintro e w' ⟨rfl, hq⟩
      go_wp2_with fail
      go_end0
      exact ⟨rfl, hq⟩
    · obtain ⟨m, rfl⟩ := Int.eq_ofNat_of_zero_le (show 0 ≤ n by omega)
      by_cases hc : (m : Int) ≤ most ∧ (m : Int) < 4294967296
      · rw [Wst.cnt, if_neg h0, if_pos hc, Wst.putB, if_pos hn, Int.toNat_natCast]
        have HC := hide hc
        clear hn hc
        go_enter Tryd.func36, Tryd.ntmps36
        go_wp2_with fail
        refine (att_ok (w := w) (be 4 m) h (unhide HN) (box3 _ _ _ _) (enters Tryd.func78 (by kernel_rfl) (by kernel_rfl) _) (fun wk sv hk h2 f2 ho hF => wCount_clo b m most ⟨w.heap.size, 0, none⟩ ⟨w.heap.size + 1, 0, none⟩ ⟨w.heap.size + 1 + 1, 0, none⟩ (E 2) er sv s.l wk (unhide HC).1 (by have := (unhide HC).2; omega) ((unhide HG).2.fr0 ((box3 _ _ _ _).trans hk (fun _ _ h => h))) (((unhide HG).1.fr0 ((box3 _ _ _ _).trans hk (fun _ _ h => h))).e2) ((hk.cell (by simp <;> omega) (fun h => h)).trans (c30 _ _ _ _ _)) ((hk.cell (by simp <;> omega) (fun h => h)).trans (c31 _ _ _ _ _)) ((hk.cell (by simp <;> omega) (fun h => h)).trans (c32 _ _ _ _ _)) h2 f2 ho hl)).mono ?_
        rintro e w' ⟨rfl, hq⟩
        go_wp2_with fail
        go_end0
        exact ⟨rfl, hq⟩
      · rw [Wst.cnt, if_neg h0, if_neg hc, Wst.fail, if_pos hn]
        have HC : Hid (most < ((m : Nat) : Int) ∨ 4294967295 < m) := by simp only [Hid]; omega
        clear hn hc
        go_enter Tryd.func36, Tryd.ntmps36
        go_wp2_with fail
        refine (att_bad (w := w) s.l.length (E 2) h (unhide HN) (box3 _ _ _ _) (enters Tryd.func78 (by kernel_rfl) (by kernel_rfl) _) (fun wk hk hW => by
          obtain ⟨ao, cap, h2⟩ := hW.sv (unhide HN)
          exact wCount_clo_long b m most ⟨w.heap.size, 0, none⟩ ⟨w.heap.size + 1, 0, none⟩ ⟨w.heap.size + 1 + 1, 0, none⟩ (E 2) er s.nm ao s.l.length cap wk (unhide HC) (by omega) ((unhide HG).2.fr0 ((box3 _ _ _ _).trans hk (fun _ _ h => h))) (((unhide HG).1.fr0 ((box3 _ _ _ _).trans hk (fun _ _ h => h))).e2) ((hk.cell (by simp <;> omega) (fun h => h)).trans (c30 _ _ _ _ _)) ((hk.cell (by simp <;> omega) (fun h => h)).trans (c31 _ _ _ _ _)) ((hk.cell (by simp <;> omega) (fun h => h)).trans (c32 _ _ _ _ _)) hW.c0 h2)).mono ?_
        rintro e w' ⟨rfl, hq⟩
        go_wp2_with fail
        go_end0
        exact ⟨rfl, hq⟩
  · have HN := hide hn
    have e : s.cnt n most (E 2) er = s := by simp [Wst.cnt, Wst.putB, Wst.fail, hn]
    rw [e]
    clear hn e
    go_enter Tryd.func36, Tryd.ntmps36
    go_wp2_with fail
    refine (att_given (w := w) h (unhide HN) (box3 _ _ _ _)).mono ?_
    rintro e w' ⟨rfl, hq⟩
    go_wp2_with fail
    go_end0
    exact ⟨rfl, hq⟩
end Go.Proofs.YtikolmpgnpkdbaaDoor

namespace Go.Proofs.YtikolmpgnpkdbaaDoor
open Go.ChangeShapes Go.WideShapes Go.ChangeAt Go.RowKit
set_option maxRecDepth 100000

theorem heap_ok {W : World} (h : W.ShapedOpen Tryd.prog) : 9 ≤ W.heap.size := by
  obtain ⟨cs, hc, _⟩ := h.1 8 #[.nilIface] 123 (by decide +kernel) (by kernel_rfl)
  rcases Nat.lt_or_ge 8 W.heap.size with hx | hx
  · exact hx
  · rw [Array.getElem?_eq_none hx] at hc; cases hc

theorem Fr.low {w w' : World} (h : Fr (fun _ => False) w w') : Below w.heap.size w w' := ⟨h.os, h.tape, h.output, h.size, fun k hk => h.block k hk (fun x => x)⟩

theorem gl_of_seven {W : World} {r : List (String × DataW Unit)} {n1 n2 n3 n4 : String} (hL : laidMet Tryd.prog ((n1, Rows.laid_almoner_api_ErrShort) :: (n2, Rows.laid_almoner_api_ErrLong) :: (n3, Rows.laid_almoner_api_ErrTrailing) :: (n4, Rows.laid_almoner_api_ErrRange) :: r) W)
    (g1 : Tryd.prog.globalNamed n1 = some 3) (g2 : Tryd.prog.globalNamed n2 = some 4) (g3 : Tryd.prog.globalNamed n3 = some 0) (g4 : Tryd.prog.globalNamed n4 = some 1) : ∃ E er, Gl W E ∧ Rg W er := by
  obtain ⟨a1, h1⟩ := sentinel_cell hL (.head _) g1 (by kernel_rfl)
  obtain ⟨a2, h2⟩ := sentinel_cell hL (.tail _ (.head _)) g2 (by kernel_rfl)
  obtain ⟨a3, h3⟩ := sentinel_cell hL (.tail _ (.tail _ (.head _))) g3 (by kernel_rfl)
  obtain ⟨a4, h4⟩ := sentinel_cell hL (.tail _ (.tail _ (.tail _ (.head _)))) g4 (by kernel_rfl)
  exact ⟨fun n => if n = 1 then a1 else if n = 2 then a2 else a3, a4, ⟨h1, h2, h3⟩, h4⟩

/-- A world for a witness: the settled one, each listed variable holding an error of its text. -/
noncomputable def errLow : Nat := (World.holding Tryd.prog default ⟨#[], #[], []⟩).heap.size
noncomputable def errWorld (os : Os) : World :=
  let w0 := World.holding Tryd.prog os ⟨#[.cells #[.string ⟨#[116, 111, 111, 32, 102, 101, 119, 32, 98, 121, 116, 101, 115]⟩] 166, .cells #[.string ⟨#[116, 111, 111, 32, 108, 111, 110, 103]⟩] 166, .cells #[.string ⟨#[98, 121, 116, 101, 115, 32, 98, 101, 104, 105, 110, 100, 32, 116, 104, 101, 32, 101, 110, 100]⟩] 166, .cells #[.string ⟨#[97, 32, 110, 117, 109, 98, 101, 114, 32, 116, 104, 97, 116, 32, 109, 97, 121, 32, 110, 111, 116, 32, 98, 101]⟩] 166, .cells #[.string ⟨#[110, 111, 32, 115, 117, 99, 104, 32, 107, 105, 110, 100]⟩] 166, .cells #[.string ⟨#[110, 111, 116, 32, 105, 110, 32, 111, 114, 100, 101, 114]⟩] 166, .cells #[.string ⟨#[111, 119, 110]⟩] 166], #[], []⟩
  { w0 with heap := (((((((w0.heap.modify 3 fun
      | .cells _ t frozen => .cells #[.iface 147 (.pointer (some ⟨errLow + 0, 0, none⟩))] t frozen
      | o => o).modify 4 fun
      | .cells _ t frozen => .cells #[.iface 147 (.pointer (some ⟨errLow + 1, 0, none⟩))] t frozen
      | o => o).modify 0 fun
      | .cells _ t frozen => .cells #[.iface 147 (.pointer (some ⟨errLow + 2, 0, none⟩))] t frozen
      | o => o).modify 1 fun
      | .cells _ t frozen => .cells #[.iface 147 (.pointer (some ⟨errLow + 3, 0, none⟩))] t frozen
      | o => o).modify 5 fun
      | .cells _ t frozen => .cells #[.iface 147 (.pointer (some ⟨errLow + 4, 0, none⟩))] t frozen
      | o => o).modify 6 fun
      | .cells _ t frozen => .cells #[.iface 147 (.pointer (some ⟨errLow + 5, 0, none⟩))] t frozen
      | o => o).modify 7 fun
      | .cells _ t frozen => .cells #[.iface 147 (.pointer (some ⟨errLow + 6, 0, none⟩))] t frozen
      | o => o) }
end Go.Proofs.YtikolmpgnpkdbaaDoor

namespace Go.Proofs.YtikolmpgnpkdbaaDoor
open Go.RowKit

/-- A call, as the statements have it. -/
structure Pt where
  k : Int
  u : Nat
  s : ByteArray
  n : Int
  m : Int
def Pt.val (p : Pt) : Value := .agg #[.int .i64 p.k, .int .u64 p.u, .string p.s, .int .i64 p.n, .int .i64 p.m]
def kinds : List Int := [1, 2, 4, 8, 5, 6, 7, 9, 10]
def fk (k : Int) : Int := if k ∈ kinds then k else 4
def fn (k n : Int) : Int := if fk k = 9 ∧ (n < 0 ∨ 7 < n) then 0 else n
def Pt.fit (p : Pt) : Pt := { p with k := fk p.k, n := fn p.k p.n }

set_option maxRecDepth 100000 in
set_option maxHeartbeats 2000000 in
theorem fit_any (p : Pt) (w : World) :
    Calls Tryd.prog 12 #[.agg #[.int .i64 p.k, .int .u64 p.u, .string p.s, .int .i64 p.n, .int .i64 p.m]] w fun e w' => e = .returned (.agg #[.int .i64 (fk p.k), .int .u64 p.u, .string p.s, .int .i64 (fn p.k p.n), .int .i64 p.m]) ∧ Fr (fun _ => False) w w' := by
  obtain ⟨k, u, s, n, m⟩ := p
  simp only
  by_cases h9 : k = 9
  · subst h9
    have e1 : fk 9 = 9 := by decide
    rw [e1]
    by_cases h0 : n < 0
    · have e2 : fn 9 n = 0 := by simp [fn, e1, h0]
      rw [e2]
      clear e1 e2
      go_enter Tryd.func12, Tryd.ntmps12
      go_wp2
      exact bodyPost_ret (v := .agg #[.int .i64 9, .int .u64 u, .string s, .int .i64 0, .int .i64 m]) (by simp [results, Tryd.results12, go_sem]) rfl ⟨rfl, box2 _ _ _⟩
    · by_cases h7 : 7 < n
      · have e2 : fn 9 n = 0 := by simp [fn, e1, h7]
        rw [e2]
        clear e1 e2
        go_enter Tryd.func12, Tryd.ntmps12
        go_wp2
        exact bodyPost_ret (v := .agg #[.int .i64 9, .int .u64 u, .string s, .int .i64 0, .int .i64 m]) (by simp [results, Tryd.results12, go_sem]) rfl ⟨rfl, box2 _ _ _⟩
      · have e2 : fn 9 n = n := by simp [fn, e1, h7, h0]
        rw [e2]
        clear e1 e2
        go_enter Tryd.func12, Tryd.ntmps12
        go_wp2
        exact bodyPost_ret (v := .agg #[.int .i64 9, .int .u64 u, .string s, .int .i64 n, .int .i64 m]) (by simp [results, Tryd.results12, go_sem]) rfl ⟨rfl, box2 _ _ _⟩
  by_cases hk : k ∈ kinds
  · have e1 : fk k = k := by simp [fk, hk]
    have e2 : fn k n = n := by simp [fn, e1, h9]
    rw [e1, e2]
    clear e1 e2
    simp only [kinds, List.mem_cons, List.not_mem_nil, or_false] at hk
    rcases hk with rfl | rfl | rfl | rfl | rfl | rfl | rfl | rfl | rfl
    rotate_left 7
    · exact absurd rfl h9
    all_goals
      clear h9
      go_enter Tryd.func12, Tryd.ntmps12
      go_wp2
      exact bodyPost_ret (v := .agg #[.int .i64 _, .int .u64 u, .string s, .int .i64 n, .int .i64 m]) (by simp [results, Tryd.results12, go_sem]) rfl ⟨rfl, box2 _ _ _⟩
  · have e1 : fk k = 4 := by simp [fk, hk]
    have e2 : fn k n = n := by simp [fn, e1]
    rw [e1, e2]
    simp only [kinds, List.mem_cons, List.not_mem_nil, or_false, not_or] at hk
    obtain ⟨k1, k2, k4, k8, k5, k6, k7, _, k10⟩ := hk
    have b1 : (k != 1) = true := by rw [bne_iff_ne]; exact k1
    have b2 : (k != 2) = true := by rw [bne_iff_ne]; exact k2
    have b4 : (k != 4) = true := by rw [bne_iff_ne]; exact k4
    have b8 : (k != 8) = true := by rw [bne_iff_ne]; exact k8
    have b5 : (k != 5) = true := by rw [bne_iff_ne]; exact k5
    have b6 : (k != 6) = true := by rw [bne_iff_ne]; exact k6
    have b7 : (k != 7) = true := by rw [bne_iff_ne]; exact k7
    have b9 : (k != 9) = true := by rw [bne_iff_ne]; exact h9
    have b10 : (k != 10) = true := by rw [bne_iff_ne]; exact k10
    clear e1 e2 k1 k2 k4 k8 k5 k6 k7 k10 h9
    go_enter Tryd.func12, Tryd.ntmps12
    go_wp2
    exact bodyPost_ret (v := .agg #[.int .i64 4, .int .u64 u, .string s, .int .i64 n, .int .i64 m]) (by simp [results, Tryd.results12, go_sem]) rfl ⟨rfl, box2 _ _ _⟩
end Go.Proofs.YtikolmpgnpkdbaaDoor

namespace Go.Proofs.YtikolmpgnpkdbaaDoor
open Go.RowKit

/-- A reader that has not given up, cell by cell. -/
structure Rc (w : World) (b : Nat) (nm : ByteArray) (sv : Value) (all : List Nat) (place part : Nat) : Prop where
  c0 : w.cell? ⟨b, 0, none⟩ = some (.string nm)
  c1 : w.cell? ⟨b, 1, none⟩ = some (.pointer none)
  c2 : w.cell? ⟨b, 2, none⟩ = some sv
  c3 : w.cell? ⟨b, 3, none⟩ = some (.int .i64 place)
  c4 : w.cell? ⟨b, 4, none⟩ = some (.int .i64 part)
  fz : ∀ i, w.frozen? ⟨b, i, none⟩ = false
  src : Src w sv all
  ns : ∀ g o m c, sv = .slice (some ⟨g, o, none⟩) m c → g ≠ b ∧ m ≤ c ∧ m ≤ 140737488355328
  le : place ≤ all.length

theorem rrefuse_no (b : Nat) (why : Value) (w : World) :
    Calls Tryd.prog 86 #[.pointer (some ⟨b, 0, none⟩), .bool false, why] w fun e w' => e = .returned (.tuple #[]) ∧ w' = w := by
  go_enter Tryd.func86, Tryd.ntmps86
  go_wp2
  go_end0
  exact ⟨rfl, rfl⟩

theorem rrefuse_yes (b part : Nat) (nm : ByteArray) (ea : Addr) (w : World) (h0 : w.cell? ⟨b, 0, none⟩ = some (.string nm)) (h4 : w.cell? ⟨b, 4, none⟩ = some (.int .i64 part)) :
    Calls Tryd.prog 86 #[.pointer (some ⟨b, 0, none⟩), .bool true, .iface 147 (.pointer (some ea))] w fun e w' => e = .panicked [thrown ⟨w.heap.size, 0, none⟩] ∧ w' = (w.alloc (faultObj nm part ea)).drew := by
  go_enter Tryd.func86, Tryd.ntmps86
  go_wp2
  go_region_dies
  all_goals
    go_wp2_with fail
    refine (throwAt_any b part nm ea w.drew (by simpa using h0)).mono ?_
    rintro e w' ⟨rfl, rfl⟩
    exact ⟨rfl, rfl, rfl⟩

theorem bad_of_drew (w : World) (nm : ByteArray) (place : Nat) (ea : Addr) : Bad w (w.drew.alloc (faultObj nm place ea)).drew ⟨w.drew.heap.size, 0, none⟩ nm place ea :=
  ⟨((Fr.refl _ _).drew.alloc _).drew, ⟨rfl, rfl, Nat.le_refl _⟩, heap_alloc_new w.drew _⟩

theorem Fr.drewN {S : Nat → Prop} {a w : World} (h : Fr S a w) (n : Nat) : Fr S a (w.drewN n) := ⟨h.os, h.tape, h.output, h.size, h.block⟩

/-- The reader's place is written. -/
theorem Rc.moved {w : World} {b : Nat} {nm : ByteArray} {sv : Value} {all : List Nat} {place part : Nat} (h : Rc w b nm sv all place part) (p' a q : Nat) (hp : p' ≤ all.length) :
    Rc (((w.drewN a).setCell ⟨b, 3, none⟩ (.int .i64 p')).drewN q) b nm sv all p' part ∧ Fr (fun k => k = b) w (((w.drewN a).setCell ⟨b, 3, none⟩ (.int .i64 p')).drewN q) := by
  have hf : Fr (fun k => k = b) w (((w.drewN a).setCell ⟨b, 3, none⟩ (.int .i64 p')).drewN q) := (Fr.setCell (S := fun k => k = b) ((Fr.refl _ _).drewN a) (.inl rfl) _).drewN q
  have hc : ∀ i, i ≠ 3 → (((w.drewN a).setCell ⟨b, 3, none⟩ (.int .i64 p')).drewN q).cell? ⟨b, i, none⟩ = w.cell? ⟨b, i, none⟩ := fun i hi => by
    rw [World.cell?_drewN, World.cell?_setCell_other _ _ _ _ (by intro h; injection h with _ h2 _; exact hi h2.symm), World.cell?_drewN]
  refine ⟨⟨(hc 0 (by decide)).trans h.c0, (hc 1 (by decide)).trans h.c1, (hc 2 (by decide)).trans h.c2, ?_, (hc 4 (by decide)).trans h.c4, fun i => ?_, h.src.fr hf (fun g o m c e => (h.ns g o m c e).1), h.ns, hp⟩, hf⟩
  · rw [World.cell?_drewN]; exact World.cell?_setCell_same _ _ _ (by rw [World.cell?_drewN]; exact h.c3)
  · rw [World.frozen?_drewN, World.frozen?_setCell, World.frozen?_drewN]; exact h.fz i

theorem Rc.form {w : World} {b : Nat} {nm : ByteArray} {sv : Value} {all : List Nat} {place part : Nat} (h : Rc w b nm sv all place part) : ∃ ao cap, sv = .slice ao all.length cap ∧ all.length ≤ cap ∧ all.length ≤ 140737488355328 := by
  rcases h.src with ⟨rfl, rfl⟩ | ⟨g, o, c, rfl, _⟩ | ⟨a, c, rfl, rfl⟩
  · exact ⟨none, 0, rfl, by simp, by simp⟩
  · exact ⟨_, c, rfl, (h.ns _ _ _ _ rfl).2⟩
  · exact ⟨_, c, rfl, by simp, by simp⟩

/-- A piece of a slice. -/
theorem Src.cut {w : World} {ao : Option Addr} {all : List Nat} {cap : Nat} (h : Src w (.slice ao all.length cap) all) (place n : Nat) (hn : n + place ≤ all.length) (hlc : all.length ≤ cap) :
    Src w (.slice (if cap = place then ao else ao.map (·.add place)) n (cap - place)) ((all.drop place).take n) := by
  have hlen : ((all.drop place).take n).length = n := by simp; omega
  rcases h with ⟨hx, rfl⟩ | ⟨g, o, c, hx, hc⟩ | ⟨a, c, hx, rfl⟩
  rotate_left 2
  · simp only [Value.slice.injEq] at hx
    obtain ⟨rfl, -, rfl⟩ := hx
    simp at hn
    obtain ⟨rfl, rfl⟩ := hn
    by_cases hcp : cap = 0
    · rw [if_pos hcp]; exact .inr (.inr ⟨a, cap - 0, rfl, by simp⟩)
    · rw [if_neg hcp]; exact .inr (.inr ⟨a.add 0, cap - 0, rfl, by simp⟩)
  · simp only [Value.slice.injEq] at hx
    obtain ⟨rfl, -, rfl⟩ := hx
    simp at hn
    obtain ⟨rfl, rfl⟩ := hn
    exact .inl ⟨by simp, by simp⟩
  · simp only [Value.slice.injEq] at hx
    obtain ⟨rfl, -, rfl⟩ := hx
    by_cases hcp : cap = place
    · rw [if_pos hcp]
      have hn0 : n = 0 := by omega
      subst hn0
      exact .inr (.inl ⟨g, o, cap - place, by simp, fun j v hv => by simp [cellsOf] at hv⟩)
    · rw [if_neg hcp]
      refine .inr (.inl ⟨g, o + place, cap - place, ?_, fun j v hv => ?_⟩)
      · rw [hlen]
        have e : (⟨g, o, none⟩ : Addr).add place = ⟨g, o + place, none⟩ := by unfold Addr.add; split <;> simp_all
        simp [e]
      · have hj : j < n := by
          have := (List.getElem?_eq_some_iff.1 hv).1
          simpa [cellsOf_length, hlen] using this
        rw [Nat.add_assoc]
        refine hc (place + j) v ?_
        rw [← hv]
        simp [cellsOf, hj]

set_option maxRecDepth 100000 in
theorem take_raw (b n place len cap : Nat) (ao : Option Addr) (ea : Addr) (w : World) (hn : n + place ≤ len) (hlc : len ≤ cap) (hc : len ≤ 140737488355328)
    (he : w.cell? ⟨3, 0, none⟩ = some (.iface 147 (.pointer (some ea))))
    (h2 : w.cell? ⟨b, 2, none⟩ = some (.slice ao len cap)) (h3 : w.cell? ⟨b, 3, none⟩ = some (.int .i64 place)) (f3 : w.frozen? ⟨b, 3, none⟩ = false) :
    Calls Tryd.prog 61 #[.pointer (some ⟨b, 0, none⟩), .int .i64 n] w fun e w' => e = .returned (.slice (if cap = place then ao else ao.map (·.add place)) n (cap - place)) ∧ ∃ a q, w' = ((w.drewN a).setCell ⟨b, 3, none⟩ (.int .i64 (place + n : Nat))).drewN q := by
  have hw : IntKind.i64.wrap ((len : Int) - place) = (len : Int) - place := by rw [IntKind.wrap_i64]; omega
  have hd : decide ((len : Int) - place < n) = false := by simp; omega
  go_enter Tryd.func61, Tryd.ntmps61
  go_wp2_with fail
  go_quiet ((go_at_call 86; exact Calls.quiet_of_same (rrefuse_no _ _ _)))
  go_wp2_with fail
  go_quiet (fail)
  go_wp2_with fail
  all_goals
    go_ret
    exact ⟨rfl, _, _, rfl⟩

theorem take_ok (b n place part : Nat) (nm : ByteArray) (sv : Value) (all : List Nat) (E : Nat → Addr) (w : World) (hg : Gl w E) (h : Rc w b nm sv all place part) (hn : n + place ≤ all.length) :
    Calls Tryd.prog 61 #[.pointer (some ⟨b, 0, none⟩), .int .i64 n] w fun e w' => ∃ v, e = .returned v ∧ Src w' v ((all.drop place).take n) ∧ Rc w' b nm sv all (place + n) part ∧ Fr (fun k => k = b) w w' := by
  obtain ⟨ao, cap, rfl, hlc, hcb⟩ := h.form
  refine (take_raw b n place all.length cap ao (E 1) w hn hlc hcb hg.e1 h.c2 h.c3 (h.fz 3)).mono ?_
  rintro e w' ⟨rfl, a, q, rfl⟩
  obtain ⟨hr, hf⟩ := h.moved (place + n) a q (by omega)
  exact ⟨_, rfl, (hr.src.cut place n hn hlc), hr, hf⟩

set_option maxRecDepth 100000 in
set_option maxHeartbeats 1000000 in
theorem take_bad (b n place part : Nat) (nm : ByteArray) (sv : Value) (all : List Nat) (E : Nat → Addr) (w : World) (hg : Gl w E) (h : Rc w b nm sv all place part) (hn : all.length < n + place) (hnb : n < 9223372036854775808) :
    Calls Tryd.prog 61 #[.pointer (some ⟨b, 0, none⟩), .int .i64 n] w fun e w' => ∃ fa, e = .panicked [thrown fa] ∧ Bad w w' fa nm part (E 1) := by
  obtain ⟨ao, cap, rfl, hlc, hcb⟩ := h.form
  have he := hg.e1
  have h0 := h.c0
  have h2 := h.c2
  have h3 := h.c3
  have h4 := h.c4
  have hle := h.le
  clear hg h
  have hw : IntKind.i64.wrap ((all.length : Int) - place) = (all.length : Int) - place := by rw [IntKind.wrap_i64]; omega
  have hd : decide ((all.length : Int) - place < n) = true := by simp; omega
  go_enter Tryd.func61, Tryd.ntmps61
  go_wp2_with fail
  go_region_dies
  all_goals
    go_wp2_with fail
    refine (rrefuse_yes b part nm (E 1) w.drew (by simpa using h0) (by simpa using h4)).mono ?_
    rintro e w' ⟨rfl, rfl⟩
    exact ⟨rfl, _, rfl, bad_of_drew w nm part (E 1)⟩

end Go.Proofs.YtikolmpgnpkdbaaDoor

namespace Go.Proofs.YtikolmpgnpkdbaaDoor
open Go.RowKit

/-- The number of bytes. -/
def val (l : List Nat) : Nat := l.foldl (fun v c => v * 256 + c % 256) 0
theorem val_snoc (l : List Nat) (c : Nat) : val (l ++ [c]) = val l * 256 + c % 256 := by simp [val]
theorem fold_lt (l : List Nat) : ∀ v, l.foldl (fun v c => v * 256 + c % 256) v < (v + 1) * 256 ^ l.length := by
  induction l with
  | nil => intro v; simp
  | cons c l ih =>
    intro v
    refine Nat.lt_of_lt_of_le (ih (v * 256 + c % 256)) ?_
    have h : c % 256 < 256 := Nat.mod_lt _ (by decide)
    rw [List.length_cons, Nat.pow_succ, Nat.mul_comm (256 ^ l.length) 256, ← Nat.mul_assoc]
    exact Nat.mul_le_mul_right _ (by omega)
theorem val_lt (l : List Nat) : val l < 256 ^ l.length := by have := fold_lt l 0; simpa [val] using this
theorem or_byte (x c : Nat) (hx : x < 72057594037927936) : bits .or .u64 (IntKind.u64.wrap ((x : Int) * 256)) ((c : Int) % 256) = ((x * 256 + c % 256 : Nat) : Int) := by
  have e1 : IntKind.u64.wrap ((x : Int) * 256) = ((x * 256 : Nat) : Int) := by rw [IntKind.wrap_u64]; omega
  have e2 : (c : Int) % 256 = ((c % 256 : Nat) : Int) := by omega
  have hc : c % 256 < 2 ^ 8 := Nat.mod_lt _ (by decide)
  rw [e1, e2, u64_or_nat _ _ (by omega) (by omega)]
  have := Nat.two_pow_add_eq_or_of_lt hc x
  rw [Nat.mul_comm x 256, ← this]

set_option maxRecDepth 100000 in
theorem rnumber_ok (b size place part : Nat) (nm : ByteArray) (sv : Value) (all : List Nat) (E : Nat → Addr) (w : World) (hs : size ≤ 8) (hg : Gl w E) (h : Rc w b nm sv all place part) (hn : size + place ≤ all.length) :
    Calls Tryd.prog 53 #[.pointer (some ⟨b, 0, none⟩), .int .i64 size] w fun e w' => e = .returned (.int .u64 (val ((all.drop place).take size))) ∧ Rc w' b nm sv all (place + size) part ∧ Fr (fun k => k = b) w w' := by
  have HT := hide (take_ok b size place part nm sv all E w hg h hn)
  clear hg h
  go_enter Tryd.func53, Tryd.ntmps53
  go_wp2_with fail
  refine (unhide HT).mono ?_
  rintro e w1 ⟨v, rfl, hsrc, hr, hf⟩
  have hlen : ((all.drop place).take size).length = size := by simp; omega
  generalize hll : (all.drop place).take size = l at hsrc hlen
  have HLL := hide hll
  clear hll
  obtain ⟨xo, xc, rfl⟩ := hsrc.form
  have HS := hide hsrc
  have HRF := hide (And.intro hr hf)
  clear hsrc hr hf HT
  have hl8 : l.length ≤ 8 := by omega
  have hL := hide hlen
  clear hlen
  go_wp2_with fail
  go_loop [4, 11] (fun x i => ∃ k : Nat, k ≤ l.length ∧ i = .int .i64 k ∧ x = .int .u64 (val (l.take k))) (fun _ i => l.length - (intOf i).toNat)
  case atStart => exact ⟨0, Nat.zero_le _, rfl, rfl⟩
  case round =>
    obtain ⟨k, hk, rfl, rfl⟩ := hrel
    by_cases hlt : k < l.length
    · obtain ⟨g, o, rfl, hcell⟩ := src_at (unhide HS) k hlt
      have hv := val_lt (l.take k)
      go_wp2
      have hv2 : val (l.take k) < 72057594037927936 := by
        refine Nat.lt_of_lt_of_le hv (Nat.le_trans (Nat.pow_le_pow_right (by decide) (show (l.take k).length ≤ 7 by simp; omega)) (by decide))
      refine ⟨⟨k + 1, by omega, by go_num, ?_⟩, by simp [intOf]; omega⟩
      rw [or_byte _ _ hv2, List.take_add_one, List.getElem?_eq_getElem hlt, Option.toList_some, val_snoc]
    · go_wp2
      go_ret
      rw [List.take_of_length_le (by omega), unhide HLL]
      exact ⟨rfl, unhide HRF⟩
end Go.Proofs.YtikolmpgnpkdbaaDoor

namespace Go.Proofs.YtikolmpgnpkdbaaDoor
open Go.RowKit

theorem rnumber_bad (b size place part : Nat) (nm : ByteArray) (sv : Value) (all : List Nat) (E : Nat → Addr) (w : World) (hs : size ≤ 8) (hg : Gl w E) (h : Rc w b nm sv all place part) (hn : all.length < size + place) :
    Calls Tryd.prog 53 #[.pointer (some ⟨b, 0, none⟩), .int .i64 size] w fun e w' => ∃ fa, e = .panicked [thrown fa] ∧ Bad w w' fa nm part (E 1) := by
  have HT := hide (take_bad b size place part nm sv all E w hg h hn (by omega))
  clear hg h
  go_enter Tryd.func53, Tryd.ntmps53
  go_wp2_with fail
  refine (unhide HT).mono ?_
  rintro e w1 ⟨fa, rfl, hB⟩
  exact ⟨rfl, fa, rfl, hB⟩

/-- Behind a refusal of a reader's, whatever its place was by then. -/
structure BadR (w w' : World) (b : Nat) (fa : Addr) (nm : ByteArray) (place : Nat) (ea : Addr) : Prop where
  fr : Fr (fun k => k = b) w w'
  c0 : w'.cell? ⟨b, 0, none⟩ = some (.string nm)
  c1 : w'.cell? ⟨b, 1, none⟩ = some (.pointer none)
  fz : ∀ i, w'.frozen? ⟨b, i, none⟩ = false
  blk : fa.off = 0 ∧ fa.spot = none ∧ w.heap.size ≤ fa.block
  c : w'.heap[fa.block]? = some (faultObj nm place ea)

theorem BadR.of {w w1 w' : World} {b : Nat} {fa ea : Addr} {nm : ByteArray} {sv : Value} {all : List Nat} {p place part : Nat} (hr : Rc w1 b nm sv all place part) (hf : Fr (fun k => k = b) w w1) (hb : Bad w1 w' fa nm p ea) : BadR w w' b fa nm p ea := by
  have hlt : b < w1.heap.size := lt_of_cell hr.c0
  exact ⟨hf.trans hb.fr (fun _ _ h => h.elim), (hb.fr.cell hlt (fun h => h)).trans hr.c0, (hb.fr.cell hlt (fun h => h)).trans hr.c1, fun i => (hb.fr.frozen hlt (fun h => h)).trans (hr.fz i), ⟨hb.blk.1, hb.blk.2.1, Nat.le_trans hf.size hb.blk.2.2⟩, hb.c⟩

theorem Gl.frb {w w' : World} {E : Nat → Addr} {b : Nat} (h : Gl w E) (hf : Fr (fun k => k = b) w w') (hb : 9 ≤ b) : Gl w' E := h.fr hf (fun _ e => e ▸ hb)

/-- Function 'count' of a reader. -/
theorem rcount_ok (b place part : Nat) (most : Int) (nm : ByteArray) (sv : Value) (all : List Nat) (E : Nat → Addr) (w : World) (hb : 9 ≤ b) (hm : most < 9223372036854775808) (hg : Gl w E) (h : Rc w b nm sv all place part) (hn : 4 + place ≤ all.length) (hv : (val ((all.drop place).take 4) : Int) ≤ most) :
    Calls Tryd.prog 62 #[.pointer (some ⟨b, 0, none⟩), .int .i64 most] w fun e w' => e = .returned (.int .i64 (val ((all.drop place).take 4))) ∧ Rc w' b nm sv all (place + 4) part ∧ Fr (fun k => k = b) w w' := by
  have HT := hide (rnumber_ok b 4 place part nm sv all E w (by decide) hg h hn)
  have HG := hide hg
  clear hg h
  generalize val ((all.drop place).take 4) = x at *
  have h0 : 0 ≤ most := by omega
  go_enter Tryd.func62, Tryd.ntmps62
  go_wp2_with fail
  refine (unhide HT).mono ?_
  rintro e w1 ⟨rfl, hr, hf⟩
  have he := ((unhide HG).frb hf hb).e2
  have HRF := hide (And.intro hr hf)
  clear hr hf HT HG
  have hw : IntKind.u64.wrap most = most := by rw [IntKind.wrap_u64]; omega
  have hd : decide (most < (x : Int)) = false := by simp; omega
  have hd0 : decide (most < 0) = false := by simp; omega
  go_wp2_with fail
  refine (rrefuse_no _ _ _).mono ?_
  rintro e w' ⟨rfl, rfl⟩
  go_wp2_with fail
  go_ret
  exact ⟨rfl, unhide HRF⟩

theorem rcount_short (b place part : Nat) (most : Int) (nm : ByteArray) (sv : Value) (all : List Nat) (E : Nat → Addr) (w : World) (hg : Gl w E) (h : Rc w b nm sv all place part) (hn : all.length < 4 + place) :
    Calls Tryd.prog 62 #[.pointer (some ⟨b, 0, none⟩), .int .i64 most] w fun e w' => ∃ fa, e = .panicked [thrown fa] ∧ BadR w w' b fa nm part (E 1) := by
  have HT := hide (rnumber_bad b 4 place part nm sv all E w (by decide) hg h hn)
  have H := hide h
  clear hg h
  go_enter Tryd.func62, Tryd.ntmps62
  go_wp2_with fail
  refine (unhide HT).mono ?_
  rintro e w1 ⟨fa, rfl, hB⟩
  exact ⟨rfl, fa, rfl, BadR.of (unhide H) (Fr.refl _ _) hB⟩

theorem rcount_long (b place part : Nat) (most : Int) (nm : ByteArray) (sv : Value) (all : List Nat) (E : Nat → Addr) (w : World) (hb : 9 ≤ b) (hm : most < 9223372036854775808) (hm' : -9223372036854775808 ≤ most) (hg : Gl w E) (h : Rc w b nm sv all place part) (hn : 4 + place ≤ all.length) (hv : most < (val ((all.drop place).take 4) : Int)) :
    Calls Tryd.prog 62 #[.pointer (some ⟨b, 0, none⟩), .int .i64 most] w fun e w' => ∃ fa, e = .panicked [thrown fa] ∧ BadR w w' b fa nm part (E 2) := by
  have HT := hide (rnumber_ok b 4 place part nm sv all E w (by decide) hg h hn)
  have HG := hide hg
  clear hg h
  generalize val ((all.drop place).take 4) = x at *
  by_cases h0 : most < 0
  · go_enter Tryd.func62, Tryd.ntmps62
    go_wp2_with fail
    refine (unhide HT).mono ?_
    rintro e w1 ⟨rfl, hr, hf⟩
    have he := ((unhide HG).frb hf hb).e2
    have c0 := hr.c0
    have c4 := hr.c4
    have HRF := hide (And.intro hr hf)
    clear hr hf HT HG
    go_wp2_with fail
    refine (rrefuse_yes b part nm (E 2) w1 c0 c4).mono ?_
    rintro e w' ⟨rfl, rfl⟩
    exact ⟨rfl, _, rfl, BadR.of (unhide HRF).1 (unhide HRF).2 (bad_of w1 nm part (E 2))⟩
  · have hw : IntKind.u64.wrap most = most := by rw [IntKind.wrap_u64]; omega
    have hd0 : decide (most < 0) = false := by simp; omega
    have hd : decide (most < (x : Int)) = true := by simp; omega
    go_enter Tryd.func62, Tryd.ntmps62
    go_wp2_with fail
    refine (unhide HT).mono ?_
    rintro e w1 ⟨rfl, hr, hf⟩
    have he := ((unhide HG).frb hf hb).e2
    have c0 := hr.c0
    have c4 := hr.c4
    have HRF := hide (And.intro hr hf)
    clear hr hf HT HG
    go_wp2_with fail
    refine (rrefuse_yes b part nm (E 2) w1 c0 c4).mono ?_
    rintro e w' ⟨rfl, rfl⟩
    exact ⟨rfl, _, rfl, BadR.of (unhide HRF).1 (unhide HRF).2 (bad_of w1 nm part (E 2))⟩

theorem rU8_clo (b place part : Nat) (p0 : Addr) (nm : ByteArray) (sv : Value) (all : List Nat) (E : Nat → Addr) (w : World) (hg : Gl w E) (h : Rc w b nm sv all place part) (hp0 : w.cell? p0 = some (.pointer (some ⟨b, 0, none⟩))) (hn : 1 + place ≤ all.length) :
    Calls Tryd.prog 52 #[.pointer (some p0)] w fun e w' => e = .returned (.int .u8 (val ((all.drop place).take 1))) ∧ Rc w' b nm sv all (place + 1) part ∧ Fr (fun k => k = b) w w' := by
  have HT := hide (rnumber_ok b 1 place part nm sv all E w (by decide) hg h hn)
  have hlt : val ((all.drop place).take 1) < 256 := by
    have h1 := val_lt ((all.drop place).take 1)
    have h2 : ((all.drop place).take 1).length = 1 := by simp; omega
    rw [h2] at h1; exact h1
  clear hg h
  generalize val ((all.drop place).take 1) = x at *
  go_enter Tryd.func52, Tryd.ntmps52
  go_wp2_with fail
  refine (unhide HT).mono ?_
  rintro e w1 ⟨rfl, hr⟩
  have HR := hide hr
  clear hr HT
  go_wp2_with fail
  go_ret
  exact ⟨rfl, unhide HR⟩

theorem rU8_clo_bad (b place part : Nat) (p0 : Addr) (nm : ByteArray) (sv : Value) (all : List Nat) (E : Nat → Addr) (w : World) (hg : Gl w E) (h : Rc w b nm sv all place part) (hp0 : w.cell? p0 = some (.pointer (some ⟨b, 0, none⟩))) (hn : all.length < 1 + place) :
    Calls Tryd.prog 52 #[.pointer (some p0)] w fun e w' => ∃ fa, e = .panicked [thrown fa] ∧ BadR w w' b fa nm part (E 1) := by
  have HT := hide (rnumber_bad b 1 place part nm sv all E w (by decide) hg h hn)
  have H := hide h
  clear hg h
  go_enter Tryd.func52, Tryd.ntmps52
  go_wp2_with fail
  refine (unhide HT).mono ?_
  rintro e w1 ⟨fa, rfl, hB⟩
  exact ⟨rfl, fa, rfl, BadR.of (unhide H) (Fr.refl _ _) hB⟩
theorem rU16_clo (b place part : Nat) (p0 : Addr) (nm : ByteArray) (sv : Value) (all : List Nat) (E : Nat → Addr) (w : World) (hg : Gl w E) (h : Rc w b nm sv all place part) (hp0 : w.cell? p0 = some (.pointer (some ⟨b, 0, none⟩))) (hn : 2 + place ≤ all.length) :
    Calls Tryd.prog 65 #[.pointer (some p0)] w fun e w' => e = .returned (.int .u16 (val ((all.drop place).take 2))) ∧ Rc w' b nm sv all (place + 2) part ∧ Fr (fun k => k = b) w w' := by
  have HT := hide (rnumber_ok b 2 place part nm sv all E w (by decide) hg h hn)
  have hlt : val ((all.drop place).take 2) < 65536 := by
    have h1 := val_lt ((all.drop place).take 2)
    have h2 : ((all.drop place).take 2).length = 2 := by simp; omega
    rw [h2] at h1; exact h1
  clear hg h
  generalize val ((all.drop place).take 2) = x at *
  go_enter Tryd.func65, Tryd.ntmps65
  go_wp2_with fail
  refine (unhide HT).mono ?_
  rintro e w1 ⟨rfl, hr⟩
  have HR := hide hr
  clear hr HT
  go_wp2_with fail
  go_ret
  exact ⟨rfl, unhide HR⟩

theorem rU16_clo_bad (b place part : Nat) (p0 : Addr) (nm : ByteArray) (sv : Value) (all : List Nat) (E : Nat → Addr) (w : World) (hg : Gl w E) (h : Rc w b nm sv all place part) (hp0 : w.cell? p0 = some (.pointer (some ⟨b, 0, none⟩))) (hn : all.length < 2 + place) :
    Calls Tryd.prog 65 #[.pointer (some p0)] w fun e w' => ∃ fa, e = .panicked [thrown fa] ∧ BadR w w' b fa nm part (E 1) := by
  have HT := hide (rnumber_bad b 2 place part nm sv all E w (by decide) hg h hn)
  have H := hide h
  clear hg h
  go_enter Tryd.func65, Tryd.ntmps65
  go_wp2_with fail
  refine (unhide HT).mono ?_
  rintro e w1 ⟨fa, rfl, hB⟩
  exact ⟨rfl, fa, rfl, BadR.of (unhide H) (Fr.refl _ _) hB⟩
theorem rU32_clo (b place part : Nat) (p0 : Addr) (nm : ByteArray) (sv : Value) (all : List Nat) (E : Nat → Addr) (w : World) (hg : Gl w E) (h : Rc w b nm sv all place part) (hp0 : w.cell? p0 = some (.pointer (some ⟨b, 0, none⟩))) (hn : 4 + place ≤ all.length) :
    Calls Tryd.prog 81 #[.pointer (some p0)] w fun e w' => e = .returned (.int .u32 (val ((all.drop place).take 4))) ∧ Rc w' b nm sv all (place + 4) part ∧ Fr (fun k => k = b) w w' := by
  have HT := hide (rnumber_ok b 4 place part nm sv all E w (by decide) hg h hn)
  have hlt : val ((all.drop place).take 4) < 4294967296 := by
    have h1 := val_lt ((all.drop place).take 4)
    have h2 : ((all.drop place).take 4).length = 4 := by simp; omega
    rw [h2] at h1; exact h1
  clear hg h
  generalize val ((all.drop place).take 4) = x at *
  go_enter Tryd.func81, Tryd.ntmps81
  go_wp2_with fail
  refine (unhide HT).mono ?_
  rintro e w1 ⟨rfl, hr⟩
  have HR := hide hr
  clear hr HT
  go_wp2_with fail
  go_ret
  exact ⟨rfl, unhide HR⟩

theorem rU32_clo_bad (b place part : Nat) (p0 : Addr) (nm : ByteArray) (sv : Value) (all : List Nat) (E : Nat → Addr) (w : World) (hg : Gl w E) (h : Rc w b nm sv all place part) (hp0 : w.cell? p0 = some (.pointer (some ⟨b, 0, none⟩))) (hn : all.length < 4 + place) :
    Calls Tryd.prog 81 #[.pointer (some p0)] w fun e w' => ∃ fa, e = .panicked [thrown fa] ∧ BadR w w' b fa nm part (E 1) := by
  have HT := hide (rnumber_bad b 4 place part nm sv all E w (by decide) hg h hn)
  have H := hide h
  clear hg h
  go_enter Tryd.func81, Tryd.ntmps81
  go_wp2_with fail
  refine (unhide HT).mono ?_
  rintro e w1 ⟨fa, rfl, hB⟩
  exact ⟨rfl, fa, rfl, BadR.of (unhide H) (Fr.refl _ _) hB⟩
theorem rU64_clo (b place part : Nat) (p0 : Addr) (nm : ByteArray) (sv : Value) (all : List Nat) (E : Nat → Addr) (w : World) (hg : Gl w E) (h : Rc w b nm sv all place part) (hp0 : w.cell? p0 = some (.pointer (some ⟨b, 0, none⟩))) (hn : 8 + place ≤ all.length) :
    Calls Tryd.prog 83 #[.pointer (some p0)] w fun e w' => e = .returned (.int .u64 (val ((all.drop place).take 8))) ∧ Rc w' b nm sv all (place + 8) part ∧ Fr (fun k => k = b) w w' := by
  have HT := hide (rnumber_ok b 8 place part nm sv all E w (by decide) hg h hn)
  have hlt : val ((all.drop place).take 8) < 18446744073709551616 := by
    have h1 := val_lt ((all.drop place).take 8)
    have h2 : ((all.drop place).take 8).length = 8 := by simp; omega
    rw [h2] at h1; exact h1
  clear hg h
  generalize val ((all.drop place).take 8) = x at *
  go_enter Tryd.func83, Tryd.ntmps83
  go_wp2_with fail
  refine (unhide HT).mono ?_
  rintro e w1 ⟨rfl, hr⟩
  have HR := hide hr
  clear hr HT
  go_wp2_with fail
  go_ret
  exact ⟨rfl, unhide HR⟩

theorem rU64_clo_bad (b place part : Nat) (p0 : Addr) (nm : ByteArray) (sv : Value) (all : List Nat) (E : Nat → Addr) (w : World) (hg : Gl w E) (h : Rc w b nm sv all place part) (hp0 : w.cell? p0 = some (.pointer (some ⟨b, 0, none⟩))) (hn : all.length < 8 + place) :
    Calls Tryd.prog 83 #[.pointer (some p0)] w fun e w' => ∃ fa, e = .panicked [thrown fa] ∧ BadR w w' b fa nm part (E 1) := by
  have HT := hide (rnumber_bad b 8 place part nm sv all E w (by decide) hg h hn)
  have H := hide h
  clear hg h
  go_enter Tryd.func83, Tryd.ntmps83
  go_wp2_with fail
  refine (unhide HT).mono ?_
  rintro e w1 ⟨fa, rfl, hB⟩
  exact ⟨rfl, fa, rfl, BadR.of (unhide H) (Fr.refl _ _) hB⟩
end Go.Proofs.YtikolmpgnpkdbaaDoor

